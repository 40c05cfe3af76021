import PyProof.Rows.All
import OpenK.AllK
import Lean
import Wide.All
import PySem.Challenge.RW_tracebook_k53_rows_are_traces
section
set_option Elab.async false
structure PySem.W.Fast:Prop where(tw12934645064383798259 tw532745161737870133 tw7743243280018871091 tw13770866801207194406 tw4389999205601007383 tw4855322586242476219 tw8404522591327232678 tw11098937954495646646 tw17450830433956074188 tw15894507190348886443 tw9306015638259902953 tw7489292195730953853 tw1619902950295291815 tw6809210879709072013 tw975115285310356209 tw17360231269545492792 tw10907366023085460850 tw3037863026395356159 tw14457481470469143035 tw13070619286746485070 tw6015904794949571281 tw5968445770757560763 tw10705418530626049495 tw5837796649819144472 tw13663007866822659404 tw14408223083710209520 tw16868255139261364028 tw1148158382448269641 tw6327054688514539240 tw3338980515766348491 tw9006150731270964076 tw4913525587153402494 tw3358499750198326430 tw12033935389756982691 tw12748726764013445584 tw9363844786716215098 tw14302628358890987973 tw9269254841638347363 tw17848822328851438882 tw9810757898037613353 tw14176392241167116015 tw8746411390641004403 tw4293574271735172595 tw5586920130227236410 tw1424969076418039208 tw9761933374688377699 tw460024685584364249 tw12179900228458365520 tw5962655731421781749 tw11212276805399893081 tw13777168964649531577 tw16190086450906283175 tw9632224793800082839 tw6991489380333979803 tw16674323083108877734 tw11259569513656079825 tw9411415312798227833 tw12062734250728344687 tw8488998369824013513 tw8189822860604740151 tw8467041912902200934 tw12976312514995563633 tw6100490982330261137 tw17662581677735926668 tw10902984096552030832 tw11375501466333537358 tw15613218550161994553 tw12307453182840200663 tw6914142415602720390 tw12487764852465638185 tw914267611757743271 tw13081801383048408135 tw11323064021299870655 tw3930612356116406811 tw10949529281973515501 tw3256625999807009721 tw15035412628127549236 tw3158992555077731797 tw17207939915288258990 tw18071508065096126436 tw16524194536831896120 tw3009134670493788044 tw6241275916208492000 tw3134514479779637132 tw3594597127640791991 tw419963924164868349 tw4255261586734515640 tw12210490706254363325 tw13334078538867674540 tw10618190862239095267 tw6402733959105791334 tw382091466321863708 tw5459268436078209655 tw10335180244975570072 tw12677436962059635281 tw3450766134926556071 tw4042765977257822150 tw16258663779053577449 tw17067233920948039903 tw15566144333007435688 tw16402371328669446820 tw9417038312112933585 tw15146682499977010432 tw4962893928551034888 tw7640431586298455477 tw8726830558117808361 tw6077745978162215199 tw4579276214266972928 tw11660210530198243498 tw10261228228516075059 tw15533212617399800021 tw13075721012852961074 tw2085926163940506499 tw10871821213395268585 tw6143648664301842861 tw1514703695378652944 tw1192339465738349359 tw4467525132258895457 tw3949482662432017026 tw12332764432076522009 tw9588797008684402938 tw16696486115522856827 tw1941342547130632022 tw6548528521535642847 tw16842683184317176352 tw8316890850310483350 tw8588429376533737324 tw9900943509242937878 tw7629221311131267981 tw5881770016070834248 tw11312004530232830601 tw16006118491488668792 tw9688471338130254877 tw3249016381709282704 tw11362455848917230310 tw12420833938441647768 tw5765190410435338918 tw4551034554914870042 tw16857697029060837321 tw9054733303875274354 tw8592932657595245531 tw10505523106333280028 tw7145888975753514320 tw8585140528016076586 tw13273871394622170212 tw1343292695866912549 tw10265054012629093159 tw18222210796460162616 tw9021329112028462245 tw14949359624297027894 tw16617093674767683339 tw5095502098171777682 tw10407409924150013433 tw1970697932134142651 tw15547653542686356778 tw17200386033242377978 tw12572498558332752052 tw16589214614789272667 tw14510761046862333220 tw6236920617605125066 tw17498246600871383634 tw18096448228972133311 tw12749589779816455099 tw4099671380991271667 tw4350192737517530882 tw6002155352557928952 tw15427341424641301936 tw1534489066726003179 tw16442143708048208241 tw17229147175193563163 tw907437564803088115 tw18303595471936452138 tw5472646215789846434 tw11859741959529951421 tw11300212189077900131 tw15110538420515421960 tw7608618161028787080 tw9228220960395296964 tw5918289348752996660 tw8517911447252129100 tw7110300819853972491 tw11514634632636561670 tw18318784544179045008 tw6797606521030876957 tw15739069019673352242 tw11601576528951103757 tw3077559665988695759 tw9797990788514177086 tw11894649756914996791 tw12990716896122179387 tw12991157660023029422 tw7233791586853502672 tw10963758345308946359 tw506607584442608790 tw10993062561397109319:True)
open PySem PySem.W PyProof.Rows
set_option maxRecDepth 100000
set_option maxHeartbeats 0
open_top PySem.Challenge.cx_top for PySem.Challenge.rw_tracebook_k53_rows_are_traces
end
local macro_rules | `(tactic| trivial) => `(tactic| decide +kernel)
theorem ZK{α:Type}{a:α}{q:Prop}:a=a\/q:=Or.inl rfl
open Array renaming length_toList->SM,getElem?_eq_getElem->SW,getElem?_toList->Tg,getD_eq_getD_getElem?->Ur,getElem?_eq_none->UC,toList_inj->WN,getElem?_eq_some_iff->Xg,toList_map->Yd
open Array.Perm renaming refl->Vp
open Bool renaming false_ne_true->So,false_eq_true->S5,and_eq_true->Uj,eq_iff_iff->UJ,not_eq_true'->XN
open Classical renaming byContradiction->S0
open Exists renaming intro->YN
open False renaming elim->U3
open ForInStep renaming yield->VM
open Int renaming toNat_natCast->TZ,emod_nonneg->Wn,add_mul_emod_self_left->Xh,emod_lt_of_pos->Xs,toNat->XI,ofNat->Zf,zero_add->Zr,mul_add->ZE
open Int.ofNat renaming inj->X2
open List renaming getElem?_eq_getElem->RL,getElem?_eq_some_iff->RN,length_map->RP,mem_of_getElem?->RQ,range->RS,getD_eq_getElem?_getD->RT,mem_range->RU,mem_singleton->RX,getElem?_map->RY,replicate->RZ,mem_cons_of_mem->R3,mem_cons_self->R4,mem_append->R5,length_append->R8,mem_map->R9,length_take->Sd,size_toArray->Se,mem_cons->Sf,getElem?_of_mem->Sk,getElem?_eq_none->Sm,take_of_length_le->Sn,length_pos_iff->Sr,length_range->Sv,take_add_one->Sw,mem_filter->Sx,getElem?_append_left->Sz,getElem?_append_right->SE,all_eq_true->SF,mem_append_right->SJ,toArray->SN,map_append->SQ,nodup_cons->SS,length_cons->SU,take_length->SV,pairwise_iff_getElem->SX,idxOf_lt_length_of_mem->SY,getElem_mem->S3,map_cons->S6,getElem?_take_of_lt->Th,ext_getElem?->Tr,mem_append_left->Tx,replicate_succ->TK,pairwise_lt_range->TM,getElem?_range->TU,map_congr_left->TV,lookup_cons->TX,nodup_range->T6,not_mem_nil->T7,length_eq_zero_iff->Ud,pairwise_cons->Ug,filterMap_cons->Uk,length_filter_le->Up,map_map->Ux,mem_flatten->Uz,getElem?_set_self->UB,flatten_cons->UG,take_append_drop->UK,ne_nil_of_mem->UN,getElem?_set_ne->UO,length_dropLast->UP,flatten_append->U0,perm_ext_iff_of_nodup->U1,length_singleton->U6,lookup_append->U7,drop_eq_getElem_cons->Va,replicate_succ'->Vc,append_assoc->Vf,nodup_append->Vh,pairwise_map->Vi,find?_cons->Vj,range_succ->Vs,eq_of_mem_replicate->Vt,getElem?_replicate->Vu,getElem_idxOf->VD,filter_append->VE,append_nil->VH,length_replicate->VI,length_set->VJ,foldl_append->VT,mem_of_mem_take->VU,nodup_nil->VX,getD->V0,length->V4,any_cons->Wd,length_nil->Wf,filter_cons_of_neg->Wm,any_eq_false->Ws,lookup->Wu,getElem_inj->WJ,any_eq_true->WL,mem_of_mem_drop->WO,dropLast_concat_getLast->WU,map_id->WX,getElem_of_mem->WY,length_zip->WZ,length_reverse->W6,mem_filterMap->Xj,map_set->Xl,forIn_toArray->Xn,getElem?_drop->Xo,zipWith->Xr,filterMap_map->Xt,getElem?_zip_eq_some->Xx,mem_of_find?_eq_some->XA,getLastD_eq_getLast?->XB,idxOf_lt_length_iff->XH,find?_range_eq_some->XQ,find?_range_eq_none->XR,length_erase_of_mem->XT,all_cons->X1,filter_cons_of_pos->X8,length_drop->X9,perm_middle->Yb,ext_getElem->Yf,of_mem_zip->Yw,foldl_cons->Yx,forIn_cons->Yz,getElem?_zipWith->YI,pairwise_flatten->YJ,pairwise_append->YX,mem_iff_getElem->YY,filter_sublist->Y9,flatMap_append->Za,Nodup->Zl,map_nil->Zq
open List.Pairwise renaming filter->Uv,nil->XG,imp_of_mem->XW
open Nat renaming le_refl->R6,ne_of_lt->Sa,lt_or_ge->Sb,mod_eq_of_lt->Ss,lt_of_lt_of_le->Su,mod_lt->Sy,le_trans->SA,zero_le->SO,eq_zero_or_pos->Tc,lt_succ_of_lt->Td,mul_le_mul_left->Te,lt_of_le_of_lt->Ti,dvd_of_mod_eq_zero->Tj,zero_add->To,mod_add_mod->Tp,div_lt_of_lt_mul->Tz,add_mul_mod_self_left->TL,lt_trichotomy->TN,le_succ->T2,div_eq_of_lt->T8,lt_irrefl->T9,add_mul_div_left->Ue,add_zero->Uh,lt_succ_self->Ui,mul_pos->Uu,le_of_lt->Uw,eq_of_mul_eq_mul_left->UH,ne_of_gt->UI,mul_succ->UL,eq_of_beq_eq_true->UM,mul_le_mul_right->UQ,le_mul_of_pos_right->US,add_comm->UT,mul_comm->UU,div_add_mod->UZ,beq->U2,mul_zero->U8,zero_mod->U9,not_lt_zero->Vl,add_mod_mod->Vr,mul_assoc->Vw,mul_le_mul->Vz,le_of_eq->VG,succ_mul->VL,add_assoc->VS,le_add_right->V2,mod_self->V8,zero_mul->V9,mul_add->WA,mul_left_comm->WB,lt_trans->WI,add_mod->Xd,div_pos->Xe,mod_eq_sub_mod->Xp,zero_div->Xq,mul_div_le->XC,add_sub_of_le->XS,mul_mod_right->XU,le_of_not_lt->Ya,div_div_eq_div_mul->Yn,mod_add_div->YG,le_div_iff_mul_le->YH,div_le_self->YO,add_mul->Zb,le_of_dvd->Ze,sub_self->Zs,one_mul->ZF
open Ne renaming symm->UA
open Option renaming map_eq_some_iff->Tv,map_some->TQ,getD_some->Vx,isSome_iff_exists->XF,isSome_map->XJ
open Option.some renaming inj->SI
open Or renaming inl->VW
open PyProof.Rows renaming callWith_type1->Ts,boot_list->Tw,boot_sorted->T1,listUpdate_at->VR,boot_range->Wo,IntsAre->WK,entry_list_sort->W9,get?_update_seq->Xa,assignInOrder_cons->Xi,slot_list_sort->Xz,seqEpoch_at->X7,subscriptTail_builtinR->Yi,AllBare->Yo,plain_sorted->YE,entry_sorted->YF,boot_any->YK,boot_set->YL,boot_all->YM,args_list_sort->Y3,kind_sorted->Y8,Constant_none->Zc,size_push'->Zj,args_sorted1->Zv,listItems_at->Zx
open PyProof.Rows.F renaming plain_set_update_loop->Wk,entry_set_update_loop->X6
open PyProof.Rows.SortSt renaming mk'->Zk
open PySem renaming wpAny_bind->RO,Shared->RV,wpAny_pure->R1,Program->Sj,sizeLine->SG,sizeLine_eq->SH,wpAny_holding->S2,mainGlobals->S4,Around->S7,starEach->Ta,Paired->Tb,mem_of_lookup->Tt,FuncData->TC,codeAny_builtin->TF,wpAny_loadPart'->T4,plainId_quiet->Uc,wpAny_truthy_bool->Um,SetTable->Uq,wpAny_call_entry->Uy,wpAny_mono->UD,wpAny_newObj_type->UE,Builtin->Vb,wpAny_passesOwn->Vd,wpAny_pyIter_list->Ve,wpAny_setState_of->Vo,wpAny_callSpecial?_slot->Vv,wpAny_seqItems->Vy,wpAny_Call_Name_kw->VB,NameKind->VC,builtinLookup_eq_fast->VN,wpAny_updateSeq->VO,call_meets->V5,wpAny_typeOf->V6,wpAny_standAt->Wa,wpAny_specialOf->We,tupleKind_room_in1->Wg,wpAny_setField_rec->Wi,wpAny_newList->Wl,richCompare_meets_room->Wq,typeIs_int->Ww,GenState->WC,wpAny_tryCatch->WD,codeAny_mono->WH,wpAny_isInstance->WM,wpAny_attempt->WR,wpAny_execs_nil->WV,typeLookup_type->W2,wpAny_letGo->W5,wpAny_field->W7,ZipApart->Xm,BindsTo->Xv,wpAny_comprehension_free->XM,wpAny_askSetting->Yc,wpAny_pyNext_list_item->Yg,wpAny_nextOf_list_item->Yl,wpAny_richCompare_same->Ym,wpAny_isTrue_Compare1->Yp,wpAny_pyNext_list_end->Yq,Result->Ys,Keyword->Yv,pushCells_keeps->YA,wpAny_rule->YR,PlainAttrs->YS,intKind_is->YU,codeAny_extend_loopS->YW,isSubtype_type->YZ,entryFor_alias->Y0,wpAny_newTuple->Y1,wpAny_runValue->Y2,Within->Zm,seqIndex_neg->Zp,IsPair->Zt,seqIndex_of->Zz,putSet_of->ZA,wpAny_of_eq->ZC,Fin->ZD,PassesOwn->ZI,ItemsOf->ZJ
open PySem.Around renaming under_plainId->S9,under->Zn
open PySem.Builtin.Builtins renaming bindParams->Xc
open PySem.Builtin.Dict renaming updateFrom->X4
open PySem.Builtin.List renaming listExtendWith->TR,listTooLong->Vg,listSameRef->Vk,listLengthHint->W3,listItems->Yk
open PySem.Builtin.Range renaming rangeSize->X0
open PySem.Builtin.SmallTypes renaming ownedTupleIsFree->Ul,nextOf->VY
open PySem.Calls renaming call_function_entry->VZ,spliced_cons->Wb,spliced_nil->Wv,Name_function_global->Xf,callWith_builtin->Yj
open PySem.Code renaming isFrame->Zo
open PySem.F renaming plainAttrs_list->Us,plain_min_loop->U4,called_set->VP,slot_zip_getattribute->Wh,plain_list_iadd->Wz,slot_zip_next->W8,slot_dict_getitem->Xw,slot_list_extend->XX,type_list_extend->XY,slot_list_index->X3,entry_min_loop->Ye,entry_proto_collect->YC,plain_proto_collect->YD,slot_list_lt->Y4,plain_extend_loop->Y6
open PySem.Heap renaming get?_push_of_some->RW,lt_size->R7,get?_push_size->Si,get?_update_other->Tu,size_push->TY,get?_update_self->T3,get?_push_ne->Vq,SameBut->VF,size_update->V3,get?_update_ne->Xb
open PySem.Heap.SameBut renaming update->UY
open PySem.NameKind renaming free->Ua,cell->Ub
open PySem.Obj renaming mapSeq->SK,putSet->XO
open PySem.Paired renaming length->WQ
open PySem.PassesOwn renaming never->Ut
open PySem.SeqAt renaming EqAt->Zh
open PySem.SetTable renaming below->Tf,insertAt->Vm,toList_insertAt->Vn,bits->Wj,turns->WE,fits->WS,grown->Xy,fill->X5,runEnd->YB,probeStart->Y7,layClean->Zi,probe->ZG
open PySem.SetTable.below renaming go->Wx
open PySem.SetTable.layClean renaming free->VA
open PySem.SetTable.probe renaming go->Wy
open PySem.Shared renaming TypeIs->Zd
open PySem.Str renaming ofString->V7
open PySem.Value renaming ref->SR,none->Tq,int->U5,bool->YQ,notImplemented->YV,type->Zg,str->Zy
open PySem.W renaming Frag->RM,fnOf->S1,keepIn->S8,codeIn->TJ,findIn->T5,emptyDict->Uo,mg_of->UR,nsIn->UW,instObj->UX,plainGet->V1,callWith_K->Wc,hasDictIn->Wt,kas_sort->WT,plainGet_of->WW,isFn->Xk,lookIn->Xu,methodObj->XD,plainOver->XE,cellsFrom_some->Yh,takerIn->Yr,makesIn->Yt,methodCall_KW->Yu,OpenLaw->Yy,kas_descPart->Zw,kas_ask->ZH
open PySem.Walks renaming list->YT
open PySem.pickOrder renaming go->Zu
open Sum renaming inl->XZ,inr->Y5
open True renaming intro->VQ
set_option Elab.async false
set_option linter.all false
set_option maxRecDepth 100000
local macro_rules|`(tactic|lia)=>`(tactic|first|lia +ring|omega)
set_option hygiene false
local macro_rules|`(tactic|exists $t)=>`(tactic|refine $t (fun vs H Q E h=>by cases h;subst_vars;rfl) (fun cdv A outer s H vs Q E hr h=>?_))
set_option hygiene true
abbrev AT:=List Nat
abbrev AC:=List AT
section
set_option hygiene false
local macro_rules|`(tactic|exists $h,$X,$H,$d,$s:ident,$w:ident,$Y,$G:ident)=>`(tactic|(have $s:ident := ar $h $X;have $w:ident : upd $H $d $X $d = some $Y := aj;generalize upd $H $d $X = $G at $s:ident $w:ident ⊢))
local macro_rules|`(tactic|w_up)=>`(tactic|refine bL (by assumption) ?_)
local macro_rules|`(tactic|f_are)=>`(tactic|intro dh s σ H Q I h)
local macro_rules|`(tactic|f_int)=>`(tactic|(obtain⟨u,rfl,ru⟩:=vals1 r;cases(show u=SR p from ru);obtain⟨ZV,rv,pl,hz⟩:=I.list hS))
local macro_rules|`(tactic|f_len)=>`(tactic|(obtain⟨ZV,v1,p1,_⟩:=I.list h1;obtain⟨ZY,v2,p2,_⟩:=I.list h2;have e1:=v1.length;have e2:=v2.length))
local macro_rules|`(tactic|f_tup)=>`(tactic|(intro X hP hw hK hc i dh s σ H E I hf st hg;subst hP hw hK))
local macro_rules|`(tactic|k_all)=>`(tactic|intro dh s σ H xs us Q I r h)
local macro_rules|`(tactic|k_asm)=>`(tactic|(have mk0:∀y∈R,bq (cY R M) (nk y)=some (.int (mkO R M y:Int)):=λy hy=>gm nd (lJ hy) (getD_some (l:=M) 0 (by rw[ml];exact SY hy))))
local macro_rules|`(tactic|k_cls)=>`(tactic|refine aW (λc=>absurd c (by omega)) (λ_=>?_))
local macro_rules|`(tactic|k_exc)=>`(tactic|obtain⟨f0,f1,f2,f3,f4,f5⟩:=hf it (by simp))
local macro_rules|`(tactic|k_get)=>`(tactic|obtain⟨p,xs,rfl,hS,hP⟩:=h)
local macro_rules|`(tactic|k_go0)=>`(tactic|(subst e e';cases(show u=SR p from ru);cases(show v=SR q from rv)))
local macro_rules|`(tactic|k_mem)=>`(tactic|(exact .inr ⟨rfl,m1,K',λk hk=>by rw[hk.uni hl];exact H!⟩))
local macro_rules|`(tactic|k_not)=>`(tactic|intro dh s σ H x y v u Q I rx ry h)
local macro_rules|`(tactic|k_put)=>`(tactic|have d6:=s1.trans s2)
local macro_rules|`(tactic|k_sub)=>`(tactic|cases(show w'=V.int c from hw))
local macro_rules|`(tactic|k_upd)=>`(tactic|(unfold Vb.«sorted»;refine RO (m:=checkCount "sorted" 1 1 _) (R1 ?_)))
local macro_rules|`(tactic|l_fit)=>`(tactic|refine aW (λc=>?_) (λc=>?_))
local macro_rules|`(tactic|l_idx)=>`(tactic|intro dh s σ H D I h)
local macro_rules|`(tactic|l_out)=>`(tactic|exact this)
local macro_rules|`(tactic|o_new)=>`(tactic|(rw[hb]at h;have z:del H d d=none:=if_pos rfl;rw[z]at h;cases h))
local macro_rules|`(tactic|o_rec)=>`(tactic|rw[show bF f v ((k,x) :: r)=(if k=f then (k,v) :: r else (k,x) :: bF f v r) from rfl])
local macro_rules|`(tactic|o_src)=>`(tactic|dsimp only)
local macro_rules|`(tactic|walk_at "122")=>`(tactic|(subst ey;cases(show u=SR b from ry);obtain⟨z,hd,xs,rel,dd⟩:=vQ I.hok e))
local macro_rules|`(tactic|walk_at "123")=>`(tactic|(f_len;have e3:=r1.length;have e4:=r2.length))
local macro_rules|`(tactic|walk_at "124")=>`(tactic|(refine cS hT ?_;k_in;have h1:=gt.len;have h3:=gt.le))
local macro_rules|`(tactic|walk_at "125")=>`(tactic|(rintro i c w' σ' H3 d' R' R0 hc hs hw ⟨y,rfl⟩ J' a! ZZ;k_sub))
local macro_rules|`(tactic|walk_at "126")=>`(tactic|(obtain⟨p,xs,e,h1,r1⟩:=hx;obtain⟨q,ys,e',h2,r2⟩:=hy;k_go0))
local macro_rules|`(tactic|walk_at "127")=>`(tactic|obtain⟨os,hos,hex,hds⟩:=id hS)
local macro_rules|`(tactic|walk_at "128")=>`(tactic|refine thn (ha dh s σ H _ I h) λv s1 ⟨x,H1,I1,r1,q1⟩=>?_)
local macro_rules|`(tactic|walk_at "129")=>`(tactic|(refine⟨x,hx,λP G=>?_⟩;obtain⟨pp,sub,xP⟩:=h.sp g hx G))
local macro_rules|`(tactic|walk_at "130")=>`(tactic|rcases Z.own with ⟨gz,a,b,gO⟩|⟨T,b,oT,gz,gT,t1,t2,t3⟩)
local macro_rules|`(tactic|walk_at "131")=>`(tactic|intro dh s σ H x vs v us Q I rx rv h)
local macro_rules|`(tactic|walk_at "132")=>`(tactic|(k_go;refine aW (λc2=>?_) (λ_=>?_)))
local macro_rules|`(tactic|walk_at "133")=>`(tactic|(k_go;refine aW (λc1=>?_) (λ_=>?_)))
local macro_rules|`(tactic|walk_at "134")=>`(tactic|rcases g with ⟨kvs,k,e,ey,l⟩|⟨kvs,k,b,e,ey,eb,l⟩)
local macro_rules|`(tactic|walk_at "135")=>`(tactic|(subst ex;obtain rfl:u=SR a:=rx))
local macro_rules|`(tactic|walk_at "136")=>`(tactic|obtain⟨z,ZV,n,r,hl,e⟩:=I.p8 hH)
local macro_rules|`(tactic|walk_at "137")=>`(tactic|obtain⟨o',e1⟩:=I.base.there b o e hx)
local macro_rules|`(tactic|walk_at "138")=>`(tactic|exact I1.xk (R6 _) (I1.hok.fresh (R6 _)))
set_option hygiene true
namespace L2
open PySem PySem.Spec PyProof.Rows
variable {a b e:Addr}{g':Array WC}{d':Drawn}{h h':Heap}{dh pins':List (Addr×Obj)}{ch:List Addr}{us:List Value}{M:Model}{i t':Nat}{P:Sj}{x:Str}{Q:Unit->RV->Prop}{u:Value}{E:Value->RV->Prop}
abbrev ZS:=Option Value
abbrev ZR:=Option Addr
abbrev ZP:=Array Nat
abbrev ZO:=Array Value
abbrev ZN:=List Str
abbrev ZM:=List Int
abbrev ZL:=List Addr
abbrev Z9:=List Expr
abbrev Z8:=List Value
abbrev Z6:=Str->Option Value
abbrev Z4:=Array (Int×Value)
abbrev Z3:=List (Nat×Nat)
abbrev Z0:=List (Addr×Obj)
abbrev Key:=Sum Int Str
def sx:Key->Value->Bool
 | .inl k,v=>Value.isInt k v
 | .inr x,v=>Value.isStrOf x v
def Q3(w:World):Key->Int
 | .inl k=>hashInt k
 | .inr x=>hashStr w x
theorem cW:∀ {k:Key} {v:Value},sx k v=true->(∃i t,k=XZ i/\v=U5 i t)\/(∃x t,k=Y5 x/\v=Zy x t)
 | .inl i,v,h=>by
  obtain⟨t,e⟩:=Value.isInt_shape (k:=i) (v:=v) h;exact .inl ⟨i,t,rfl,e⟩
 | .inr x,v,h=>by
  obtain⟨t,e⟩:=Value.isStrOf_shape (x:=x) (v:=v) h;exact .inr ⟨x,t,rfl,e⟩
theorem GB(i:Int)(t:Tok):sx (.inl i) (.int i t)=true:=by simp[sx,Value.isInt]
theorem HV(x:Str)(t:Tok):sx (.inr x) (.str x t)=true:=by simp[sx,Value.isStrOf]
theorem Nw(a b:Int):decide ((XZ a:Key)=XZ b)=(a == b):=by
 by_cases e:a=b
 .subst e;simp
 .have h:¬ (XZ a:Key)=XZ b:=λq=>e (XZ.inj q);rw[decide_eq_false h];exact(beq_eq_false_iff_ne.mpr e).symm
theorem Ni(a b:Str):decide ((Y5 a:Key)=Y5 b)=decide (a=b):=by
 by_cases e:a=b
 .subst e;simp
 .have h:¬ (Y5 a:Key)=Y5 b:=λq=>e (Y5.inj q);rw[decide_eq_false h,decide_eq_false e]
theorem OE(a:Int)(b:Str):decide ((XZ a:Key)=Y5 b)=false:=decide_eq_false (λq=>nomatch q)
theorem Nv(a:Str)(b:Int):decide ((Y5 a:Key)=XZ b)=false:=decide_eq_false (λq=>nomatch q)
def bY(prog:Sj)(w:World):PySem.KeyKind prog w Key where
 is:=sx
 hash:=Q3 w
 inj:=λv a b ha hb=>by
  rcases cW ha with ⟨i,t,rfl,rfl⟩|⟨x,t,rfl,rfl⟩
  .rcases cW hb with ⟨j,u,rfl,e⟩|⟨y,u,rfl,e⟩
   .injection e with e1 _;rw[e1]
   .exact nomatch e
  .rcases cW hb with ⟨j,u,rfl,e⟩|⟨y,u,rfl,e⟩
   .exact nomatch e
   .injection e with e1 _;rw[e1]
 byValue:=λk v h=>by
  rcases cW h with ⟨i,t,rfl,rfl⟩|⟨x,t,rfl,rfl⟩ <;> rfl
 pyHash:=λhv h=>by
  rcases cW hv with ⟨i,t,rfl,rfl⟩|⟨x,t,rfl,rfl⟩
  .exact wpAny_pyHash_int h
  .exact wpAny_pyHash_str h
 eqBool:=λhu hv h=>by
  rcases cW hu with ⟨i,t,rfl,rfl⟩|⟨x,t,rfl,rfl⟩
  .rcases cW hv with ⟨j,u,rfl,rfl⟩|⟨y,u,rfl,rfl⟩
   .rw[Nw]at h;exact wpAny_eqBool_int h
   .rw[OE]at h;exact SeqAt.EqAt.int_str i t y u _ _ _ _ h
  .rcases cW hv with ⟨j,u,rfl,rfl⟩|⟨y,u,rfl,rfl⟩
   .rw[Nv]at h;exact SeqAt.EqAt.str_int x t j u _ _ _ _ h
   .rw[Ni]at h;exact wpAny_eqBool_str h
 «strs»:=λk x t v h=>by
  rcases cW h with ⟨i,u,rfl,e⟩|⟨y,u,rfl,e⟩
  .exact nomatch e
  .injection e with e1 _;subst e1;cases v <;> rfl
theorem Cw(prog:Sj)(w:World)(i:Int)(t:Tok):(bY prog w).is (.inl i) (.int i t)=true:=GB i t
theorem C4(prog:Sj)(w:World)(x:Str)(t:Tok):(bY prog w).is (.inr x) (.str x t)=true:=HV x t
inductive V where
 | non|bl (b:Bool)|int (i:Int)|str (x:Str)|byt (b:Array UInt8)|flt (b:UInt64)|ref (a:Addr)|ty (n:String)
 deriving DecidableEq
abbrev ZQ:=Option V
abbrev Z7:=List V
abbrev Z2:=List (Key×V)
def RelV:V->Value->Prop
 | .non,u=>u=Tq
 | .bl b,u=>u=YQ b
 | .int i,u=>∃t,u=U5 i t
 | .str x,u=>∃t,u=Zy x t
 | .byt b,u=>∃t,u=Value.bytes b t
 | .flt b,u=>∃t,u=Value.float b t
 | .ref a,u=>u=SR a
 | .ty n,u=>u=Zg n
abbrev Vals:List V->List Value->Prop:=Tb RelV
theorem Vals.length{xs:Z7}(r:Vals xs us):xs.length=us.length:=WQ r
theorem Vals.get:∀ {xs:Z7} {us:Z8} {i:Nat} {x:V},Vals xs us->xs[i]?=some x->∃u,us[i]?=some u/\RelV x u
 | _,_,_,_,.nil,e=>by simp at e
 | _,_,0,_,.cons r _,e=>by simp at e;subst e;exact⟨_,rfl,r⟩
 | _,_,i+1,x,.cons _ t,e=>by
  obtain⟨u,h1,h2⟩:=Vals.get (i:=i) (x:=x) t (by simpa using e)
  exact⟨u,by simpa using h1,h2⟩
theorem Vals.set{x:V}{u:Value}(r:RelV x u):∀ {xs:Z7} {us:Z8} (i:Nat),Vals xs us->Vals (xs.set i x) (us.set i u)
 | _,_,_,.nil=>.nil
 | _,_,0,.cons _ t=>.cons r t
 | _,_,i+1,.cons q t=>.cons q (Vals.set r i t)
theorem Vals.append:∀ {xs ys:Z7} {us ws:Z8},Vals xs us->Vals ys ws->Vals (xs++ys) (us++ws)
 | _,_,_,_,.nil,s=>s
 | _,_,_,_,.cons r t,s=>.cons r (Vals.append t s)
theorem Vals.take:∀ {xs:Z7} {us:Z8} (n:Nat),Vals xs us->Vals (xs.take n) (us.take n)
 | _,_,0,_=>.nil
 | _,_,_+1,.nil=>.nil
 | _,_,n+1,.cons r t=>.cons r (Vals.take n t)
theorem Vals.drop:∀ {xs:Z7} {us:Z8} (n:Nat),Vals xs us->Vals (xs.drop n) (us.drop n)
 | _,_,0,r=>r
 | _,_,_+1,.nil=>.nil
 | _,_,n+1,.cons _ t=>Vals.drop n t
def gf:Option V->Option Value->Prop
 | some v,some u=>RelV v u
 | none,none=>True
 | _,_=>False
def KV{κ:Type}:List (κ×V)->List (κ×Value)->Prop:=Tb λ(p:κ×V) (q:κ×Value)=>p.1=q.1/\RelV p.2 q.2
def kV:Key->V
 | .inl i=>.int i
 | .inr x=>.str x
inductive HO where
  | lst (xs:Z7)
  | tup (xs:Z7)
  | dK (kvs:Z2)|dT (kvs:List (List Key×V))
  | set (S:Int->Bool) (n:Nat)
  | ins (C dx:Addr) (fs:List (Str×V))
  | own (x:Addr)
  | xd (fs:List (Str×V))
  | met (f x:Addr)
  | rng (lo hi:Int)
  | frz (o:Obj) (u:HO)
  | tbl (ps:ZO)
  | ext (φ:Heap->Prop)
abbrev Hp:=Addr->Option HO
def upd(H:Hp)(a:Addr)(o:HO):Hp:=λb=>if b=a then some o else H b
theorem aj{H:Hp}{o:HO}:upd H a o a=some o:=by unfold upd;rw[if_pos rfl]
theorem ak{H:Hp}{o:HO}(h:b≠a):upd H a o b=H b:=by unfold upd;rw[if_neg h]
theorem QL{H:Hp}{o u:HO}(h:H a=some o)(h':H b=some u)(d:o≠u):a≠b:=by
 intro e;subst e;rw[h]at h';exact d (SI h')
theorem au{H:Hp}{o:HO}(h:H a=some o)(h':H b=none):a≠b:=by
 intro e;subst e;rw[h]at h';cases h'
section
variable (P:Sj)(w:World)
def cu(H:Hp)(h:Heap)(a:Addr):HO->Prop
 | .lst xs=>xs.length<=SG/\∃ (ZV:Z8) (n:Nat),Vals xs ZV/\h.get? a=some { cls:=.type "list",data:=.seq ZV.toArray n }
 | .tup xs=>xs.length<=SG/\∃ZV:Z8,Vals xs ZV/\IsTup h a ZV.toArray
 | .dK kvs=>kvs.length<=SG/\(a == sysModules)=false/\∃vs,KV kvs vs/\h.DictOf (bY P w) a vs
 | .dT kvs=>kvs.length<=SG/\(a == sysModules)=false/\∃xs:List (List Key×Addr×Value),
   Tb (λ(p:List Key×V) (q:List Key×Addr×Value)=>p.1=q.1/\H q.2.1=some (.tup (p.1.map kV))/\RelV p.2 q.2.2) kvs xs /\
   ∃o es ep,h.get? a=some o/\o.ExactDict/\o.data=.dict es ep/\es.toList=xs.map (entryOfKey (tupleKind (bY P w)))/\(xs.map (·.1)).Nodup
 | .set S n=>h.SetOf (intKind P w) a S n
 | .ins C dx fs=>H dx=some (.own a)/\fs.length<=1000/\dx≠a/\h.get? a=some (UX C dx) /\
   ∃mA,h.Ns1 dx mA/\(∀f,gf (fs.lookup f) (mA f))/\Zm mA (fs.map (·.1))
 | .own _=>∃o,h.get? a=some o
 | .xd fs=>∃mA,h.Ns1 a mA/\∀f,gf (fs.lookup f) (mA f)
 | .rng lo hi=>∃t u v,h.get? a=some { cls:=.type "range",data:=.fields #[.int lo t,.int hi u,.int 1 v] }
 | .frz o u=>h.get? a=some o/\cu H h a u
 | .tbl ps=>h.get? a=some { cls:=.none,data:=.fields ps }
 | .met f x=>h.get? a=some (XD (.ref f) (.ref x))
 | .ext φ=>φ h/\(∃o,h.get? a=some o)/\∀h1 h2:Heap,φ h1->(∀o,h1.get? a=some o->h2.get? a=some o)->φ h2
def HOk(H:Hp)(h:Heap):Prop:=∀a o,H a=some o->cu P w H h a o
end
section
variable {w:World}{H H':Hp}{o:HO}
theorem cu.lt(x:cu P w H h a o):a<h.objs.size:=by
 cases o with
 | lst xs=>obtain⟨_,_,_,_,e⟩:=x;exact R7 e
 | tup xs=>obtain⟨_,_,_,p⟩:=x;exact p.lt
 | dK kvs=>obtain⟨_,_,_,_,o,_,_,e,_⟩:=x;exact R7 e
 | dT kvs=>obtain⟨_,_,_,_,o,_,_,e,_⟩:=x;exact R7 e
 | set S n=>obtain⟨o,_,_,_,e,_⟩:=x;exact R7 e
 | ins C dx fs=>obtain⟨_,_,_,e,_⟩:=x;exact R7 e
 | own y=>obtain⟨_,e⟩:=x;exact R7 e
 | xd fs=>obtain⟨_,⟨_,_,_,e,_⟩,_⟩:=x;exact R7 e
 | rng lo hi=>obtain⟨_,_,_,e⟩:=x;exact R7 e
 | frz ob u=>obtain⟨e,_⟩:=x;exact R7 e
 | tbl ps=>exact R7 (show h.get? a=some _ from x)
 | met f y=>exact R7 (show h.get? a=some _ from x)
 | ext φ=>obtain⟨_,⟨_,e⟩,_⟩:=x;exact R7 e
theorem Paired.bK{α β:Type}{F G:α->β->Prop}:∀ {l₁:List α} {l₂:List β},Tb F l₁ l₂->(∀a b,F a b->G a b)->Tb G l₁ l₂
 | _,_,.nil,_=>.nil
 | _,_,.cons r t,f=>.cons (f _ _ r) (Paired.bK t f)
theorem cu.tW(x:cu P w H h a o)(k:∀b u,(b=a\/H b=some (.own a))->h.get? b=some u->h'.get? b=some u)
  (ho:∀b,H b=some (.own a)->H' b=some (.own a)) (ht:∀b xs,H b=some (.tup xs)->H' b=some (.tup xs)):cu P w H' h' a o:=by
 induction o with
 | lst xs=>obtain⟨z,ZV,n,r,e⟩:=x;exact⟨z,ZV,n,r,k _ _ (.inl rfl) e⟩
 | tup xs=>obtain⟨z,ZV,r,ob,e,c⟩:=x;exact⟨z,ZV,r,ob,k _ _ (.inl rfl) e,c⟩
 | dK kvs=>obtain⟨z,y,vs,r,ob,es,ep,e,c⟩:=x;exact⟨z,y,vs,r,ob,es,ep,k _ _ (.inl rfl) e,c⟩
 | dT kvs =>
  obtain⟨z,y,xs,r,ob,es,ep,e,c⟩:=x;exact⟨z,y,xs,Paired.bK r λp q z=>⟨z.1,ht _ _ z.2.1,z.2.2⟩,ob,es,ep,k _ _ (.inl rfl) e,c⟩
 | set S n=>obtain⟨ob,es,ep,t,e,c⟩:=x;exact⟨ob,es,ep,t,k _ _ (.inl rfl) e,c⟩
 | ins C dx fs =>
  obtain⟨d,z,ne,e,mA,⟨od,es,ep,e2,c⟩,r⟩:=x;exact⟨ho _ d,z,ne,k _ _ (.inl rfl) e,mA,⟨od,es,ep,k _ _ (.inr d) e2,c⟩,r⟩
 | own y=>obtain⟨ob,e⟩:=x;exact⟨ob,k _ _ (.inl rfl) e⟩
 | xd fs=>obtain⟨mA,⟨od,es,ep,e,c⟩,r⟩:=x;exact⟨mA,⟨od,es,ep,k _ _ (.inl rfl) e,c⟩,r⟩
 | rng lo hi=>obtain⟨t,u,v,e⟩:=x;exact⟨t,u,v,k _ _ (.inl rfl) e⟩
 | frz ob u ih=>obtain⟨e,q⟩:=x;exact⟨k _ _ (.inl rfl) e,ih q⟩
 | tbl ps =>
  have e:h.get? a=some { cls:=.none,data:=.fields ps }:=x;show h'.get? a=some { cls:=.none,data:=.fields ps };exact k a _ (.inl rfl) e
 | met f y =>
  have e:h.get? a=some (XD (.ref f) (.ref y)):=x;show h'.get? a=some (XD (.ref f) (.ref y));exact k a _ (.inl rfl) e
 | ext φ=>obtain⟨p,⟨o,e⟩,st⟩:=x;exact⟨st _ _ p λo q=>k _ _ (.inl rfl) q,⟨o,k _ _ (.inl rfl) e⟩,st⟩
theorem HOk.lt(x:HOk P w H h)(e:H a=some o):a<h.objs.size:=(x a o e).lt
theorem HOk.fresh(x:HOk P w H h)(e:h.objs.size<=a):H a=none:=by
 cases q:H a with
 | none=>rfl
 | some u=>exact absurd (Su (x.lt q) e) (T9 _)
theorem HOk.kept(x:HOk P w H h)(k:∀b u,h.get? b=some u->h'.get? b=some u):HOk P w H h':=λa o e =>
 (x a o e).tW (λb u _ q=>k b u q) (λ_ q=>q) λ_ _ q=>q
theorem HOk.laid(x:HOk P w H h)(k:∀b u,h.get? b=some u->h'.get? b=some u)(hp:h.objs.size<=a)(new:cu P w (upd H a o) h' a o):HOk P w (upd H a o) h':=λb u e=>by
 have hn:=x.fresh hp
 by_cases hb:b=a
 .subst hb;rw[aj]at e;cases e;exact new
 .rw[ak hb]at e;exact(x b u e).tW (λc v _ q=>k c v q) (λc q=>by rw[ak (au q hn)];exact q) λc xs q=>by rw[ak (au q hn)];exact q
end
def Rd(H:Hp)(a:Addr)(u:HO):Prop:=H a=some u\/∃o,H a=some (.frz o u)
theorem Rd.ok{w:World}{H:Hp}{u:HO}(r:Rd H a u)(x:HOk P w H h):cu P w H h a u:=by
 rcases r with r|⟨o,r⟩
 .exact x a u r
 .obtain⟨_,q⟩:=x a _ r;exact q
def Mut:Option HO->Prop
 | some (.lst _)=>True
 | some (.dK _)=>True
 | some (.dT _)=>True
 | some (.set _ _)=>True
 | some (.ins _ _ _)=>True
 | some (.ext _)=>True
 | _=>False
section
variable {w:World}{H:Hp}{x:Addr}{o':HO}
theorem HOk.write(ok:HOk P w H h)(mu:Mut (H x))(he:e=x\/H e=some (.own x))(k:∀b u,b≠e->h.get? b=some u->h'.get? b=some u)(heo:∃u,h'.get? e=some u)
  (new:cu P w (upd H x o') h' x o'):HOk P w (upd H x o') h':=λb u q=>by
 have nown:∀c y,H c=some (.own y)->c≠x:=λc y r z=>by subst z;rw[r]at mu;exact mu
 have ntup:∀c xs,H c=some (.tup xs)->c≠x:=λc xs r z=>by subst z;rw[r]at mu;exact mu
 by_cases hb:b=x
 .subst hb;rw[aj]at q;cases q;exact new
 .rw[ak hb]at q
  by_cases hbe:b=e
  .have q':H b=some (.own x):=by
    rcases he with z|z
    .exact absurd (hbe.trans z) hb
    .rw[hbe];exact z
   rw[q]at q';cases q';obtain⟨v,hv⟩:=heo;exact⟨v,by rw[hbe];exact hv⟩
  .refine(ok b u q).tW (λc v hc r=>k c v ?_ r) (λc r=>by rw[ak (nown c b r)];exact r) λc xs r=>by rw[ak (ntup c xs r)];exact r
   rcases hc with rfl|hc
   .exact hbe
   .rintro rfl;rcases he with z|z
    .exact nown c b hc z
    .rw[hc]at z;cases z;exact hb rfl
end
structure Un(fs ex:ZL)(H H':Hp)(h h':Heap):Prop where
 keep:∀b o,h.get? b=some o->H b=none->b∉fs->b∉ex->h'.get? b=some o
 slot:∀b o,h.get? b=some o->H b=none->b∈fs->b∉ex->∃sl,h'.get? b=some { o with slots:=sl }
 free:∀b o,h.get? b=some o->H b=none->b∉ex->H' b=none
 there:∀b o,h.get? b=some o->b∉ex->∃o',h'.get? b=some o'
 ph:∀b xs,H b=some (.tup xs)->H' b=some (.tup xs)
 nV:∀b o u,H b=some (.frz o u)->H' b=some (.frz o u)
 pD:∀b ps,H b=some (.tbl ps)->∃more,H' b=some (.tbl (ps++more))
section
variable {fs fs' ex ex':ZL}{H H1 H2:Hp}{h1 h2:Heap}{x:Addr}{o:HO}
theorem Un.any(u:Un fs ex H H1 h h1){ob:Obj}(q:h.get? b=some ob)(n:H b=none)(hx:b∉ex):∃sl,h1.get? b=some { ob with slots:=sl }:=by
 by_cases hb:b∈fs
 .exact u.slot b ob q n hb hx
 .exact⟨ob.slots,u.keep b ob q n hb hx⟩
theorem Un.kept(k:∀b u,h.get? b=some u->h'.get? b=some u):Un fs ex H H h h' :=
 ⟨λb ob q _ _ _=>k b ob q,λb ob q _ _ _=>⟨ob.slots,k b ob q⟩,λ_ _ _ n _=>n,λb ob q _=>⟨ob,k b ob q⟩,λ_ _ q=>q,λ_ _ _ q=>q,λ_ ps q=>⟨#[],by rw[q];simp⟩⟩
theorem Un.refl:Un fs ex H H h h:=Un.kept λ_ _ q=>q
theorem Un.laid(k:∀b u,h.get? b=some u->h'.get? b=some u)(hp:h.objs.size<=a)(hn:H a=none):Un fs ex H (upd H a o) h h' where
 keep:=λb u q _ _ _=>k b u q
 slot:=λb u q _ _ _=>⟨u.slots,k b u q⟩
 free:=λb u q n _=>by rw[ak (Sa (Su (R7 q) hp))];exact n
 there:=λb u q _=>⟨u,k b u q⟩
 ph:=λb xs q=>by rw[ak (au q hn)];exact q
 nV:=λb u xs q=>by rw[ak (au q hn)];exact q
 pD:=λb ps q=>⟨#[],by rw[ak (au q hn),q];simp⟩
theorem Un.write(mu:Mut (H x))(he:e=x\/H e=some (.own x))(k:∀b u,b≠e->h.get? b=some u->h'.get? b=some u)(heo:∃u,h'.get? e=some u):Un fs ex H (upd H x o) h h':=by
 have hx:∀b,H b=none->b≠x:=λb n z=>by subst z;rw[n]at mu;exact mu
 have hb:∀b,H b=none->b≠e:=λb n z=>by
  subst z;rcases he with r|r
  .exact hx b n r
  .rw[n]at r;cases r
 have hm:∀b u,H b=some u->¬ Mut (some u)->b≠x:=λb u q nm z=>by subst z;rw[q]at mu;exact nm mu
 refine⟨λb u q n _ _=>k b u (hb b n) q,λb u q n _ _=>⟨u.slots,k b u (hb b n) q⟩,λb u q n _=>by rw[ak (hx b n)];exact n,λb u q _=>?_,
  λb xs q=>by rw[ak (hm b _ q λz=>z)];exact q,λb u xs q=>by rw[ak (hm b _ q λz=>z)];exact q,λb ps q=>⟨#[],by rw[ak (hm b _ q λz=>z),q];simp⟩⟩
 by_cases hbe:b=e
 .subst hbe;exact heo
 .exact⟨u,k b u hbe q⟩
end
def trk(h:Heap)(H:Hp):ZL:=(RS h.objs.size).filter λa=>(H a).isSome
def oV(h:Heap)(H:Hp):Heap:=PySem.W.hideAll h (trk h H)
theorem GP(h:Heap)(H:Hp):(oV h H).objs.size=h.objs.size:=PySem.W.hideAll_size _ _
theorem Jv{H:Hp}{o:Obj}(e:h.get? b=some o)(n:H b=none):(oV h H).get? b=some o :=
 PySem.W.hideAll_get _ e λhm=>by
  have q:(H b).isSome=true:=(Sx.mp hm).2;rw[n]at q;simp at q
theorem Mr{H:Hp}{o:Obj}(e:(oV h H).get? b=some o):h.get? b=some o/\H b=none:=by
 have e':h.get? b=some o:=PySem.W.of_hideAll (trk h H) e;refine⟨e',?_⟩;cases q:H b with
 | none=>rfl
 | some x =>
  have hm:b∈trk h H:=Sx.mpr ⟨RU.mpr (R7 e'),by simp[q]⟩
  have z:(oV h H).get? b=none:=PySem.W.hideAll_none (trk h H) hm;rw[z]at e;cases e
structure Mod(K:RM)(mg:Z6)(base:Heap):Prop where
 kin:K.In base
 glob:base.Ns S4 mg
 blt:∃mb,base.Ns builtinsNs mb/\∀x:Str,x ≠ "__name__" -> mb x=bootBuiltins x
 nolimit:base.NoLimit
structure Cx where
 prog:Sj
 w:World
 K:RM
 mg:Str->Option Value
 base:Heap
 A:S7
 N:ZN
 s₀:RV
 H₀:Hp
 env:Env
 outer:List Env
 stack:List Env
 ex:ZL
 fn:Str->Bool
 calm:Bool
 pn:Z0
 xe:Value->RV->Prop
def frs(l:List Env):ZL:=l.filterMap (·.frame)
abbrev Cx.fs(X:Cx):ZL:=frs X.outer
def Vis(sc:Scope)(x:Str):Prop:=sc.names.lookup x=some .local\/sc.names.lookup x=some .cell\/sc.names.lookup x=some .free
def Loc(sc:Scope)(x:Str):Prop:=sc.names.lookup x=some .local\/sc.names.lookup x=some .cell
def Look(env:Env)(h:Heap)(m:Z6)(x:Str)(u:Value):Prop :=
 (env.kindOf x=some .local/\m x=some u)\/((env.kindOf x=some .cell\/env.kindOf x=some .free)/\∃c,env.cells.lookup x=some c/\h.IsCell c (some u))
structure Cx.Ok(X:Cx):Prop where
 mod:Mod X.K X.mg X.base
 kind:X.env.scope.kind=.function
 glob:X.env.globals=S4
 blt:X.env.builtins=builtinsNs
 above:X.s₀.heap.objs.size<=X.env.locals
 inj:∀x y c,X.env.cells.lookup x=some c->X.env.cells.lookup y=some c->x=y
 has:∀x,(X.env.kindOf x=some .cell\/X.env.kindOf x=some .free)->∃c,X.env.cells.lookup x=some c
 cab:∀x c,X.fn x=true->X.env.cells.lookup x=some c->X.s₀.heap.objs.size<=c
 hd:X.calm=true->X.A.handled=none
 frames:X.A.frames=some X.stack
 stk:X.stack=X.outer\/(X.stack=X.env :: X.outer/\X.env.frame=some X.env.locals)
 exf:∀b∈X.ex,b≠X.env.locals/\∀x c,X.env.cells.lookup x=some c->c≠b
 bs:∀b o,X.base.get? b=some o->X.s₀.heap.get? b=some o/\X.H₀ b=none
 bsz:X.base.objs.size<=X.s₀.heap.objs.size
 tQ:∀b o,X.base.get? b=some o->b∉X.ex
 uf:∀b∈X.ex,b∉X.fs
 jf:X.s₀.heap.FunFrames X.base X.outer
 frf:∀b∈X.fs,X.H₀ b=none
structure Inv(X:Cx)(dh:Z0)(σ:List (ZQ))(H:Hp)(s:RV):Prop where
 ok:X.Ok
 os:s.os=X.s₀.os
 bare:Yo s.gens
 base:Un X.fs X.ex X.H₀ H X.s₀.heap s.heap
 loc:∃m,s.heap.Ns X.env.locals m/\∀ (i:Nat) (x:Str) (v:V),X.N[i]?=some x->σ[i]?=some (some v)->Vis X.env.scope x->∃u,RelV v u/\Look X.env s.heap m x u
 cell:∀x c,X.env.cells.lookup x=some c->∃v,s.heap.IsCell c v
 free:H X.env.locals=none
 gG:∀x c,X.env.cells.lookup x=some c->H c=none
 pin:∀p∈X.pn++dh,s.heap.get? p.1=some p.2/\H p.1=none/\p.1≠X.env.locals/\p.1∉X.fs/\∀v,p.2.data≠.cell v
 hok:HOk X.prog X.w H s.heap
 len:σ.length=X.N.length
section
variable {X:Cx}{σ:List (ZQ)}{H H':Hp}{s:RV} 
theorem Cx.Ok.RB(ok:X.Ok){o:Obj}(e:X.base.get? b=some o):b∉X.fs:=λhb=>by
 have:=(ok.jf.mem hb).1;rw[e]at this;cases this
theorem Inv.bs(I:Inv X dh σ H s):∀b o,X.base.get? b=some o->s.heap.get? b=some o/\H b=none:=λb o e =>
 ⟨I.base.keep b o (I.ok.bs b o e).1 (I.ok.bs b o e).2 (I.ok.RB e) (I.ok.tQ b o e),I.base.free b o (I.ok.bs b o e).1 (I.ok.bs b o e).2 (I.ok.tQ b o e)⟩
theorem Inv.bk(I:Inv X dh σ H s):∀b o,X.base.get? b=some o->s.heap.get? b=some o:=λb o e=>(I.bs b o e).1
theorem Inv.mod(I:Inv X dh σ H s):Mod X.K X.mg X.base:=I.ok.mod
theorem Inv.kIn(I:Inv X dh σ H s):X.K.In s.heap:=I.ok.mod.kin.keeps I.bk
theorem Inv.lt(I:Inv X dh σ H s):X.env.locals<s.heap.objs.size:=let ⟨_,hn,_⟩:=I.loc;hn.lt
theorem Inv.sz(I:Inv X dh σ H s):X.s₀.heap.objs.size<=s.heap.objs.size:=SA I.ok.above (Uw I.lt)
theorem Inv.NK(I:Inv X dh σ H s)(h:s.heap.objs.size<=a):a∉X.fs:=λhb=>by
 obtain⟨_,o,ho,_⟩:=I.ok.jf.mem hb;exact absurd (Su (R7 ho) (SA I.sz h)) (T9 _)
theorem Inv.cne(I:Inv X dh σ H s):∀x c,X.env.cells.lookup x=some c->c≠X.env.locals:=λx c e z=>by
 obtain⟨v,o,ho,hd⟩:=I.cell x c e;obtain⟨m,⟨o',es,ep,ho',ZZ,_⟩,_⟩:=I.loc;rw[z,ho']at ho;cases ho;rw[ZZ]at hd;cases hd
theorem Inv.jf(I:Inv X dh σ H s):s.heap.FunFrames X.base X.outer:=by
 have all:∀ (l:List Env),(∀b∈frs l,b∈X.fs)->X.s₀.heap.FunFrames X.base l->s.heap.FunFrames X.base l:=by
  intro l
  induction l with
  | nil=>intro _ _;trivial
  | cons env r ih =>
   intro hs hl;obtain⟨hk,⟨L,o,hf,hn,ho,hd⟩,hr⟩:=hl;have hL:L∈X.fs:=hs L (by unfold frs;rw[Uk,hf];exact R4)
   obtain⟨sl,e⟩:=I.base.slot L o ho (I.ok.frf L hL) hL λz=>I.ok.uf L z hL;exact⟨hk,⟨L,_,hf,hn,e,hd⟩,ih (λb hb=>hs b (by unfold frs;rw[Uk,hf];exact R3 _ hb)) hr⟩
 exact all X.outer (λ_ hb=>hb) I.ok.jf
theorem Inv.stack(I:Inv X dh σ H s):s.heap.FunFrames X.base X.stack:=by
 rcases I.ok.stk with e|⟨e,hf⟩
 .rw[e];exact I.jf
 .rw[e];obtain⟨m,hn,_⟩:=I.loc;refine .cons (by rw[I.ok.kind];decide) hf hn ?_ I.jf
  exact Heap.get?_none_of_le (SA I.ok.bsz I.ok.above)
theorem Inv.BZ(I:Inv X dh σ H s):∀b∈frs X.stack,b∈X.env.locals :: X.fs:=λb hb=>by
 rcases I.ok.stk with e|⟨e,hf⟩
 .rw[e]at hb;exact R3 _ hb
 .rw[e]at hb;unfold frs at hb;rw[Uk,hf]at hb;exact hb
theorem Inv.DS(I:Inv X dh σ H s):∀b∈frs X.stack,H b=none:=λb hb=>by
 rcases Sf.mp (I.BZ b hb) with e|hb
 .rw[e];exact I.free
 .obtain⟨_,o,ho,_⟩:=I.ok.jf.mem hb;exact I.base.free b o ho (I.ok.frf b hb) λz=>I.ok.uf b z hb
theorem Inv.step(I:Inv X dh σ H s)
  (hch:∀b∈ch,(b∈X.ex\/X.s₀.heap.objs.size<=b)/\b≠X.env.locals/\(∀x c,X.env.cells.lookup x=some c->c≠b)/\∀p∈X.pn++dh,p.1≠b)
  (keep:∀b o,b≠X.env.locals->b∉X.fs->b∉ch->s.heap.get? b=some o->H b=none->h'.get? b=some o)
  (slot:∀b o,b≠X.env.locals->b∈X.fs->b∉ch->s.heap.get? b=some o->H b=none->∃sl,h'.get? b=some { o with slots:=sl }) (free:∀b o,b∉ch->s.heap.get? b=some o->H b=none->H' b=none)
  (there:∀b o,b∉ch->s.heap.get? b=some o->∃o',h'.get? b=some o')
  (ph:∀b xs,H b=some (.tup xs)->H' b=some (.tup xs)) (nV:∀b o u,H b=some (.frz o u)->H' b=some (.frz o u)) (pD:∀b ps,H b=some (.tbl ps)->∃more,H' b=some (.tbl (ps++more)))
  (ns:∀m,s.heap.Ns X.env.locals m->h'.Ns X.env.locals m) (hok:HOk X.prog X.w H' h') (hg:Yo g') :
  Inv X dh σ H' { s with heap:=h',gens:=g',drawn:=d',toks:=t' }:=by
 have neL:∀b o,X.s₀.heap.get? b=some o->b≠X.env.locals:=λb o e=>Sa (Su (R7 e) I.ok.above);have neC:∀b o,X.s₀.heap.get? b=some o->b∉X.ex->b∉ch:=λb o e hx hb=>by
  rcases(hch b hb).1 with z|z
  .exact hx z
  .exact absurd (Su (R7 e) z) (T9 _)
 have cellK:∀x c,X.env.cells.lookup x=some c->∀v,s.heap.IsCell c v->h'.IsCell c v:=λx c e v ⟨o,ho,hd⟩=>by
  have nch:c∉ch:=λz=>(hch c z).2.2.1 x c e rfl
  by_cases hc:c∈X.fs
  .obtain⟨sl,q⟩:=slot c o (I.cne x c e) hc nch ho (I.gG x c e);exact⟨_,q,hd⟩
  .exact⟨o,keep c o (I.cne x c e) hc nch ho (I.gG x c e),hd⟩
 refine⟨I.ok,I.os,hg,⟨λb o e n hb hx=>?_,λb o e n hb hx=>?_,λb o e n hx=>?_,λb o e hx=>?_,λb xs e=>ph b xs (I.base.ph b xs e),λb o xs e=>nV b o xs (I.base.nV b o xs e),λb ps e=>?_⟩,?_,λx c e=>?_,?_,λx c e=>?_,λp hp=>?_,hok,I.len⟩
 .exact keep b o (neL b o e) hb (neC b o e hx) (I.base.keep b o e n hb hx) (I.base.free b o e n hx)
 .obtain⟨sl,e1⟩:=I.base.slot b o e n hb hx;obtain⟨sl',e2⟩:=slot b _ (neL b o e) hb (neC b o e hx) e1 (I.base.free b o e n hx);exact⟨sl',e2⟩
 .walk_at "137";exact free b o' (neC b o e hx) e1 (I.base.free b o e n hx)
 .walk_at "137";exact there b o' (neC b o e hx) e1
 .obtain⟨m1,e1⟩:=I.base.pD b ps e;obtain⟨m2,e2⟩:=pD b _ e1;exact⟨m1++m2,by rw[e2,Array.append_assoc]⟩
 .obtain⟨m,hn,hl⟩:=I.loc;refine⟨m,ns m hn,λi x v e1 e2 e3=>?_⟩;obtain⟨u,r,l⟩:=hl i x v e1 e2 e3;refine⟨u,r,?_⟩;rcases l with l|⟨k,c,e,z⟩
  .exact .inl l
  .exact .inr ⟨k,c,e,cellK x c e _ z⟩
 .obtain⟨v,z⟩:=I.cell x c e;exact⟨v,cellK x c e v z⟩
 .obtain⟨m,⟨o,_,_,ho,_⟩,_⟩:=I.loc;exact free _ o (λz=>(hch _ z).2.1 rfl) ho I.free
 .obtain⟨v,o,ho,hd⟩:=I.cell x c e;exact free c o (λz=>(hch c z).2.2.1 x c e rfl) ho (I.gG x c e)
 .obtain⟨e,n,ne,nf,d⟩:=I.pin p hp;have nch:p.1∉ch:=λz=>(hch p.1 z).2.2.2 p hp rfl;exact⟨keep p.1 p.2 ne nf nch e n,free p.1 p.2 nch e n,ne,nf,d⟩
theorem Inv.un(I:Inv X dh σ H s)(u:Un X.fs [] H H' s.heap h')(hok:HOk X.prog X.w H' h'):Inv X dh σ H' { s with heap:=h',toks:=t' }:=by
 obtain⟨m,⟨o,es,ep,ho,r⟩,_⟩:=id I.loc;obtain⟨sl,hL⟩:=u.any ho I.free (by simp)
 exact I.step (g':=s.gens) (d':=s.drawn) (ch:=[]) (λ_ z=>nomatch z) (λb o _ hb _ e n=>u.keep b o e n hb (by simp)) (λb o _ hb _ e n=>u.slot b o e n hb (by simp)) (λb o _ e n=>u.free b o e n (by simp)) (λb o _ e=>u.there b o e (by simp)) u.ph u.nV u.pD (λm' hm=>by
  obtain⟨o',es',ep',ho',r'⟩:=hm;rw[ho]at ho';cases ho';exact⟨_,es',ep',hL,r'⟩) hok I.bare
theorem Inv.call(I:Inv X dh σ H s)(u:Un (frs X.stack) ch H H' s.heap h')(hok:HOk X.prog X.w H' h')(hg:Yo g')
  (hch:∀b∈ch,(b∈X.ex\/X.s₀.heap.objs.size<=b)/\b≠X.env.locals/\(∀x c,X.env.cells.lookup x=some c->c≠b)/\∀p∈X.pn++dh,p.1≠b) :
  Inv X dh σ H' { s with heap:=h',gens:=g',drawn:=d',toks:=t' }:=by
 obtain⟨m,⟨o,es,ep,ho,r⟩,_⟩:=id I.loc;obtain⟨sl,hL⟩:=u.any ho I.free λz=>(hch _ z).2.1 rfl;exact I.step (ch:=ch) hch (λb o hL hb hc e n=>u.keep b o e n (λz=>(Sf.mp (I.BZ b z)).elim hL hb) hc) (λb o _ _ hc e n=>u.any e n hc) (λb o hc e n=>u.free b o e n hc) (λb o hc e=>u.there b o e hc) u.ph u.nV u.pD (λm' hm=>by
  obtain⟨o',es',ep',ho',r'⟩:=hm;rw[ho]at ho';cases ho';exact⟨_,es',ep',hL,r'⟩) hok hg
theorem Inv.turned{it:Addr}(I:Inv X dh σ H s)(k:∀b o,b≠it->s.heap.get? b=some o->h'.get? b=some o)(hn:H it=none)(hL:it≠X.env.locals)
  (h1:it∈X.ex\/X.s₀.heap.objs.size<=it) (h2:∀x c,X.env.cells.lookup x=some c->c≠it) (h3:∀p∈X.pn++dh,p.1≠it):Inv X dh σ H { s with heap:=h',toks:=t' }:=by
 have nit:∀b u,H b=some u->b≠it:=λb u e z=>by rw[z,hn]at e;cases e
 refine I.step (g':=s.gens) (d':=s.drawn) (ch:=[it]) (λb hb=>?_) (λb o _ _ hc e _=>k b o (λz=>hc (by simp[z])) e) (λb o _ _ hc e _=>⟨o.slots,k b o (λz=>hc (by simp[z])) e⟩) (λ_ _ _ _ n=>n)
  (λb o hc e=>⟨o,k b o (λz=>hc (by simp[z])) e⟩) (λ_ _ e=>e) (λ_ _ _ e=>e) (λb ps e=>⟨#[],by rw[e];simp⟩) (λm hm=>?_) (λb u e=>?_) I.bare
 .have e:b=it:=by simpa using hb
  subst e;exact⟨h1,hL,h2,h3⟩
 .obtain⟨o,es,ep,ho,r⟩:=hm;exact⟨o,es,ep,k _ o (UA hL) ho,r⟩
 .refine(I.hok b u e).tW (λc v hc q=>k c v ?_ q) (λ_ q=>q) λ_ _ q=>q;rcases hc with z|z
  .rw[z];exact nit b u e
  .exact nit c _ z
theorem Inv.tok(I:Inv X dh σ H s)(t:Nat):Inv X dh σ H { s with toks:=t }:=I.un (h':=s.heap) (t':=t) Un.refl I.hok
theorem Inv.kept(I:Inv X dh σ H s)(k:∀b u,s.heap.get? b=some u->h'.get? b=some u):Inv X dh σ H { s with heap:=h',toks:=t' }:=I.un (Un.kept k) (I.hok.kept k)
theorem Inv.laid{o:HO}(I:Inv X dh σ H s)(k:∀b u,s.heap.get? b=some u->h'.get? b=some u)(hp:s.heap.objs.size<=a)(new:cu X.prog X.w (upd H a o) h' a o) :
  Inv X dh σ (upd H a o) { s with heap:=h',toks:=t' }:=I.un (Un.laid k hp (I.hok.fresh hp)) (I.hok.laid k hp new)
theorem Inv.write{x:Addr}{o:HO}(I:Inv X dh σ H s)(mu:Mut (H x))(he:e=x\/H e=some (.own x))(k:∀b u,b≠e->s.heap.get? b=some u->h'.get? b=some u)(heo:∃u,h'.get? e=some u)
  (new:cu X.prog X.w (upd H x o) h' x o):Inv X dh σ (upd H x o) { s with heap:=h',toks:=t' }:=I.un (Un.write mu he k heo) (I.hok.write mu he k heo new)
theorem Inv.sO(I:Inv X dh σ H s)(h:∀p∈pins',s.heap.get? p.1=some p.2/\H p.1=none/\p.1≠X.env.locals/\p.1∉X.fs/\∀v,p.2.data≠.cell v):Inv X pins' σ H s :=
 ⟨I.ok,I.os,I.bare,I.base,I.loc,I.cell,I.free,I.gG,λp hp=>(R5.mp hp).elim (λz=>I.pin p (Tx _ z)) (h p),I.hok,I.len⟩
theorem AJ{N:ZN}(hN:N.Nodup){j:Nat}(a:N[i]?=some x)(b:N[j]?=some x):i=j:=by
 obtain⟨h1,e1⟩:=RN.mp a;obtain⟨h2,e2⟩:=RN.mp b;exact(WJ hN).mp (e1.trans e2.symm)
theorem yt{A:S7}{v:V}(I:Inv X dh σ H s)(hN:X.N.Nodup)(hi:X.N[i]?=some x)(hx:Loc X.env.scope x)(r:RelV v u)
  (h:∀s',Inv X dh (σ.set i (some v)) H s'->(∃a,VF a s.heap s'.heap/\(a=X.env.locals\/X.env.cells.lookup x=some a))->Q () s') (hf:X.fn x=true\/X.env.scope.names.lookup x=some .local:=by first|exact .inl rfl|exact .inr rfl|assumption):wpAny M A (storeName X.env x u) Q E s:=by
 obtain⟨m,hn,hl⟩:=id I.loc;have hcls:(X.env.scope.kind == .class || (X.env.scope.kind == .module && X.env.locals != X.env.globals))=false:=by rw[I.ok.kind];rfl
 have hiσ:i<σ.length:=by rw[I.len];exact(RN.mp hi).1
 have cne:=I.cne;have tracked:∀ {a:Addr} {h':Heap},(∃o,s.heap.get? a=some o/\H a=none)->VF a s.heap h'->HOk X.prog X.w H h':=λ{a h'} ha hs b ob e=>by
  obtain⟨_,_,y!⟩:=ha;refine(I.hok b ob e).tW (λc w' hc q=>(hs.2 c ?_).trans q) (λ_ q=>q) λ_ _ q=>q;rintro rfl;rcases hc with rfl|hc
  .rw[y!]at e;cases e
  .rw[y!]at hc;cases hc
 rcases hx with hk|hk
 .refine wpAny_storeName_local hk hn (λh' hn' hs=>?_) hcls;obtain⟨oL,_,_,hoL,_⟩:=id hn;refine h _ ⟨I.ok,I.os,I.bare,⟨λb o e n hb hx=>?_,λb o e n hb hx=>?_,I.base.free,λb o e hx=>?_,I.base.ph,I.base.nV,I.base.pD⟩,⟨_,hn',λj y v' e1 e2 e3=>?_⟩,λy c e=>?_,I.free,I.gG,λp hp=>?_,tracked ⟨oL,hoL,I.free⟩ hs,by simpa using I.len⟩ ⟨_,hs,.inl rfl⟩
  .exact(hs.2 b (Sa (Su (R7 e) I.ok.above))).trans (I.base.keep b o e n hb hx)
  .obtain⟨sl,e1⟩:=I.base.slot b o e n hb hx;exact⟨sl,(hs.2 b (Sa (Su (R7 e) I.ok.above))).trans e1⟩
  .walk_at "137";exact⟨o',(hs.2 b (Sa (Su (R7 e) I.ok.above))).trans e1⟩
  .by_cases hj:j=i
   .subst hj;rw[hi]at e1;cases e1;rw[UB hiσ]at e2;cases e2;exact⟨u,r,.inl ⟨hk,by simp⟩⟩
   .rw[UO (UA hj)]at e2;obtain⟨u',r',q⟩:=hl j y v' e1 e2 e3;refine⟨u',r',?_⟩;rcases q with ⟨k,e⟩|⟨k,c,e,z⟩
    .refine .inl ⟨k,?_⟩;have:y≠x:=λe=>hj (AJ hN e1 (e ▸ hi));simp[this,e]
    .exact .inr ⟨k,c,e,z.sameBut hs (cne y c e)⟩
  .obtain⟨w',z⟩:=I.cell y c e;exact⟨w',z.sameBut hs (cne y c e)⟩
  .obtain⟨e,n,ne,nf,d⟩:=I.pin p hp;exact⟨(hs.2 p.1 ne).trans e,n,ne,nf,d⟩
 .have hfn:X.fn x=true:=by
   rcases hf with z|z
   .exact z
   .rw[z]at hk;cases hk
  obtain⟨c,hc⟩:=I.ok.has x (.inl hk);obtain⟨w',z⟩:=I.cell x c hc;refine wpAny_storeName_cell I.ok.kind hk hc z (λh' q! hs=>?_);obtain⟨oc,hoc,hocd⟩:=id z;refine h { s with heap:=h' } ⟨I.ok,I.os,I.bare,⟨λb o e n hb hx=>?_,λb o e n hb hx=>?_,I.base.free,λb o e hx=>?_,I.base.ph,I.base.nV,I.base.pD⟩,⟨m,hn.sameBut hs (UA (cne x c hc)),λj y v' e1 e2 e3=>?_⟩,λy c' e=>?_,I.free,I.gG,λp hp=>?_,tracked ⟨oc,hoc,I.gG x c hc⟩ hs,by simpa using I.len⟩ ⟨c,hs,.inr hc⟩
  .exact(hs.2 b (Sa (Su (R7 e) (I.ok.cab x c hfn hc)))).trans (I.base.keep b o e n hb hx)
  .obtain⟨sl,e1⟩:=I.base.slot b o e n hb hx;exact⟨sl,(hs.2 b (Sa (Su (R7 e) (I.ok.cab x c hfn hc)))).trans e1⟩
  .walk_at "137";exact⟨o',(hs.2 b (Sa (Su (R7 e) (I.ok.cab x c hfn hc)))).trans e1⟩
  .by_cases hj:j=i
   .subst hj;rw[hi]at e1;cases e1;rw[UB hiσ]at e2;cases e2;exact⟨u,r,.inr ⟨.inl hk,c,hc,q!⟩⟩
   .rw[UO (UA hj)]at e2;obtain⟨u',r',q⟩:=hl j y v' e1 e2 e3;refine⟨u',r',?_⟩;rcases q with q|⟨k,c',e,z'⟩
    .exact .inl q
    .refine .inr ⟨k,c',e,z'.sameBut hs ?_⟩;rintro rfl;exact hj (AJ hN e1 (I.ok.inj _ _ _ e hc ▸ hi))
  .by_cases hcc:c'=c
   .subst hcc;exact⟨_,q!⟩
   .obtain⟨w2,z2⟩:=I.cell y c' e;exact⟨w2,z2.sameBut hs hcc⟩
  .obtain⟨e,n,ne,nf,d⟩:=I.pin p hp;refine⟨(hs.2 p.1 ?_).trans e,n,ne,nf,d⟩;intro q;rw[q,hoc]at e;have q':oc=p.2:=SI e;exact d w' (by rw[<- q'];exact hocd)
theorem pk{A:S7}{v:V}(I:Inv X dh σ H s)(hN:X.N.Nodup)(hi:X.N[i]?=some x)(hx:Loc X.env.scope x)(r:RelV v u)
  (h:∀s',Inv X dh (σ.set i (some v)) H s'->Q () s') (hf:X.fn x=true\/X.env.scope.names.lookup x=some .local:=by first|exact .inl rfl|exact .inr rfl|assumption):wpAny M A (storeName X.env x u) Q E s :=
 yt I hN hi hx r (λs' I' _=>h s' I') hf
theorem Inv.Pz{s':RV}(I:Inv X dh σ H s)(ho:s'.os=s.os)(u:Un (frs X.stack) ch H H' s.heap s'.heap)(hok:HOk X.prog X.w H' s'.heap)(hg:Yo s'.gens)
  (hch:∀b∈ch,(b∈X.ex\/X.s₀.heap.objs.size<=b)/\b≠X.env.locals/\(∀x c,X.env.cells.lookup x=some c->c≠b)/\∀p∈X.pn++dh,p.1≠b):Inv X dh σ H' s':=by
 obtain⟨h',g',d',t',o'⟩:=s';have e:o'=s.os:=ho;subst e;exact I.call (g':=g') (t':=t') (d':=d') u hok hg hch
end
abbrev XK:=Value->Option Addr->Hp->Prop
abbrev St:=List (ZQ)
abbrev VK:=V->Hp->Prop
abbrev ZT:=Nat->St->Hp->Prop
abbrev ZU:=V->List V->Hp->VK->Prop
abbrev Z5:=St->Hp->Prop
abbrev TE:=St->Hp->VK->Prop
abbrev TT:=St->Hp->(Bool->Hp->Prop)->Prop
abbrev TA:=St->Hp->(List V->Hp->Prop)->Prop
structure Ends where
 nx:St->Hp->Prop
 rt:VK
 bk:St->Hp->Prop:=λ_ _=>False
 ct:St->Hp->Prop:=λ_ _=>False
abbrev TS:=Ends->St->Hp->Prop
def EP(X:Cx)(dh:Z0)(σ:St)(Q:VK)(u:Value)(s':RV):Prop:=∃v H',Inv X dh σ H' s'/\RelV v u/\Q v H'
def TP(X:Cx)(dh:Z0)(σ:St)(Q:Bool->Hp->Prop)(b:Bool)(s':RV):Prop:=∃H',Inv X dh σ H' s'/\Q b H'
def AP(X:Cx)(dh:Z0)(σ:St)(Q:List V->Hp->Prop)(us:Z8)(s':RV):Prop:=∃vs H',Inv X dh σ H' s'/\Vals vs us/\Q vs H'
def SP(X:Cx)(dh:Z0)(D:Ends)(f:Flow)(s':RV):Prop :=
 match f with
 | .next=>∃σ' H',Inv X dh σ' H' s'/\D.nx σ' H'
 | .brk=>∃σ' H',Inv X dh σ' H' s'/\D.bk σ' H'
 | .cont=>∃σ' H',Inv X dh σ' H' s'/\D.ct σ' H'
 | .ret u=>∃v σ' H',Inv X dh σ' H' s'/\RelV v u/\D.rt v H'
variable {p:Addr×Obj}{vs:ZO}{op:CmpOp}{X:Cx}{D:Ends}{a b c e tg:Expr}{h:Heap}{H:Hp}{lo:Int}{g:Int->Int->Int}{C:Int->Int->Prop}{dh:Z0}{fp:ZL}{es rest:Z9}{body st:List Stmt}{xs:Z7}{us:Z8}{M:Model}{i n:Nat}{o:Obj}{pos:Pos}{K:RM}{s:RV}{A:S7}{P:Sj}{σ:St}{x:Str}{ta:TA}{t te:TE}{tc:TT}{R:V->V->Hp->Prop}{u:Value}{E Q:Value->RV->Prop}{f:Value->Value->Sem Value}{w:World}
def PE(X:Cx)(e:Expr)(t:TE):Prop :=
 ∀ (dh:Z0) (s:RV) (σ:St) (H:Hp) (Q:VK),Inv X dh σ H s->t σ H Q->wpAny (model X.prog X.w) X.A (eval e X.env) (EP X dh σ Q) X.xe s
def PT(X:Cx)(e:Expr)(t:TT):Prop :=
 ∀ (dh:Z0) (s:RV) (σ:St) (H:Hp) (Q:Bool->Hp->Prop),Inv X dh σ H s->t σ H Q->wpAny (model X.prog X.w) X.A (isTrue e X.env (eval e X.env)) (TP X dh σ Q) X.xe s
def PW(X:Cx)(e:Expr)(t:TT):Prop :=
 ∀ (whole:Sem Value) (dh:Z0) (s:RV) (σ:St) (H:Hp) (Q:Bool->Hp->Prop),Inv X dh σ H s->t σ H Q->wpAny (model X.prog X.w) X.A (isTrue e X.env whole) (TP X dh σ Q) X.xe s
theorem PW.pt{t:TT}(h:PW X e t):PT X e t:=h _
def PA(X:Cx)(es:Z9)(t:TA):Prop :=
 ∀ (pos:Pos) (dh:Z0) (s:RV) (σ:St) (H:Hp) (Q:List V->Hp->Prop),Inv X dh σ H s->t σ H Q->wpAny (model X.prog X.w) X.A (spliced (backTo pos (Ta es X.env))) (AP X dh σ Q) X.xe s
def PS(X:Cx)(st:Stmt)(t:TS):Prop :=
 ∀ (dh:Z0) (s:RV) (σ:St) (H:Hp) (D:Ends),Inv X dh σ H s->t D σ H->wpAny (model X.prog X.w) X.A (exec st X.env) (SP X dh D) X.xe s
def PSs(X:Cx)(st:List Stmt)(t:TS):Prop :=
 ∀ (dh:Z0) (s:RV) (σ:St) (H:Hp) (D:Ends),Inv X dh σ H s->t D σ H->wpAny (model X.prog X.w) X.A (execs st X.env) (SP X dh D) X.xe s
theorem thn{α:Type}{t:Sem α}{Q Q':α->RV->Prop}(h:wpAny M A t Q E s)(hQ:∀a s,Q a s->Q' a s):wpAny M A t Q' E s:=UD h hQ λ_ _ x=>x
section
def FW(i:Nat):TE:=λσ H Q=>∃v,σ[i]?=some (some v)/\Q v H
def tC(v:V):TE:=λ_ H Q=>Q v H
theorem NY(hN:X.N[i]?=some x)(hv:Vis X.env.scope x)(hd:(x == ("__debug__" : Str))=false:=by decide)(hcd:(x == ("__classdict__" : Str))=false:=by decide):PE X (.Name x pos) (FW i):=by
 f_are;obtain⟨v,e,h⟩:=h;obtain⟨m,hn,hl⟩:=I.loc;obtain⟨u,r,l⟩:=hl i x v hN e hv;have fin:EP X dh σ Q u s:=⟨v,H,I,r,h⟩;rcases l with ⟨hk,hm⟩|⟨hk,c,hc,hcell⟩
 .exact wpAny_Name (wpAny_loadName_local I.ok.kind hk hn hm fin) hd
 .rcases hk with hk|hk
  .exact wpAny_Name (wpAny_loadName_cell I.ok.kind hk hc hcell fin) hd
  .exact wpAny_Name (wpAny_loadName_free I.ok.kind hk hc hcell fin hcd) hd
theorem ai{i j pos}:PE X (.Constant (.int i) j pos) (tC (.int i)):=λ_ _ _ H _ I h=>wpAny_Constant_int ⟨.int i,H,I.tok _,⟨_,rfl⟩,h⟩
theorem fX{b j pos}:PE X (.Constant (.bool b) j pos) (tC (.bl b)):=λ_ _ _ H _ I h=>Constant_bool ⟨.bl b,H,I,rfl,h⟩
theorem Cb{j pos}:PE X (.Constant .none j pos) (tC .non):=λ_ _ _ H _ I h=>Zc ⟨.non,H,I,rfl,h⟩
def Gl(X:Cx)(x:Str):Prop:=X.env.kindOf x=some .globalImplicit
theorem oa(I:Inv X dh σ H s)(hg:Gl X x)(hm:X.mg x=some u)(h:Q u s)
  (hd:(x == ("__debug__" : Str))=false:=by decide):wpAny (model X.prog X.w) X.A (eval (.Name x pos) X.env) Q E s :=
 Xf I.ok.kind hg (Calls.loadGlobal_global (by rw[I.ok.glob];exact I.mod.glob.keeps I.bk) hm h) hd
theorem gU(I:Inv X dh σ H s)(hg:Gl X x)(hm:X.mg x=none)(hv:bootBuiltins x=some u)(h:Q u s)
  (hn:x ≠ "__name__":=by decide) (hd:(x == ("__debug__" : Str))=false:=by decide):wpAny (model X.prog X.w) X.A (eval (.Name x pos) X.env) Q E s:=by
 obtain⟨mb,h1,h2⟩:=I.mod.blt;exact Xf I.ok.kind hg (Calls.loadGlobal_builtin (by rw[I.ok.glob];exact I.mod.glob.keeps I.bk) hm (by rw[I.ok.blt];exact h1.keeps I.bk) ((h2 x hn).trans hv) h) hd
theorem D4{v:V}(hg:Gl X x)(hm:X.mg x=some u)(r:RelV v u)(hd:(x == ("__debug__" : Str))=false:=by decide):PE X (.Name x pos) (tC v) :=
 λ_ _ _ H _ I h=>oa I hg hm ⟨v,H,I,r,h⟩ hd
variable {ta tb:TE} 
def PC(X:Cx)(op:CmpOp)(a b:Expr)(t:TE):Prop :=
 ∀ (dh:Z0) (s:RV) (σ:St) (H:Hp) (Q:VK),Inv X dh σ H s->t σ H Q ->
  wpAny (model X.prog X.w) X.A (eval a X.env) (λv s₁=>wpAny (model X.prog X.w) X.A (eval b X.env) (λu s₂=>wpAny (model X.prog X.w) X.A (compareOp op v u) (EP X dh σ Q) X.xe s₂) X.xe s₁) X.xe s
theorem JI(b:Expr)(h:op≠.In)(h2:op≠.NotIn):behindInMarks op b=false:=by
 have e1:(op == CmpOp.In)=false:=by cases op <;> first|rfl|exact absurd rfl h
 have e2:(op == CmpOp.NotIn)=false:=by cases op <;> first|rfl|exact absurd rfl h2
 cases b <;> simp[behindInMarks,e1,e2]
def OG(ta:TE):TE:=λσ H Q=>ta σ H λx H1=>Q (.bl (decide (x=.non))) H1
def KD(ta:TE):TE:=λσ H Q=>ta σ H λx H1=>Q (.bl (!decide (x=.non))) H1
theorem RelV.Ca{x:V}{v:Value}(r:RelV x v):(v == Tq)=decide (x=.non):=by
 cases x with
 | non=>cases r;rfl
 | bl _=>cases r;rfl
 | int _=>obtain⟨t,rfl⟩:=r;rfl
 | str _=>obtain⟨t,rfl⟩:=r;rfl
 | byt _=>obtain⟨t,rfl⟩:=r;rfl
 | flt _=>obtain⟨t,rfl⟩:=r;rfl
 | ref _=>cases r;rfl
 | ty _=>cases r;rfl
theorem Ng{j pos'}(ha:PE X a ta):PC X .Is a (.Constant .none j pos') (OG ta):=by
 f_are;walk_at "128";exact Zc (is_none_gen ⟨.bl _,H1,I1,by rw[r1.Ca];rfl,q1⟩)
theorem D9{j pos'}(ha:PE X a ta):PC X .IsNot a (.Constant .none j pos') (KD ta):=by
 f_are;walk_at "128";exact Zc (isnot_none_gen ⟨.bl _,H1,I1,by rw[r1.Ca];rfl,q1⟩)
def tB(t:TE):TT:=λσ H Q=>t σ H λx H1=>∃c,x=.bl c/\Q c H1
theorem md(h:PC X op a b t)(h1:behindInMarks op b=false:=by first|exact JI _ (by decide) (by decide)|rfl):PT X (.Compare a [op] [b] pos) (tB t):=by
 intro dh s σ H Q I hw;refine Yp (thn (h dh s σ H _ I hw) λv s1 h1=>thn h1 λu s2 h2=>thn h2 λc s3 ⟨x,H1,I1,r1,q1⟩=>?_) h1;obtain⟨d,rfl,q⟩:=q1;cases r1;exact Um ⟨H1,I1,q⟩
theorem lS(h:PE X e t)(he:∀whole,isTrue e X.env whole=(do let v <- whole;standAt e.pos;holding [v] (truthy v)):=by intro _;rfl):PT X e (tB t):=by
 intro dh s σ H Q I hw;refine isTrue_plain (thn (h dh s σ H _ I hw) λv s1 ⟨x,H1,I1,r1,q1⟩=>?_) (he _);obtain⟨d,rfl,q⟩:=q1;cases r1;exact Um ⟨H1,I1,q⟩
variable {tA tB':TT} 
def NT(t u:TT):TT:=λσ H Q=>t σ H λc H1=>if c=true then u σ H1 Q else Q false H1
def tOr(t u:TT):TT:=λσ H Q=>t σ H λc H1=>if c=true then Q true H1 else u σ H1 Q
def N8(t:TT):TT:=λσ H Q=>t σ H λc H1=>Q (!c) H1
theorem jB(ha:PT X a tA):PW X (.BoolOp .And [a] pos) tA:=by
 intro wh dh s σ H Q I h;refine isTrue_and (thn (ha dh s σ H Q I h) λc s1 e=>?_);cases c with
 | true=>exact isTrue_and_nil e
 | false=>exact e
theorem rJ(ha:PT X a tA):PW X (.BoolOp .Or [a] pos) tA:=by
 intro wh dh s σ H Q I h;refine isTrue_or (thn (ha dh s σ H Q I h) λc s1 e=>?_);cases c with
 | false=>exact isTrue_or_nil e
 | true=>exact e
theorem i9(ha:PT X a tA)(hb:PW X (.BoolOp .And (b :: rest) pos) tB'):PW X (.BoolOp .And (a :: b :: rest) pos) (NT tA tB'):=by
 intro wh dh s σ H Q I h;refine isTrue_and (thn (ha dh s σ H _ I h) λc s1 ⟨H1,I1,q1⟩=>?_);cases c with
 | true=>exact hb wh dh s1 σ H1 Q I1 q1
 | false=>exact⟨H1,I1,q1⟩
theorem uQ(ha:PT X a tA)(hb:PW X (.BoolOp .Or (b :: rest) pos) tB'):PW X (.BoolOp .Or (a :: b :: rest) pos) (tOr tA tB'):=by
 intro wh dh s σ H Q I h;refine isTrue_or (thn (ha dh s σ H _ I h) λc s1 ⟨H1,I1,q1⟩=>?_);cases c with
 | true=>exact⟨H1,I1,q1⟩
 | false=>exact hb wh dh s1 σ H1 Q I1 q1
theorem A9(ha:PT X a tA):PT X (.UnaryOp .Not a pos) (N8 tA):=by
 f_are;exact isTrue_not (ha dh s σ H (λc H1=>Q (!c) H1) I h)
def K6(ta tb:TE):TE:=λσ H Q=>ta σ H λx H1=>∃c,x=.bl c/\if c=true then tb σ H1 Q else Q (.bl false) H1
def NR(ta tb:TE):TE:=λσ H Q=>ta σ H λx H1=>∃c,x=.bl c/\if c=true then Q (.bl true) H1 else tb σ H1 Q
theorem B6{op}(h:PE X a t):PE X (.BoolOp op [a] pos) t:=λdh s σ H Q I hw=>BoolOp_one (h dh s σ H Q I hw)
theorem vM(ha:PE X a ta)(hb:PE X (.BoolOp .And (b :: rest) pos) tb):PE X (.BoolOp .And (a :: b :: rest) pos) (K6 ta tb):=by
 f_are;refine BoolOp_and (thn (ha dh s σ H _ I h) λv s1 ⟨x,H1,I1,r1,q1⟩=>?_);obtain⟨c,rfl,q1⟩:=q1;cases r1;refine Um ?_;cases c with
 | true=>exact hb dh s1 σ H1 Q I1 q1
 | false=>exact⟨.bl false,H1,I1,rfl,q1⟩
theorem P5(ha:PE X a ta)(hb:PE X (.BoolOp .Or (b :: rest) pos) tb):PE X (.BoolOp .Or (a :: b :: rest) pos) (NR ta tb):=by
 f_are;refine BoolOp_or (thn (ha dh s σ H _ I h) λv s1 ⟨x,H1,I1,r1,q1⟩=>?_);obtain⟨c,rfl,q1⟩:=q1;cases r1;refine Um ?_;cases c with
 | false=>exact hb dh s1 σ H1 Q I1 q1
 | true=>exact⟨.bl true,H1,I1,rfl,q1⟩
end
def SqL(K:RM)(H:Hp)(a:Addr)(xs:Z7):Prop :=
 Rd H a (.lst xs) \/
  ∃ (o:Obj) (ZV:ZO) (n:Nat),K.lookup a=some o/\o.cls=.type "list" /\ o.dict=none/\o.data=.seq ZV n/\ZV.size<=SG/\Vals xs ZV.toList
def SqT(K:RM)(H:Hp)(a:Addr)(xs:Z7):Prop :=
 Rd H a (.tup xs) \/
  ∃ (o:Obj) (ZV:ZO) (n:Nat),K.lookup a=some o/\o.cls=.type "tuple" /\ o.data=.seq ZV n/\ZV.size<=SG/\Vals xs ZV.toList
def Q4:Value->Option V
 | .none=>some .non
 | .bool b=>some (.bl b)
 | .int i _=>some (.int i)
 | .str x _=>some (.str x)
 | .bytes b _=>some (.byt b)
 | .float b _=>some (.flt b)
 | .ref a=>some (.ref a)
 | .type n=>some (.ty n)
 | _=>none
theorem RelV.abs{x:V}(r:RelV x u):Q4 u=some x:=by
 cases x with
 | non=>cases r;rfl
 | bl _=>cases r;rfl
 | int _=>obtain⟨t,rfl⟩:=r;rfl
 | str _=>obtain⟨t,rfl⟩:=r;rfl
 | byt _=>obtain⟨t,rfl⟩:=r;rfl
 | flt _=>obtain⟨t,rfl⟩:=r;rfl
 | ref _=>cases r;rfl
 | ty _=>cases r;rfl
theorem RelV.inj{x y:V}(r:RelV x u)(q:RelV y u):x=y:=SI (r.abs.symm.trans q.abs)
theorem Vals.inj:∀ {xs ys:Z7} {us:Z8},Vals xs us->Vals ys us->xs=ys
 | _,_,_,.nil,.nil=>rfl
 | _,_,_,.cons r t,.cons r' t'=>by rw[r.inj r',Vals.inj t t']
section
variable {a:Addr}{ys:Z7}
theorem SqL.of(h:H a=some (.lst xs)):SqL K H a xs:=.inl (.inl h)
theorem SqT.of(h:H a=some (.tup xs)):SqT K H a xs:=.inl (.inl h)
theorem Inv.list(I:Inv X dh σ H s)(h:SqL X.K H a xs):∃ZV:Z8,Vals xs ZV/\PlainL s.heap a ZV.toArray/\xs.length<=SG:=by
 rcases h with h|⟨o,ZV,n,hk,hc,hd,hs,hz,r⟩
 .obtain⟨z,ZV,n,r,e⟩:=h.ok I.hok;exact⟨ZV,r,⟨_,n,e,rfl,rfl,rfl⟩,z⟩
 .refine⟨ZV.toList,r,⟨o,n,I.kIn a o hk,hc,hd,by simpa using hs⟩,?_⟩
  have e:=r.length;simp only[SM]at e;lia
theorem Inv.tuple(I:Inv X dh σ H s)(h:SqT X.K H a xs):∃ZV:Z8,Vals xs ZV/\IsTup s.heap a ZV.toArray/\xs.length<=SG:=by
 rcases h with h|⟨o,ZV,n,hk,hc,hs,hz,r⟩
 .obtain⟨z,ZV,r,p⟩:=h.ok I.hok;exact⟨ZV,r,p,z⟩
 .refine⟨ZV.toList,r,⟨o,I.kIn a o hk,hc,n,by simpa using hs⟩,?_⟩
  have e:=r.length;simp only[SM]at e;lia
theorem Inv.pQ(I:Inv X dh σ H s)(h:SqL X.K H a xs)(h':SqL X.K H a ys):xs=ys:=by
 obtain⟨ZV,r,⟨o,n,e,_,_,d⟩,_⟩:=I.list h;obtain⟨its',r',⟨o',n',e',_,_,d'⟩,_⟩:=I.list h';rw[e]at e';cases e';rw[d]at d';injection d' with d1 _;have:ZV=its':=by simpa using congrArg Array.toList d1
 subst this;exact r.inj r'
end
abbrev Cx.nP(X:Cx)(E:Value->RV->Prop):Cx:={ X with xe:=E }
abbrev Cx.nox(X:Cx):Cx:=X.nP λ_ _=>False
theorem Cx.Ok.nP(ok:X.Ok)(E:Value->RV->Prop):(X.nP E).Ok :=
 ⟨ok.mod,ok.kind,ok.glob,ok.blt,ok.above,ok.inj,ok.has,ok.cab,ok.hd,ok.frames,ok.stk,ok.exf,ok.bs,ok.bsz,ok.tQ,ok.uf,ok.jf,ok.frf⟩
theorem Cx.Ok.kA(ok:(X.nP E).Ok):X.Ok :=
 ⟨ok.mod,ok.kind,ok.glob,ok.blt,ok.above,ok.inj,ok.has,ok.cab,ok.hd,ok.frames,ok.stk,ok.exf,ok.bs,ok.bsz,ok.tQ,ok.uf,ok.jf,ok.frf⟩
theorem Inv.nP(I:Inv X dh σ H s)(E:Value->RV->Prop):Inv (X.nP E) dh σ H s:=⟨I.ok.nP E,I.os,I.bare,I.base,I.loc,I.cell,I.free,I.gG,I.pin,I.hok,I.len⟩
theorem Inv.kA(I:Inv (X.nP E) dh σ H s):Inv X dh σ H s:=⟨I.ok.kA,I.os,I.bare,I.base,I.loc,I.cell,I.free,I.gG,I.pin,I.hok,I.len⟩
theorem SP.kA{f:Flow}{s':RV}(h:SP (X.nP E) dh D f s'):SP X dh D f s':=by
 cases f with
 | next=>obtain⟨σ',H',I,q⟩:=h;exact⟨σ',H',I.kA,q⟩
 | brk=>obtain⟨σ',H',I,q⟩:=h;exact⟨σ',H',I.kA,q⟩
 | cont=>obtain⟨σ',H',I,q⟩:=h;exact⟨σ',H',I.kA,q⟩
 | ret u=>obtain⟨v,σ',H',I,r,q⟩:=h;exact⟨v,σ',H',I.kA,r,q⟩
theorem PSs.nox{t:TS}(h:PSs X.nox st t):PSs X st t:=λdh s σ H D I hw =>
 UD (h dh s σ H D (I.nP _) hw) (λ_ _ q=>q.kA) λ_ _ z=>U3 z
section
variable {st:Stmt}{rest:List Stmt}{t u:TS} 
def KA:TS:=λD σ H=>D.nx σ H
def dk(t u:TS):TS:=λD σ H=>t { D with nx:=u D } σ H
theorem aH:PSs X [] KA:=λ_ _ σ H _ I h=>WV ⟨σ,H,I,h⟩
theorem aa(h1:PS X st t)(h2:PSs X rest u):PSs X (st :: rest) (dk t u):=by
 l_idx;refine wpAny_execs_cons (thn (h1 dh s σ H { D with nx:=u D } I h) λf s1 q=>?_);cases f with
 | next =>
  obtain⟨σ',H',I',q⟩:=q;exact h2 dh s1 σ' H' D I' q
 | ret v=>exact q
 | brk=>exact q
 | cont=>exact q
theorem ae(h1:PS X st t):PSs X [st] t:=by
 l_idx;refine wpAny_execs_cons (thn (h1 dh s σ H D I h) λf s1 q=>?_);cases f with
 | next=>exact WV q
 | ret v=>exact q
 | brk=>exact q
 | cont=>exact q
theorem Inv.quiet(I:Inv X dh σ H s):interactive X.env=false:=by simp[interactive,I.ok.kind]
def KU(te:TE):TS:=λD σ H=>te σ H λ_ H1=>D.nx σ H1
theorem a9(he:PE X e te)(hs:swapsWith e none pos.line X.env=pure false:=by rfl):PS X (.Expr e pos) (KU te):=by
 l_idx;exact wpAny_Expr_any (thn (he dh s σ H _ I h) λv s1 ⟨x,H1,I1,r1,q1⟩=>⟨σ,H1,I1,q1⟩) I.quiet hs
def Nt(te:TE):TS:=λD σ H=>te σ H D.rt
theorem az(he:PE X e te):PS X (.Return (some e) pos) (Nt te):=by
 l_idx;exact wpAny_Return_some (thn (he dh s σ H _ I h) λv s1 ⟨x,H1,I1,r1,q1⟩=>⟨x,σ,H1,I1,r1,q1⟩)
def JH(c:TT)(t u:TS):TS:=λD σ H=>c σ H λb H1=>if b=true then t D σ H1 else u D σ H1
theorem aU{a b:List Stmt}(hc:PT X c tc)(ha:PSs X a t)(hb:PSs X b u):PS X (.If c a b pos) (JH tc t u):=by
 l_idx;refine wpAny_If (thn (hc dh s σ H _ I h) λd s1 ⟨H1,I1,q1⟩=>?_);cases d with
 | true=>exact ha dh s1 σ H1 D I1 q1
 | false=>exact hb dh s1 σ H1 D I1 q1
def MM:TS:=λ_ _ _=>False
theorem cZ:PS X st MM:=λ_ _ _ _ _ _ h=>h.elim
end
abbrev TG:=V->St->Hp->(Z5)->Prop
abbrev TGs:=List V->St->Hp->(Z5)->Prop
def PG(X:Cx)(target:Expr)(t:TG):Prop :=
 ∀ (dh:Z0) (s:RV) (σ:St) (H:Hp) (v:V) (u:Value) (Q:Z5),Inv X dh σ H s->RelV v u->t v σ H Q ->
  wpAny (model X.prog X.w) X.A (assign target X.env u) (λ_ s'=>∃σ' H',Inv X dh σ' H' s'/\Q σ' H') X.xe s
def PGs(X:Cx)(ts:Z9)(t:TGs):Prop :=
 ∀ (dh:Z0) (s:RV) (σ:St) (H:Hp) (vs:Z7) (us:Z8) (Q:Z5),Inv X dh σ H s->Vals vs us->t vs σ H Q ->
  wpAny (model X.prog X.w) X.A (assignInOrder ((assignEach ts X.env).map (·.2)) us) (λ_ s'=>∃σ' H',Inv X dh σ' H' s'/\Q σ' H') X.xe s
abbrev rH:=V->V->V->Hp->(Hp->Prop)->Prop
def M6(X:Cx)(t:rH):Prop :=
 ∀ (dh:Z0) (s:RV) (σ:St) (H:Hp) (o i v:V) (ov iv u:Value) (Q:Hp->Prop),Inv X dh σ H s->RelV o ov->RelV i iv->RelV v u->t o i v H Q ->
  wpAny (model X.prog X.w) X.A (setItem ov iv u) (λ_ s'=>∃H',Inv X dh σ H' s'/\Q H') X.xe s
def dZ(i:Nat):TG:=λv σ H Q=>Q (σ.set i (some v)) H
theorem oj(hN:X.N.Nodup)(hi:X.N[i]?=some x)(hx:Loc X.env.scope x)(hf:X.fn x=true\/X.env.scope.names.lookup x=some .local:=by first|exact .inl rfl|exact .inr rfl|assumption):PG X (.Name x pos) (dZ i):=by
 intro dh s σ H v u Q I r h;exact wpAny_assign_Name (pk I hN hi hx r (λs' I'=>⟨_,H,I',h⟩) hf)
def xf:TGs:=λvs σ H Q=>vs=[]/\Q σ H
def iU(t:TG)(u:TGs):TGs:=λvs σ H Q=>∃v r,vs=v :: r/\t v σ H λσ' H'=>u r σ' H' Q
theorem iN:PGs X [] xf:=by
 intro dh s σ H vs us Q I r h;obtain⟨e,h⟩:=h;subst e;cases r;exact assignInOrder_nil ⟨σ,H,I,h⟩
theorem cv{t:TG}{u:TGs}(h1:PG X e t)(h2:PGs X es u)
  (hs:(assignEach (e :: es) X.env).map (·.2)=assign e X.env :: (assignEach es X.env).map (·.2):=by rfl):PGs X (e :: es) (iU t u):=by
 intro dh s σ H vs us Q I r h;obtain⟨v,vr,e1,h⟩:=h;subst e1;cases r with
 | cons r rr =>
  rw[hs];refine Xi (thn (h1 dh s σ H _ _ _ I r h) λ_ s1 ⟨σ1,H1,I1,q1⟩=>?_);exact h2 dh s1 σ1 H1 _ _ Q I1 rr q1
def BU(K:RM)(n:Nat)(t:TGs):TG:=λv σ H Q=>∃a xs,v=.ref a/\SqT K H a xs/\xs.length=n/\t xs σ H Q
theorem my{k:Nat}{t:TGs}(hc:X.calm=true)(h:PGs X es t)
  (hn:(assignEach es X.env).length=n:=by rfl) (X':(assignEach es X.env).findIdx? (·.1)=none:=by rfl):PG X (.Tuple es k pos) (BU X.K n t):=by
 intro dh s σ H v u Q I r hw;obtain⟨a,xs,e1,hq,hl,hw⟩:=hw;subst e1;cases r;obtain⟨ZV,rv,ht,hz⟩:=I.tuple hq;refine assign_Tuple_tuple (I.ok.hd hc) ht (by simp[hn,<- hl,rv.length]) X' λh' hx=>?_
 have I1:Inv X dh σ H { s with heap:=h' }:=I.kept (t':=s.toks) λb o e=>hx b o (Sa (R7 e)) e;exact h dh _ σ H xs _ Q I1 (by simpa using rv) hw
def ND(to ti:TE)(t:rH):TG:=λv σ H Q=>to σ H λo H1=>ti σ H1 λi H2=>t o i v H2 λH3=>Q σ H3
theorem oC{o i:Expr}{to ti:TE}{t:rH}(ho:PE X o to)(hi:PE X i ti)(hs:M6 X t)
  (ha:∀v,assign (.Subscript o i pos) X.env v=(do
   let ov <- holding [v] (eval o X.env)
   let iv <- holding [v,ov] (eval i X.env)
   standAt pos
   holding [v,ov,iv] (setItem ov iv v)
   release [v,ov,iv] []):=by intro _;rfl):PG X (.Subscript o i pos) (ND to ti t):=by
 intro dh s σ H v u Q I r h;rw[ha];refine RO (S2 (thn (ho dh s σ H _ I h) λov s1 ⟨x,H1,I1,r1,q1⟩=>?_));refine RO (S2 (thn (hi dh s1 σ H1 _ I1 q1) λiv s2 ⟨y,H2,I2,r2,q2⟩=>?_));refine RO (Wa (RO (S2 (thn (hs dh s2 σ H2 x y v ov iv u _ I2 r1 r2 r q2) λ_ s3 ⟨H3,I3,q3⟩=>?_))));exact wpAny_release ⟨σ,H3,I3,q3⟩
def BI(te:TE)(g:TG):TS:=λD σ H=>te σ H λx H1=>g x σ H1 D.nx
theorem ot{g:TG}(he:PE X e te)(hg:PG X tg g)(hs:swapsWithSole [tg] e pos.line X.env=pure false:=by rfl)(hw:swappedStores [tg] e X.env=pure none:=by rfl)
  (h1:(assignEach [tg] X.env).map (·.2)=[assign tg X.env]:=by rfl):PS X (.Assign [tg] e pos) (BI te g):=by
 l_idx;refine wpAny_Assign_stores (thn (he dh s σ H _ I h) λv s1 ⟨x,H1,I1,r1,q1⟩=>?_) hs hw;rw[h1];exact thn (hg dh s1 σ H1 x v _ I1 r1 q1) λ_ s2 q=>q
theorem NN{pos':Pos}(hN:X.N.Nodup)(hi:X.N[i]?=some x)(hx:Loc X.env.scope x)(he:PE X e te)(hs:swapsWith e (some (.Name x pos')) pos.line X.env=pure false:=by rfl)(hf:X.fn x=true\/X.env.scope.names.lookup x=some .local:=by first|exact .inl rfl|exact .inr rfl|assumption) :
  PS X (.Assign [.Name x pos'] e pos) (BI te (dZ i)):=by
 l_idx;refine wpAny_Assign_Name (thn (he dh s σ H _ I h) λv s1 ⟨y,H1,I1,r1,q1⟩=>?_) hs;exact pk I1 hN hi hx r1 (λs2 I2=>⟨_,H1,I2,q1⟩) hf
def NZ(i j:Nat)(ta:TA):TS:=λD σ H=>ta σ H λvs H1=>∃v w,vs=[v,w]/\D.nx ((σ.set i (some v)).set j (some w)) H1
theorem F6{j:Nat}{y:Str}{px py pt:Pos}{kt k2 pt2}(hc:X.calm=true)(hN:X.N.Nodup)(hi:X.N[i]?=some x)(hj:X.N[j]?=some y)(hij:i≠j)
  (hx:X.env.scope.names.lookup x=some .local) (hy:X.env.scope.names.lookup y=some .local) (ha:PA X [a,b] ta)
  (hw:swappedStores [.Tuple [.Name x px,.Name y py] kt pt] (.Tuple [a,b] k2 pt2) X.env=pure (some [x,y]))
  (hs:swapsWithSole [.Tuple [.Name x px,.Name y py] kt pt] (.Tuple [a,b] k2 pt2) pos.line X.env=pure false:=by rfl) :
  PS X (.Assign [.Tuple [.Name x px,.Name y py] kt pt] (.Tuple [a,b] k2 pt2) pos) (NZ i j ta):=by
 l_idx;rw[exec_Assign_arm];refine RO (Wa ?_);rw[hs];refine RO (R1 ?_);rw[if_neg (by decide)]
 refine RO (Tuple_ (thn (ha _ dh s σ H _ I h) λus s1 ⟨vs,H1,I1,r1,q1⟩=>?_));obtain⟨v,w,e1,q1⟩:=q1;subst e1;obtain⟨u1,u2,rfl,rv,rw'⟩:∃u1 u2,us=[u1,u2]/\RelV v u1/\RelV w u2:=by
  cases r1 with
  | cons p q =>
   cases q with
   | cons p' q' =>
    cases q';exact⟨_,_,rfl,p,p'⟩
 refine UE ?_ (by show 2<=SG;decide)
 have I2:Inv X dh σ H1 { s1 with heap:=s1.heap.push { cls:=.type "tuple",data:=.seq [u1,u2].toArray } }:=I1.kept (t':=s1.toks) λb o e=>RW _ e;rw[hw];refine RO (R1 ?_);show wpAny (model X.prog X.w) X.A (do rule "assign.swapped-stores";let items <- unpackItems (.ref s1.heap.objs.size) 2 none;assignInOrder [λv=>bindName X.env y v,λv=>bindName X.env x v] items.reverse;pure Flow.next) _ _ _;refine RO (YR (RO (unpackItems_tuple (items:=#[u1,u2]) (I.ok.hd hc) (IsTup.new s1.heap _) λh' z!=>?_)));have I3:=I2.kept (h':=h') (t':=s1.toks) λb o e=>z! b o (Sa (R7 e)) e;show wpAny _ _ (assignInOrder [λv=>bindName X.env y v,λv=>bindName X.env x v] [u2,u1] >>= λ_=>pure Flow.next) _ _ _;refine RO (Xi (wpAny_bindName (pk I3 hN hj (.inl hy) rw' (λs2 I4=>?_) (.inr hy))));refine Xi (wpAny_bindName (pk I4 hN hi (.inl hx) rv (λs3 I5=>assignInOrder_nil (R1 ?_)) (.inr hx)));rw[List.set_comm _ _ (UA hij)]at I5;exact⟨_,H1,I5,q1⟩
def Hs(c:TT)(tb:TS):TS:=λD σ H=>∃W:Nat->St->Hp->Prop,(∃m,W m σ H)/\∀m σ H,W m σ H ->
 c σ H λb H1=>if b=true then ∃N:St->Hp->Prop,(∀σ' H',N σ' H'->∃m',m' < m/\W m' σ' H')/\tb { D with nx:=N,ct:=N,bk:=D.nx } σ H1 else D.nx σ H1
theorem fB{tb:TS}(hp:ZI (model X.prog X.w) X.A X.env X.xe)(hc:PT X c tc)(hb:PSs X body tb):PS X (.While c body [] pos) (Hs tc tb):=by
 l_idx;obtain⟨W,⟨m0,w0⟩,turn⟩:=h;refine wpAny_While (codeAny_whileLoop (λn s'=>∃σ' H',Inv X dh σ' H' s'/\W n σ' H') ?_ m0 ⟨σ,H,I,w0⟩);rintro n s1 ⟨σ1,H1,I1,w1⟩;refine Vd hp (thn (hc dh s1 σ1 H1 _ I1 (turn n σ1 H1 w1)) λb s2 ⟨H2,I2,q2⟩=>?_);cases b with
 | true =>
  obtain⟨N,hN,q2⟩:=q2;rw[if_pos rfl];refine Vd hp (thn (hb dh s2 σ1 H2 _ I2 q2) λf s3 q3=>?_);cases f with
  | next =>
   obtain⟨σ3,H3,I3,n3⟩:=q3;obtain⟨m',hm,w3⟩:=hN σ3 H3 n3;exact⟨m',hm,σ3,H3,I3,w3⟩
  | cont =>
   obtain⟨σ3,H3,I3,n3⟩:=q3;obtain⟨m',hm,w3⟩:=hN σ3 H3 n3;exact⟨m',hm,σ3,H3,I3,w3⟩
  | brk=>exact q3
  | ret v=>exact q3
 | false =>
  rw[if_neg So];exact WV ⟨σ1,H2,I2,q2⟩
structure It where
 go:Nat->Hp->Prop
 yld:Nat->Hp->V->Hp->Prop
 stop:Nat->Hp->Prop
def nJ(X:Cx)(dh:Z0)(H:Hp)(b:Addr):Prop :=
 H b=none/\b≠X.env.locals/\b∉X.fs/\(b∈X.ex\/X.s₀.heap.objs.size<=b)/\(∀x c,X.env.cells.lookup x=some c->c≠b)/\∀p∈X.pn++dh,p.1≠b
theorem Inv.xk{H':Hp}{b:Addr}(I:Inv X dh σ H s)(hb:s.heap.objs.size<=b)(hn:H' b=none):nJ X dh H' b:=by
 refine⟨hn,UI (Su I.lt hb),I.NK hb,.inr (SA I.sz hb),λx c e z=>?_,λp hp z=>?_⟩
 .obtain⟨v,q⟩:=I.cell x c e;exact absurd (Su q.lt (by rw[z];exact hb)) (T9 _)
 .exact absurd (Su (R7 (I.pin p hp).1) (by rw[z];exact hb)) (T9 _)
structure Turn(P:Sj)(w:World)(K:RM)(tg:Expr)(J:It)(fp:ZL)(it:Addr)(tn:Nat->Heap->Prop):Prop where
 mem:it∈fp
 obj:∀i h,tn i h->∀b∈fp,∃o,h.get? b=some o/\∀v,o.data≠.cell v
 keep:∀i h h',tn i h->(∀b∈fp,∀o,h.get? b=some o->h'.get? b=some o)->tn i h'
 item:∀ (X:Cx),X.prog=P->X.w=w->X.K=K->X.calm=true->∀ (i:Nat) (dh:Z0) (s:RV) (σ:St) (H:Hp) (E:Value->RV->Prop),Inv X dh σ H s->(∀b∈fp,nJ X dh H b)->tn i s.heap->J.go i H ->
  wpAny (model P w) X.A (pyNext (.ref it)) (λr s1=>∃u,r=some u /\
   wpAny (model P w) X.A (letOwnedTupleGo tg (.ref it) u) (λ_ s2=>∃x H',Inv X dh σ H' s2/\RelV x u/\J.yld i H x H'/\tn (i+1) s2.heap/\∀b∈fp,H' b=none) E s1) E s
 done:∀ (X:Cx),X.prog=P->X.w=w->X.K=K->X.calm=true->∀ (i:Nat) (dh:Z0) (s:RV) (σ:St) (H:Hp) (E:Value->RV->Prop),Inv X dh σ H s->(∀b∈fp,nJ X dh H b)->tn i s.heap->J.stop i H ->
  wpAny (model P w) X.A (pyNext (.ref it)) (λr s1=>r=none/\Inv X dh σ H s1) E s
 self:∀ (A:S7) (i:Nat) (s:RV) (Q:Value->RV->Prop) (E:Value->RV->Prop),tn i s.heap->Q (.ref it) s->wpAny (model P w) A (pyIter (.ref it)) Q E s
abbrev TI:=St->Hp->(It->Hp->Prop)->Prop
def PIE(X:Cx)(dh:Z0)(σ:St)(tg:Expr)(R:It->Hp->Prop)(itv:Value)(s2:RV):Prop :=
 ∃ (it:Addr) (fp:ZL) (tn:Nat->Heap->Prop) (J:It) (H':Hp),itv=.ref it/\Inv X dh σ H' s2/\Turn X.prog X.w X.K tg J fp it tn/\tn 0 s2.heap/\(∀b∈fp,nJ X dh H' b)/\R J H'
def PI(X:Cx)(tg iter:Expr)(wi:TI):Prop :=
 ∀ (dh:Z0) (s:RV) (σ:St) (H:Hp) (R:It->Hp->Prop),Inv X dh σ H s->wi σ H R ->
  wpAny (model X.prog X.w) X.A (eval iter X.env) (λv s1=>wpAny (model X.prog X.w) X.A (pyIter v) (PIE X dh σ tg R) X.xe s1) X.xe s
theorem EZ{it:Addr}{n:String}{Q:Unit->RV->Prop}(ho:s.heap.get? it=some o)(hc:o.cls=.type n)(hd:o.data=.fields vs)
  (hn:["enumerate","zip","dict_itemiterator","dict_reverseitemiterator","odict_iterator","itertools.zip_longest","itertools.pairwise"].contains n=false) (hQ:Q () s):wpAny M A (letOwnedTupleGo tg (.ref it) u) Q E s:=by
 unfold letOwnedTupleGo;cases tg <;> first
  | exact R1 hQ
  | (cases u <;> first
    | exact R1 hQ
    | (refine RO (wpAny_load ho ?_)
       rw[hc,hd];show wpAny M A (if (["enumerate","zip","dict_itemiterator","dict_reverseitemiterator","odict_iterator","itertools.zip_longest","itertools.pairwise"].contains n && vs[0]? == some (rawInt _))=true then _ else _) Q E s;rw[if_neg (by intro h;rw[hn,Bool.false_and]at h;cases h)]
       exact R1 hQ))
def Itl(K:RM)(a:Addr):It :=
 ⟨λi H=>∃xs x,SqL K H a xs/\xs[i]?=some x,λi H x H'=>H'=H/\∀xs,SqL K H a xs->xs[i]?=some x,λi H=>∃xs,SqL K H a xs/\xs.length<=i⟩
def Itr(lo:Int)(n:Nat):It:=⟨λi _=>i<n,λi H x H'=>H'=H/\x=.int (lo+i),λi _=>n<=i⟩
theorem HH(a it:Addr):Turn P w K tg (Itl K a) [it] it (λi h=>h.IsListIter it a i) where
 mem:=by simp
 obj:=λi h st b hb=>by
  have e:b=it:=by simpa using hb
  subst e;obtain⟨o,e,c,d⟩:=st;exact⟨o,e,λv z=>by rw[d]at z;cases z⟩
 keep:=λi h h' st k=>st.at λo e=>k it (by simp) o e
 item:=by
  f_tup;obtain⟨xs,x,hq,hx⟩:=hg;obtain⟨ZV,rv,p,hz⟩:=I.list hq;obtain⟨u,hu,ru⟩:=rv.get hx;k_exc
  refine Yg st p.isList (x:=u) (by simpa using hu) λh' M! sb=>?_
  have I1:Inv X dh σ H { s with heap:=h' }:=I.turned (t':=s.toks) (λb o hb e=>(sb.2 b hb).trans e) f0 f1 f3 f4 f5;obtain⟨o,e,c,d⟩:=id M!;exact⟨u,rfl,EZ (s:={ s with heap:=h' }) e c d (by decide) ⟨x,H,I1,ru,⟨rfl,λys hy=>by rw[I.pQ hy hq];exact hx⟩,M!,λb hb=>(hf b hb).1⟩⟩
 done:=by
  f_tup;obtain⟨xs,hq,hx⟩:=hg;obtain⟨ZV,rv,p,hz⟩:=I.list hq;k_exc
  have hl:=rv.length;exact Yq (I.ok.hd hc) st p.isList (by simp;lia) λh' eb=>⟨rfl,I.turned (t':=s.toks) (λb o hb e=>eb b o hb e) f0 f1 f3 f4 f5⟩
 self:=λ_ _ _ _ _ st h=>wpAny_pyIter_listiter st h
theorem EG(it:Addr)(lo:Int)(n:Nat):Turn P w K tg (Itr lo n) [it] it (λi h=>IsRangeIter h it (lo+(i:Nat) * 1) ((n:Int) - (i:Nat)) 1) where
 mem:=by simp
 obj:=λi h st b hb=>by
  have e:b=it:=by simpa using hb
  subst e;exact⟨_,st,λv z=>by
   have z':Data.fields _=Data.cell v:=z;cases z'⟩
 keep:=λi h h' st k=>k it (by simp) _ st
 item:=by
  f_tup;k_exc
  have W:=Walks.range (prog:=X.prog) (w:=X.w) (I.ok.hd hc) it lo 1 n;refine W.item i s _ _ hg st λv h' tk hv M! kk=>?_;obtain⟨t,rfl⟩:=hv;have I1:Inv X dh σ H { s with heap:=h',toks:=tk }:=I.turned (λb o hb e=>kk b o (by simpa using hb) e) f0 f1 f3 f4 f5
  refine⟨_,rfl,EZ (s:={ s with heap:=h',toks:=tk }) (n:="range_iterator") M! rfl rfl (by decide) ⟨.int (lo+i),H,I1,⟨t,?_⟩,⟨rfl,rfl⟩,M!,λb hb=>(hf b hb).1⟩⟩
  rw[Int.mul_one]
 done:=by
  f_tup;k_exc
  exact wpAny_pyNext_range_end (I.ok.hd hc) st (by have:n<=i:=hg;lia) λh' eb=>⟨rfl,I.turned (t':=s.toks) (λb o hb e=>eb b o hb e) f0 f1 f3 f4 f5⟩
 self:=λ_ _ _ _ _ st h=>wpAny_pyIter_rangeiter st h
def zH(K:RM)(tl:TE):TI:=λσ H R=>tl σ H λx H1=>∃a,x=.ref a/\(∃xs,SqL K H1 a xs)/\R (Itl K a) H1
theorem L8{l:Expr}{tl:TE}(hl:PE X l tl):PI X tg l (zH X.K tl):=by
 intro dh s σ H R I h;refine thn (hl dh s σ H _ I h) λv s1 ⟨x,H1,I1,r1,q1⟩=>?_;obtain⟨a,e,⟨xs,hq⟩,q⟩:=q1;subst e;cases r1;obtain⟨ZV,rv,p,hz⟩:=I1.list hq;refine Ve p.isList ?_;refine⟨s1.heap.objs.size,[s1.heap.objs.size],_,_,H1,rfl,I1.kept (t':=s1.toks) λb o e=>RW _ e,HH a _,⟨_,Si _ rfl,rfl,rfl⟩,λb hb=>?_,q⟩;have e:b=s1.heap.objs.size:=by simpa using hb
 subst e;walk_at "138"
theorem Ae{R:It->Hp->Prop}{hi:Int}{t u v:Tok}{tk:Nat}(I:Inv X dh σ H s)(h1:-(2 ^ 62)<=lo)(h2:lo<2 ^ 62)(h3:-(2 ^ 62)<=hi)(h4:hi<2 ^ 62)
  (q:R (Itr lo (hi - lo).toNat) H):wpAny (model X.prog X.w) X.A (pyIter (.ref s.heap.objs.size)) (PIE X dh σ tg R) E { s with heap:=s.heap.push { cls:=.type "range",data:=.fields #[.int lo t,.int hi u,.int 1 v] },toks:=tk }:=by
 refine wpAny_pyIter_range (IsRange.new ..) (small_one h1 h2 h3 h4) ?_;have I1:Inv X dh σ H { s with heap:=s.heap.push { cls:=.type "range",data:=.fields #[.int lo t,.int hi u,.int 1 v] },toks:=tk }:=I.kept λb o e=>RW _ e;refine⟨(s.heap.push { cls:=.type "range",data:=.fields #[.int lo t,.int hi u,.int 1 v] }).objs.size,[(s.heap.push { cls:=.type "range",data:=.fields #[.int lo t,.int hi u,.int 1 v] }).objs.size],_,_,H,rfl,
  I1.kept (t':=tk) λb o e=>RW _ e,EG _ lo (hi - lo).toNat,?_,λb hb=>?_,q⟩
 .have e1:lo+((0:Nat):Int) * 1=lo:=by simp
  have e2:(((hi - lo).toNat:Nat):Int) - ((0:Nat):Int)=X0 lo hi 1:=by rw[rangeSize_one];split <;> lia
  show IsRangeIter _ _ (lo+((0:Nat):Int) * 1) ((((hi - lo).toNat:Nat):Int) - ((0:Nat):Int)) 1;rw[e1,e2];exact Si _ rfl
 .have e:b=(s.heap.push { cls:=.type "range",data:=.fields #[.int lo t,.int hi u,.int 1 v] }).objs.size:=by simpa using hb
  subst e;walk_at "138"
def zP(ta:TA):TI:=λσ H R=>ta σ H λvs H1=>∃j:Int,vs=[.int j]/\-(2 ^ 62)<=j/\j<2 ^ 62/\R (Itr 0 j.toNat) H1
def Ez(ta:TA):TI:=λσ H R=>ta σ H λvs H1=>∃i j:Int,vs=[.int i,.int j]/\(-(2 ^ 62)<=i/\i<2 ^ 62/\-(2 ^ 62)<=j/\j<2 ^ 62)/\R (Itr i (j - i).toNat) H1
theorem Gz{p:Pos}(hg:Gl X "range")(hm:X.mg "range" = none)(ha:PA X [a] ta)(hs:Ta [a] X.env=[(false,eval a X.env)]:=by rfl):PI X tg (.Call (.Name "range" p) [a] [] pos) (zP ta):=by
 intro dh s σ H R I h;refine Call_ (gU I hg hm boot_range (Ts (thn (ha pos dh s σ H _ I h) λus s1 ⟨vs,H1,I1,r1,q1⟩=>?_) hs rfl));obtain⟨j,e,q1,q2,q⟩:=q1;subst e;cases r1 with
 | cons r rr =>
  cases rr;obtain⟨t,rfl⟩:=r;exact call_range_1 (Ae I1 (by lia) (by lia) q1 q2 (by simpa using q))
theorem G1{p:Pos}(hg:Gl X "range")(hm:X.mg "range" = none)(ha:PA X [a,b] ta)(hs:Ta [a,b] X.env=[(false,eval a X.env),(false,eval b X.env)]:=by rfl)(r!:Ta [b] X.env=[(false,eval b X.env)]:=by rfl) :
  PI X tg (.Call (.Name "range" p) [a,b] [] pos) (Ez ta):=by
 intro dh s σ H R I h;refine Call_ (gU I hg hm boot_range (Ts (thn (ha pos dh s σ H _ I h) λus s1 ⟨vs,H1,I1,r1,q1⟩=>?_) (by rw[hs,r!]) (by rw[r!];rfl)))
 obtain⟨i,j,e,⟨q1,q2,q3,q4⟩,q⟩:=q1;subst e;cases r1 with
 | cons r rr =>
  cases rr with
  | cons r' rr =>
   cases rr;obtain⟨t,rfl⟩:=r;obtain⟨t',rfl⟩:=r';exact call_range_2 (Ae I1 q1 q2 q3 q4 q)
def Iz(wi:TI)(g:TG)(tb:TS):TS:=λD σ H=>wi σ H λJ H1=>∃W:Nat->Nat->St->Hp->Prop,(∃m,W 0 m σ H1)/\∀i m σ H,W i m σ H ->
 (J.stop i H/\D.nx σ H)\/(J.go i H/\∃N:St->Hp->Prop,(∀σ' H',N σ' H'->∃m',m' < m/\W (i+1) m' σ' H')/\∀x H',J.yld i H x H'->g x σ H' λσ2 H2=>tb { D with nx:=N,ct:=N,bk:=D.nx } σ2 H2)
def oM(fp:ZL)(h:Heap):Z0:=fp.filterMap λb=>(h.get? b).map λo=>(b,o)
theorem lu{b:Addr}(hb:b∈fp)(e:h.get? b=some o):(b,o)∈oM fp h:=Xj.mpr ⟨b,hb,by rw[e];rfl⟩
theorem GG(hp:p∈oM fp h):p.1∈fp/\h.get? p.1=some p.2:=by
 obtain⟨b,hb,e⟩:=Xj.mp hp;cases q:h.get? b with
 | none=>rw[q]at e;cases e
 | some o =>
  rw[q]at e;have e':(b,o)=p:=SI e;subst e';exact⟨hb,q⟩
theorem Inv.pinned(I:Inv X dh σ H s)(hf:∀b∈fp,nJ X dh H b)(ho:∀b∈fp,∃o,s.heap.get? b=some o/\∀v,o.data≠.cell v):Inv X (dh++oM fp s.heap) σ H s :=
 I.sO λp hp=>(R5.mp hp).elim (λz=>I.pin p (SJ _ z)) λz=>by
  obtain⟨hb,e⟩:=GG z;obtain⟨f0,f1,f2,_⟩:=hf p.1 hb;obtain⟨o,e',d⟩:=ho p.1 hb;rw[e]at e';cases e';exact⟨e,f0,f1,f2,d⟩
theorem Inv.pK{pl:Z0}(I:Inv X (dh++pl) σ H s):Inv X dh σ H s:=I.sO λp hp=>I.pin p (SJ _ (Tx _ hp))
theorem OM{iter:Expr}{wi:TI}{g:TG}{tb:TS}(hp:ZI (model X.prog X.w) X.A X.env X.xe)(hc:X.calm=true)(hi:PI X tg iter wi)(hg:PG X tg g)(hb:PSs X body tb)
  (hs:∀x,foldedSetIterable iter X.env x=pure x:=by intro _;rfl):PS X (.For tg iter body [] pos) (Iz wi g tb):=by
 l_idx;refine wpAny_For (thn (hi dh s σ H _ I h) λv s1 h1=>thn h1 λitv s2 h2=>?_) hs;obtain⟨it,fp,tn,J,H2,e,I2,T,st2,f2,W,⟨m0,w0⟩,turn⟩:=h2;subst e;have stat:∀ {H':Hp},(∀b∈fp,H' b=none)->∀b∈fp,nJ X dh H' b:=λhn b hb=>⟨hn b hb,(f2 b hb).2⟩;refine codeAny_forLoop_any (λn s'=>∃i σ' H',Inv X dh σ' H' s'/\tn i s'.heap/\(∀b∈fp,H' b=none)/\W i n σ' H') ?_ m0 ⟨0,σ,H2,I2,st2,λb hb=>(f2 b hb).1,w0⟩;rintro n s3 ⟨i,σ3,H3,I3,st3,fr3,w3⟩;rcases turn i n σ3 H3 w3 with ⟨stop,qn⟩|⟨go,N,hN,step⟩
 .refine Vd hp (thn (T.done X rfl rfl rfl hc i dh s3 σ3 H3 X.xe I3 (stat fr3) st3 stop) λr s4 ⟨hr,I4⟩=>?_);subst hr;exact WV ⟨σ3,H3,I4,qn⟩
 .refine Vd hp (thn (T.item X rfl rfl rfl hc i dh s3 σ3 H3 X.xe I3 (stat fr3) st3 go) λr s4 ⟨u,hr,h4⟩=>?_);subst hr;refine Vd hp (thn h4 λ_ s5 ⟨x,H5,I5,r5,y5,st5,fr5⟩=>?_);have I5':=I5.pinned (stat fr5) (T.obj _ _ st5);refine Vd hp (thn (hg _ s5 σ3 H5 x u _ I5' r5 (step x H5 y5)) λ_ s6 ⟨σ6,H6,I6,q6⟩=>?_);refine Vd hp (thn (hb _ s6 σ6 H6 _ I6 q6) λf s7 q7=>?_);have again:∀ {σ7:St} {H7:Hp},Inv X (dh++oM fp s5.heap) σ7 H7 s7->N σ7 H7->∃m,m<n/\∃i σ' H',Inv X dh σ' H' s7/\tn i s7.heap/\(∀b∈fp,H' b=none)/\W i m σ' H':=λ{σ7 H7} I7 n7=>by
   obtain⟨m',hm,w7⟩:=hN σ7 H7 n7;refine⟨m',hm,i+1,σ7,H7,I7.pK,T.keep _ _ _ st5 λb hb o e=>(I7.pin (b,o) (SJ _ (SJ _ (lu hb e)))).1,λb hb=>?_,w7⟩;obtain⟨o,e,d⟩:=T.obj _ _ st5 b hb;exact(I7.pin (b,o) (SJ _ (SJ _ (lu hb e)))).2.1
  cases f with
  | next=>obtain⟨σ7,H7,I7,n7⟩:=q7;exact again I7 n7
  | cont=>obtain⟨σ7,H7,I7,n7⟩:=q7;exact again I7 n7
  | brk=>obtain⟨σ7,H7,I7,q7⟩:=q7;exact⟨σ7,H7,I7.pK,q7⟩
  | ret v=>obtain⟨x7,σ7,H7,I7,r7,q7⟩:=q7;exact⟨x7,σ7,H7,I7.pK,r7,q7⟩
theorem o7{a:Addr}{g:TG}{tb:TS}(Pv:ZT)(h0:Pv 0 σ H)(hl:∀i σ H,i<=xs.length->Pv i σ H->SqL K H a xs)
  (hs:∀i x σ H,xs[i]?=some x->Pv i σ H->g x σ H λσ2 H2=>tb { D with nx:=Pv (i+1),ct:=Pv (i+1),bk:=D.nx } σ2 H2) (hd:∀σ H,Pv xs.length σ H->D.nx σ H) :
  ∃W:Nat->Nat->St->Hp->Prop,(∃m,W 0 m σ H)/\∀i m σ H,W i m σ H ->
   ((Itl K a).stop i H/\D.nx σ H)\/((Itl K a).go i H/\∃N:St->Hp->Prop,(∀σ' H',N σ' H'->∃m',m' < m/\W (i+1) m' σ' H')/\∀x H',(Itl K a).yld i H x H'->g x σ H' λσ2 H2=>tb { D with nx:=N,ct:=N,bk:=D.nx } σ2 H2):=by
 refine⟨λi m σ H=>m=xs.length - i/\i<=xs.length/\Pv i σ H,⟨xs.length,by simp,SO _,h0⟩,?_⟩
 rintro i m σ H ⟨rfl,hi,p⟩;have q:=hl i σ H hi p
 by_cases ZW:i<xs.length
 .refine .inr ⟨⟨xs,xs[i],q,by simp[ZW]⟩,Pv (i+1),λσ' H' p'=>⟨xs.length - (i+1),by lia,rfl,ZW,p'⟩,λx H' y=>?_⟩
  obtain⟨e,y⟩:=y;subst e;exact hs i x σ _ (y xs q) p
 .have e:i=xs.length:=by lia
  subst e;exact .inl ⟨⟨xs,q,R6 _⟩,hd σ H p⟩
theorem HY{g:TG}{tb:TS}(Pv:ZT)(h0:Pv 0 σ H)
  (hs:∀i σ H,i<n->Pv i σ H->g (.int (lo+i)) σ H λσ2 H2=>tb { D with nx:=Pv (i+1),ct:=Pv (i+1),bk:=D.nx } σ2 H2) (hd:∀σ H,Pv n σ H->D.nx σ H) :
  ∃W:Nat->Nat->St->Hp->Prop,(∃m,W 0 m σ H)/\∀i m σ H,W i m σ H ->
   ((Itr lo n).stop i H/\D.nx σ H)\/((Itr lo n).go i H/\∃N:St->Hp->Prop,(∀σ' H',N σ' H'->∃m',m' < m/\W (i+1) m' σ' H')/\∀x H',(Itr lo n).yld i H x H'->g x σ H' λσ2 H2=>tb { D with nx:=N,ct:=N,bk:=D.nx } σ2 H2):=by
 refine⟨λi m σ H=>m=n - i/\i<=n/\Pv i σ H,⟨n,by simp,SO _,h0⟩,?_⟩
 rintro i m σ H ⟨rfl,hi,p⟩
 by_cases ZW:i<n
 .refine .inr ⟨ZW,Pv (i+1),λσ' H' p'=>⟨n - (i+1),by lia,rfl,ZW,p'⟩,λx H' y=>?_⟩
  obtain⟨e,y⟩:=y;subst e y;exact hs i σ _ ZW p
 .have e:i=n:=by lia
  subst e;exact .inl ⟨R6 _,hd σ H p⟩
abbrev R2:=V->V->Hp->VK->Prop
def OpR(X:Cx)(f:Value->Value->Sem Value)(r:R2):Prop :=
 ∀ (dh:Z0) (s:RV) (σ:St) (H:Hp) (x y:V) (v u:Value) (Q:VK),Inv X dh σ H s->RelV x v->RelV y u->r x y H Q ->
  wpAny (model X.prog X.w) X.A (f v u) (EP X dh σ Q) X.xe s
def UnR(X:Cx)(f:Value->Sem Value)(r:V->Hp->VK->Prop):Prop :=
 ∀ (dh:Z0) (s:RV) (σ:St) (H:Hp) (x:V) (v:Value) (Q:VK),Inv X dh σ H s->RelV x v->r x H Q ->
  wpAny (model X.prog X.w) X.A (f v) (EP X dh σ Q) X.xe s
def cR(X:Cx)(f:Value)(r:List V->Hp->VK->Prop):Prop :=
 ∀ (dh:Z0) (s:RV) (σ:St) (H:Hp) (xs:Z7) (us:Z8) (Q:VK),Inv X dh σ H s->Vals xs us->r xs H Q ->
  wpAny (model X.prog X.w) X.A (call f us) (EP X dh σ Q) X.xe s
def tOp(r:R2)(ta tb:TE):TE:=λσ H Q=>ta σ H λx H1=>tb σ H1 λy H2=>r x y H2 Q
def tUn(r:V->Hp->VK->Prop)(ta:TE):TE:=λσ H Q=>ta σ H λx H1=>r x H1 Q
def rI(C:Int->Int->Prop)(g:Int->Int->V):R2:=λx y H Q=>∃i j,x=.int i/\y=.int j/\C i j/\Q (g i j) H
def rI0(g:Int->Int->V):R2:=λx y H Q=>∃i j,x=.int i/\y=.int j/\Q (g i j) H
def rU(g:Int->V):V->Hp->VK->Prop:=λx H Q=>∃i,x=.int i/\Q (g i) H
section
variable {ta tb tc:TE} 
theorem Il(ha:PE X a ta)(hb:PE X b tb)(I:Inv X dh σ H s)
  (h:ta σ H λx H1=>tb σ H1 λy H2=>R x y H2) {Q:Value->RV->Prop} {f:Value->Value->Sem Value}
  (hf:∀v u s2 x y H2,Inv X dh σ H2 s2->RelV x v->RelV y u->R x y H2->wpAny (model X.prog X.w) X.A (f v u) Q X.xe s2) :
  wpAny (model X.prog X.w) X.A (eval a X.env) (λv s₁=>wpAny (model X.prog X.w) X.A (eval b X.env) (λu s₂=>wpAny (model X.prog X.w) X.A (f v u) Q X.xe s₂) X.xe s₁) X.xe s:=by
 walk_at "128";refine thn (hb dh s1 σ H1 _ I1 q1) λu s2 ⟨y,H2,I2,r2,q2⟩=>?_;exact hf v u s2 x y H2 I2 r1 r2 q2
theorem ao{op:Operator}{r:R2}(ho:OpR X (binaryOp op) r)(ha:PE X a ta)(hb:PE X b tb):PE X (.BinOp a op b pos) (tOp r ta tb):=by
 f_are;exact wpAny_BinOp (Il ha hb I h λv u s2 x y H2 I2 rx ry q=>ho dh s2 σ H2 x y v u Q I2 rx ry q)
theorem P1{op:UnaryOp}{r:V->Hp->VK->Prop}(ho:UnR X (unaryOp op) r)(ha:PE X a ta):PE X (.UnaryOp op a pos) (tUn r ta):=by
 f_are;exact UnaryOp_ (thn (ha dh s σ H _ I h) λv s1 ⟨x,H1,I1,r1,q1⟩=>ho dh s1 σ H1 x v Q I1 r1 q1)
theorem opI 
  (rule:∀ (i j:Int) (t u:Tok) (s:RV) (Q:Value->RV->Prop) (E:Value->RV->Prop),C i j->Q (.int (g i j) s.toks) { s with toks:=s.toks+1 }->wpAny (model X.prog X.w) X.A (f (.int i t) (.int j u)) Q E s) :
  OpR X f (rI C λi j=>.int (g i j)):=by
 k_not;obtain⟨i,j,rfl,rfl,hc,q⟩:=h;obtain⟨t,rfl⟩:=rx;obtain⟨t',rfl⟩:=ry;exact rule i j t t' s _ _ hc ⟨.int (g i j),H,I.tok _,⟨_,rfl⟩,q⟩
theorem MQ 
  (rule:∀ (i j:Int) (t u:Tok) (s:RV) (Q:Value->RV->Prop) (E:Value->RV->Prop),Q (.int (g i j) s.toks) { s with toks:=s.toks+1 }->wpAny (model X.prog X.w) X.A (f (.int i t) (.int j u)) Q E s) :
  OpR X f (rI0 λi j=>.int (g i j)):=by
 k_not;obtain⟨i,j,rfl,rfl,q⟩:=h;obtain⟨t,rfl⟩:=rx;obtain⟨t',rfl⟩:=ry;exact rule i j t t' s _ _ ⟨.int (g i j),H,I.tok _,⟨_,rfl⟩,q⟩
theorem EO{g:Int->Int->Bool}
  (rule:∀ (i j:Int) (t u:Tok) (s:RV) (Q:Value->RV->Prop) (E:Value->RV->Prop),Q (.bool (g i j)) s->wpAny (model X.prog X.w) X.A (f (.int i t) (.int j u)) Q E s) :
  OpR X f (rI0 λi j=>.bl (g i j)):=by
 k_not;obtain⟨i,j,rfl,rfl,q⟩:=h;obtain⟨t,rfl⟩:=rx;obtain⟨t',rfl⟩:=ry;exact rule i j t t' s _ _ ⟨.bl (g i j),H,I,rfl,q⟩
def OJ(i j:Int):Prop:=0<j/\j<1073741824
def ER(i j:Int):Prop:=(-(2 ^ 64)<i/\i<2 ^ 64)\/(-(2 ^ 64)<j/\j<2 ^ 64)
theorem ER.ok{i j:Int}(h:ER i j):IntMulOk i j:=by
 rcases h with ⟨h1,h2⟩|⟨h1,h2⟩
 .exact .of_left (intBits_le_64 h1 h2)
 .exact .of_right (intBits_le_64 h1 h2)
theorem aT:OpR X (binaryOp .Add) (rI0 λi j=>.int (i+j)):=MQ λ_ _ _ _ _ _ _ q=>add_int q
theorem gA:OpR X (binaryOp .Sub) (rI0 λi j=>.int (i - j)):=MQ λ_ _ _ _ _ _ _ q=>sub_int q
theorem bO:OpR X (binaryOp .Mult) (rI ER λi j=>.int (i * j)):=opI λ_ _ _ _ _ _ _ hc q=>mul_int q hc.ok
theorem ck:OpR X (binaryOp .FloorDiv) (rI OJ λi j=>.int (i / j)):=opI λi j _ _ _ _ _ hc q=>by
 have h1:(0:Int)<j:=hc.1;have h2:j<1073741824:=hc.2;exact floordiv_int (by lia) (by rw[Int.fdiv_eq_ediv_of_nonneg i (by lia)];exact q) (.inl (PyProof.noPylong_small (by lia)))
theorem aM:OpR X (binaryOp .Mod) (rI (λ_ j=>0<j) λi j=>.int (i % j)):=opI λi j _ _ _ _ _ hc q=>by
 have h1:(0:Int)<j:=hc;exact mod_int' (by lia) (by rw[Int.fmod_eq_emod_of_nonneg i (by lia)];exact q)
theorem unI{f:Value->Sem Value}{g:Int->Int}
  (rule:∀ (i:Int) (t:Tok) (s:RV) (Q:Value->RV->Prop) (E:Value->RV->Prop),Q (.int (g i) s.toks) { s with toks:=s.toks+1 }->wpAny (model X.prog X.w) X.A (f (.int i t)) Q E s) :
  UnR X f (rU λi=>.int (g i)):=by
 intro dh s σ H x v Q I rx h;obtain⟨i,rfl,q⟩:=h;obtain⟨t,rfl⟩:=rx;exact rule i t s _ _ ⟨.int (g i),H,I.tok _,⟨_,rfl⟩,q⟩
theorem NX:UnR X (unaryOp .USub) (rU λi=>.int (-i)):=unI λ_ _ _ _ _ q=>neg_int q
end
def MZ:V->V->Bool
 | .non,.non=>true | .non,.int _=>true | .int _,.non=>true | .non,.bl _=>true | .bl _,.non=>true | .non,.str _=>true | .str _,.non=>true
 | .int _,.int _=>true | .bl _,.bl _=>true | .str _,.str _=>true | .byt _,.byt _=>true
 | .int _,.str _=>true | .str _,.int _=>true | .bl _,.str _=>true | .str _,.bl _=>true
 | _,_=>false
def rEq:R2:=λx y H Q=>MZ x y=true/\Q (.bl (decide (x=y))) H
def rNe:R2:=λx y H Q=>MZ x y=true/\Q (.bl (!decide (x=y))) H
theorem DK{i j:Int}:decide (V.int i=V.int j)=(i == j):=by
 rw[UJ];simp
theorem Hx{i j:Bool}:decide (V.bl i=V.bl j)=(i == j):=by
 rw[UJ];simp
theorem Dj{i j:Str}:decide (V.str i=V.str j)=(i == j):=by
 rw[UJ];simp
theorem DI{i j:Array UInt8}:decide (V.byt i=V.byt j)=(i.toList == j.toList):=by
 rw[UJ];cases i;cases j;simp
section
variable {ta tb tc:TE} 
theorem bJ{Q:VK}{k k':Bool}(I:Inv X dh σ H s)(q:Q (.bl k) H)(e:k=k'):EP X dh σ Q (.bool k') s:=by
 subst e;exact⟨.bl k,H,I,rfl,q⟩
theorem cz:OpR X (compareOp .Eq) rEq:=by
 k_not;obtain⟨hs,q⟩:=h;cases x with
 | non =>
  cases rx;cases y with
  | non=>cases ry;exact PySem.EqNone.eq_none_none (bJ I q (by simp))
  | bl j=>cases ry;exact PySem.EqNone.eq_none_bool (bJ I q (by simp))
  | int j=>obtain⟨t',rfl⟩:=ry;exact PySem.EqNone.eq_none_int (bJ I q (by simp))
  | str j=>obtain⟨t',rfl⟩:=ry;exact PySem.EqNone.eq_none_str (bJ I q (by simp))
  | _=>exact absurd (show false=true from hs) So
 | bl i =>
  cases rx;cases y with
  | non=>cases ry;exact PySem.EqNone.eq_bool_none (bJ I q (by simp))
  | bl j=>cases ry;exact eq_bool (bJ I q Hx)
  | str j=>obtain⟨t',rfl⟩:=ry;exact PySem.EqMixed.eq_bool_str (bJ I q (by simp))
  | _=>exact absurd (show false=true from hs) So
 | int i =>
  obtain⟨t,rfl⟩:=rx;cases y with
  | non=>cases ry;exact PySem.EqNone.eq_int_none (bJ I q (by simp))
  | int j=>obtain⟨t',rfl⟩:=ry;exact eq_int (bJ I q DK)
  | str j=>obtain⟨t',rfl⟩:=ry;exact PySem.EqMixed.eq_int_str (bJ I q (by simp))
  | _=>exact absurd (show false=true from hs) So
 | str i =>
  obtain⟨t,rfl⟩:=rx;cases y with
  | non=>cases ry;exact PySem.EqNone.eq_str_none (bJ I q (by simp))
  | bl j=>cases ry;exact PySem.EqMixed.eq_str_bool (bJ I q (by simp))
  | int j=>obtain⟨t',rfl⟩:=ry;exact PySem.EqMixed.eq_str_int (bJ I q (by simp))
  | str j=>obtain⟨t',rfl⟩:=ry;exact eq_str (bJ I q Dj)
  | _=>exact absurd (show false=true from hs) So
 | byt i =>
  obtain⟨t,rfl⟩:=rx;cases y with
  | byt j=>obtain⟨t',rfl⟩:=ry;exact PySem.W.eq_bytes (bJ I q DI)
  | _=>exact absurd (show false=true from hs) So
 | _=>cases y <;> exact absurd (show false=true from hs) So
theorem fY:OpR X (compareOp .NotEq) rNe:=by
 k_not;obtain⟨hs,q⟩:=h;cases x with
 | non =>
  cases rx;cases y with
  | non=>cases ry;exact PySem.EqNone.ne_none_none (bJ I q (by simp))
  | bl j=>cases ry;exact PySem.EqNone.ne_none_bool (bJ I q (by simp))
  | int j=>obtain⟨t',rfl⟩:=ry;exact PySem.EqNone.ne_none_int (bJ I q (by simp))
  | str j=>obtain⟨t',rfl⟩:=ry;exact PySem.EqNone.ne_none_str (bJ I q (by simp))
  | _=>exact absurd (show false=true from hs) So
 | bl i =>
  cases rx;cases y with
  | non=>cases ry;exact PySem.EqNone.ne_bool_none (bJ I q (by simp))
  | bl j=>cases ry;exact ne_bool (bJ I q (congrArg not Hx))
  | str j=>obtain⟨t',rfl⟩:=ry;exact PySem.EqMixed.ne_bool_str (bJ I q (by simp))
  | _=>exact absurd (show false=true from hs) So
 | int i =>
  obtain⟨t,rfl⟩:=rx;cases y with
  | non=>cases ry;exact PySem.EqNone.ne_int_none (bJ I q (by simp))
  | int j=>obtain⟨t',rfl⟩:=ry;exact ne_int (bJ I q (congrArg not DK))
  | str j=>obtain⟨t',rfl⟩:=ry;exact PySem.EqMixed.ne_int_str (bJ I q (by simp))
  | _=>exact absurd (show false=true from hs) So
 | str i =>
  obtain⟨t,rfl⟩:=rx;cases y with
  | non=>cases ry;exact PySem.EqNone.ne_str_none (bJ I q (by simp))
  | bl j=>cases ry;exact PySem.EqMixed.ne_str_bool (bJ I q (by simp))
  | int j=>obtain⟨t',rfl⟩:=ry;exact PySem.EqMixed.ne_str_int (bJ I q (by simp))
  | str j=>obtain⟨t',rfl⟩:=ry;exact ne_str (bJ I q (congrArg not Dj))
  | _=>exact absurd (show false=true from hs) So
 | byt i =>
  obtain⟨t,rfl⟩:=rx;cases y with
  | byt j=>obtain⟨t',rfl⟩:=ry;exact PySem.W.ne_bytes (bJ I q (congrArg not DI))
  | _=>exact absurd (show false=true from hs) So
 | _=>cases y <;> exact absurd (show false=true from hs) So
theorem nh:OpR X (compareOp .Lt) (rI0 λi j=>.bl (decide (i<j))):=EO λ_ _ _ _ _ _ _ q=>lt_int q
theorem Qd:OpR X (compareOp .LtE) (rI0 λi j=>.bl (decide (i<=j))):=EO λ_ _ _ _ _ _ _ q=>le_int q
theorem jP:OpR X (compareOp .Gt) (rI0 λi j=>.bl (decide (j<i))):=EO λ_ _ _ _ _ _ _ q=>gt_int q
theorem zL:OpR X (compareOp .GtE) (rI0 λi j=>.bl (decide (j<=i))):=EO λ_ _ _ _ _ _ _ q=>ge_int q
theorem iT(b:Expr)(h:op≠.In:=by decide)(h2:op≠.NotIn:=by decide):behindInMarks op b=false:=by
 have e1:(op == CmpOp.In)=false:=by cases op <;> first|rfl|exact absurd rfl h
 have e2:(op == CmpOp.NotIn)=false:=by cases op <;> first|rfl|exact absurd rfl h2
 cases b <;> simp[behindInMarks,e1,e2]
theorem iH{r:R2}(ho:OpR X (compareOp op) r)(ha:PE X a ta)(hb:PE X b tb)(hm:behindInMarks op b=false):PE X (.Compare a [op] [b] pos) (tOp r ta tb):=by
 f_are;exact wpAny_Compare1 (Il ha hb I h λv u s2 x y H2 I2 rx ry q=>ho dh s2 σ H2 x y v u Q I2 rx ry q) hm
def Fx(t:TE):TT:=λσ H Q=>t σ H λx H'=>∃k,x=.bl k/\Q k H'
theorem oi{r:R2}(ho:OpR X (compareOp op) r)(ha:PE X a ta)(hb:PE X b tb)(hm:behindInMarks op b=false):PT X (.Compare a [op] [b] pos) (Fx (tOp r ta tb)):=by
 intro dh s σ H Q I h;refine Yp (thn (ha dh s σ H _ I h) λv s1 ⟨x,H1,I1,r1,q1⟩=>thn (hb dh s1 σ H1 _ I1 q1) λu s2 ⟨y,H2,I2,r2,q2⟩ =>
  thn (ho dh s2 σ H2 x y v u _ I2 r1 r2 q2) λc s3 ⟨z,H3,I3,r3,k,e,q3⟩=>?_) hm
 subst e;cases r3;exact Um ⟨H3,I3,q3⟩
theorem uN:(SG:Nat)<2 ^ 63:=by rw[SH];decide
theorem vals1{x:V}(r:Vals [x] us):∃u,us=[u]/\RelV x u:=by
 cases r with
 | cons r1 r2=>cases r2;exact⟨_,rfl,r1⟩
end
variable {C dx:Addr}{params:Arguments}{b:Bool}{X:Cx}{e:Expr}{base h:Heap}{H:Hp}{dh:Z0}{fs:List (Str×V)}{kw:List (Str×Value)}{outer:List Env}{es:Z9}{body:List Stmt}{ps:ZN}{dvs vs:Z7}{r:List V->Hp->VK->Prop}{gV:List V->List V->List V}{ds us:Z8}{g:List Value->List Value->List Value}{kws:List Yv}{k:Nat}{nm:Option Str}{o:ZS}{apos pos:Pos}{K:RM}{s:RV}{A:S7}{scope:Scope}{pl:Sem Bool}{P prog:Sj}{σ:St}{f m name qual x:Str}{kindOf:Str->Option VC}{mA mg:Z6}{t:TA}{fd:TC}{ta te:TE}{u v:Value}{E Q:Value->RV->Prop}{w:World}{R:Ys->RV->Prop}
structure ud(h:Heap)(x dx C:Addr)(mA:Z6):Prop where
 obj:h.get? x=some (UX C dx)
 ns:h.Ns1 dx mA
 ne:dx≠x
theorem GN(n:h.Ns1 dx mA):∃od,h.get? dx=some od/\∀name,Xu name od=some (mA name):=by
 obtain⟨o,es,ep,ho,hd,hk,_,hm⟩:=n;refine⟨o,ho,λname=>?_⟩;have e:=hm name;unfold nsFind findBy at e;rw[<- Array.find?_toList]at e;unfold Xu;rw[hd];o_src
 split
 .rename_i y q
  rw[q]at e;exact congrArg some e
 .rename_i q
  rw[q]at e;have a:es.toList.any (·.refKey)=false:=by
   rw[Ws];intro y hy;obtain⟨z,t,hkey⟩:=hk y (Array.mem_toList_iff.mp hy);simp[DictEntry.refKey,hkey]
  have a':¬ es.toList.any (·.refKey)=true:=by rw[a];exact So
  rw[if_neg a'];exact congrArg some e
theorem ud.look{x:Addr}(I:ud h x dx C mA):∃od,PySem.W.InstAt h x (UX C dx) C (some od)/\∀name,Xu name od=some (mA name) :=
 let ⟨od,ho,hl⟩:=GN I.ns
 ⟨od,⟨I.obj,rfl,rfl,ho⟩,hl⟩
section
variable {x f:Addr} 
theorem get_map{expr:Bool}(X:K.In s.heap)(I:ud s.heap x dx C mA)(hg:V1 K C name=true)(hh:Wt K C=true)
  (ha:T5 K (.ref C) name=some none) (hv:mA name=some v) (hv':PySem.W.handedIn v=true) (h:Q v { s with toks:=s.toks+1 }) :
  wpAny (model prog w) A (getAttr (.ref x) name expr) Q E s:=by
 obtain⟨od,J,hl⟩:=I.look;exact PySem.W.get_value X J (WW hg).1 (PySem.W.findObj_own hh ha rfl (by rw[hl,hv])) hv' h
theorem J9{Q:Value×List Value->RV->Prop}(X:K.In s.heap)(I:ud s.heap x dx C mA)(hg:V1 K C name=true)
  (hf:T5 K (.ref C) name=some (some (.ref f))) (ht:Xk K (.ref f)=true) (hv:mA name=none) (h:Q (.ref f,[.ref x]) s) :
  wpAny (model prog w) A (getMethod (.ref x) name pl) Q E s:=by
 obtain⟨od,J,hl⟩:=I.look;exact PySem.W.method_fn X J (WW hg).1 (WW hg).2 hf (beq_iff_eq.mp ht) (by show (Xu name od).map (·.isSome)=some false;rw[hl,hv];rfl) h
theorem Ly{ns:ZN}{Q:Unit->RV->Prop}(X:K.In s.heap)(I:ud s.heap x dx C mA)
  (hs:T5 K (.ref C) "__setattr__" = some (some (.builtin "object.__setattr__"))) (hp:XE K C=true) (ht:Yr K C name=some none) (hh:Wt K C=true)
  (hw:Zm mA ns) (hsz:ns.length<=SG)
  (h:∀h',ud h' x dx C (λy=>if y=name then some v else mA y)->VF dx s.heap h'->Q () { s with heap:=h',toks:=s.toks+2 }) :
  wpAny (model prog w) A (setAttr (.ref x) name v) Q E s:=by
 obtain⟨od,J,hl⟩:=I.look;refine PySem.W.set_plain X J hs (PySem.W.osa_open (s:={ s with toks:=s.toks+1 }) (r:=none) X J hp ht λb=>?_);obtain⟨cd,hc,ZZ⟩:=PySem.W.any_some hh;have hx:s.heap.get? x=some ⟨.ref C,some dx,.plain,#[]⟩:=I.obj;refine RO (R1 (RO (RO (wpAny_loadPart hx (RO (PySem.W.Looks.here (s:={ s with toks:=s.toks+1 }) (PySem.W.looks_clsIn X hc) ?_))))));rw[ZZ];refine R1 (a:=some dx) (RO (R1 (RO ?_)));refine wpAny_nsSet1 (s:={ s with toks:=s.toks+1 }) I.ns λh' hn2 r!=>?_;obtain⟨oD,esD,epD,hoD,hdD,hcD⟩:=hn2.count (PySem.Within.cons name v hw);refine RO (wpAny_lookBehind hoD (by rw[hdD];exact pastItsLine_dict (SA hcD (by rw[SU];lia))) ?_)
 exact R1 (h _ ⟨(r!.2 _ (UA I.ne)).trans I.obj,hn2,I.ne⟩ r!)
theorem IP{vs:Z8}(X:K.In s.heap)(hm:Yt K C=true)
  (hi:T5 K (.ref C) "__init__" = some (some (.ref f))) (hf:PySem.W.typeIn K (.ref f)=some (.type "function"))
  (h:codeAny (model prog w) (A.under (.builtin "type.__call__" ⟨.ref C :: vs,kw⟩)) (.call (.ref f) ⟨.ref (s.heap.objs.size+1) :: vs,kw⟩) (PySem.W.InitBack (s.heap.objs.size+1) R)
   { s with heap:=(s.heap.push Uo).push (UX C s.heap.objs.size) }) :
  codeAny (model prog w) A (.call (.ref C) ⟨vs,kw⟩) R s:=by
 obtain⟨hh,g,d,t,os⟩:=s;exact PySem.W.make_core (PySem.W.makes_of X hm) (PySem.W.looks_findIn X hi) (λself=>PySem.W.bind_fn X self hf) (.inl rfl) h
end
def bF(f:Str)(v:V):List (Str×V)->List (Str×V)
 | []=>[(f,v)]
 | (g,x) :: r=>if g=f then (g,v) :: r else (g,x) :: bF f v r
theorem tI(f g:Str)(v:V):∀fs:List (Str×V),(bF f v fs).lookup g=if g=f then some v else fs.lookup g
 | []=>by
  show Wu g [(f,v)]=_
  by_cases h:g=f
  .have hb:(g == f)=true:=beq_iff_eq.mpr h;simp only[Wu,hb,if_pos h]
  .have hb:(g == f)=false:=beq_eq_false_iff_ne.mpr h;simp only[Wu,hb,if_neg h]
 | (k,x) :: r=>by
  have ih:=tI f g v r;o_rec
  by_cases hk:k=f
  .rw[if_pos hk]
   by_cases h:g=k
   .have hb:(g == k)=true:=beq_iff_eq.mpr h;simp only[Wu,hb,if_pos (h.trans hk)]
   .have hb:(g == k)=false:=beq_eq_false_iff_ne.mpr h;simp only[Wu,hb,if_neg (λe:g=f=>h (e.trans hk.symm))]
  .rw[if_neg hk]
   by_cases h:g=k
   .have hb:(g == k)=true:=beq_iff_eq.mpr h;simp only[Wu,hb,if_neg (λe:g=f=>hk (h.symm.trans e))]
   .have hb:(g == k)=false:=beq_eq_false_iff_ne.mpr h;simp only[Wu,hb];exact ih
theorem qY(f:Str)(v:V):∀fs:List (Str×V),f∈(bF f v fs).map (·.1)/\∀g,g∈fs.map (·.1)->g∈(bF f v fs).map (·.1)
 | []=>⟨by simp[bF],λg h=>by simp at h⟩
 | (k,x) :: r=>by
  obtain⟨i1,i2⟩:=qY f v r;o_rec
  by_cases hk:k=f
  .rw[if_pos hk];subst hk;exact⟨by simp,λg h=>by simpa using h⟩
  .rw[if_neg hk];refine⟨?_,λg h=>?_⟩
   .rw[S6];exact R3 _ i1
   .rw[S6]at h ⊢;rcases Sf.mp h with e|e
    .exact Sf.mpr (.inl e)
    .exact R3 _ (i2 g e)
theorem tN(f:Str)(v:V):∀fs:List (Str×V),(bF f v fs).length<=fs.length+1
 | []=>by simp[bF]
 | (k,x) :: r=>by
  have ih:=tN f v r;o_rec
  by_cases hk:k=f
  .rw[if_pos hk,SU,SU];lia
  .rw[if_neg hk,SU,SU];lia
theorem gf.some_of{v:V}(r:gf (some v) o):∃u,o=some u/\RelV v u:=by
 cases o with
 | none=>exact(show False from r).elim
 | some u=>exact⟨u,rfl,r⟩
theorem gf.none_of(r:gf none o):o=none:=by
 cases o with
 | none=>rfl
 | some u=>exact(show False from r).elim
theorem HK{v:V}(r:RelV v u):PySem.W.handedIn u=true:=by
 cases v with
 | non=>cases(show u=Tq from r);rfl
 | bl b=>cases(show u=YQ b from r);rfl
 | int i=>obtain⟨t,e⟩:=(show ∃t,u=U5 i t from r);cases e;rfl
 | str x=>obtain⟨t,e⟩:=(show ∃t,u=Zy x t from r);cases e;rfl
 | byt b=>obtain⟨t,e⟩:=(show ∃t,u=Value.bytes b t from r);cases e;rfl
 | flt b=>obtain⟨t,e⟩:=(show ∃t,u=Value.float b t from r);cases e;rfl
 | ref a=>cases(show u=SR a from r);rfl
 | ty n=>cases(show u=Zg n from r);rfl
section
variable {H':Hp}{h':Heap}{a:Addr}{fs':List (Str×V)}
theorem wI(hok:HOk P w H h)(e:H a=some (.ins C dx fs)):∃mA,ud h a dx C mA/\(∀f,gf (fs.lookup f) (mA f))/\Zm mA (fs.map (·.1))/\fs.length<=1000/\H dx=some (.own a):=by
 obtain⟨d,z,ne,ob,mA,n,r,q⟩:=(show cu P w H h a (.ins C dx fs) from hok a _ e);exact⟨mA,⟨ob,n,ne⟩,r,q,z,d⟩
end
structure Cls(K:RM)(C:Addr):Prop where
 pg:V1 K C Str.empty=true
 hd:Wt K C=true
 po:XE K C=true
 sa:T5 K (.ref C) "__setattr__" = some (some (.builtin "object.__setattr__"))
theorem Cls.get(c:Cls K C)(f:Str):V1 K C f=true:=c.pg
def bG(K:RM)(C:Addr)(f:Str):Prop:=T5 K (.ref C) f=some none
theorem bG.Pe(n:bG K C f):Yr K C f=some none:=by
 unfold Yr;rw[show T5 K (.ref C) f=some none from n];rfl
structure Meth(K:RM)(C:Addr)(m:Str)(f:Addr):Prop where
 at_:T5 K (.ref C) m=some (some (.ref f))
 fn:Xk K (.ref f)=true
 kp:S8 K (.ref f)=true
section
variable {a:Addr}{v:V} 
theorem EX(I:Inv X dh σ H s)(e:H a=some (.ins C dx fs))(c:Cls X.K C)(n:bG X.K C f)(l:fs.lookup f=some v)
  (h:∀u s',Inv X dh σ H s'->RelV v u->Q u s'):wpAny (model X.prog X.w) A (getAttr (.ref a) f b) Q E s:=by
 obtain⟨mA,O,r,_,_,_⟩:=wI I.hok e;obtain⟨u,hu,ru⟩:=gf.some_of (v:=v) (o:=mA f) (by rw[<- l];exact r f)
 exact get_map I.kIn O (c.get f) c.hd n hu (HK ru) (h u _ (I.tok _) ru)
theorem Fz{g:Addr}{Q:Value×List Value->RV->Prop}(I:Inv X dh σ H s)(e:H a=some (.ins C dx fs))(c:Cls X.K C)(k:Meth X.K C m g)(l:fs.lookup m=none)
  (h:Q (.ref g,[.ref a]) s):wpAny (model X.prog X.w) A (getMethod (.ref a) m pl) Q E s:=by
 obtain⟨mA,O,r,_,_,_⟩:=wI I.hok e;have hn:mA m=none:=gf.none_of (by rw[<- l];exact r m)
 exact J9 I.kIn O (c.get m) k.at_ k.fn hn h
theorem Fv{y:V}{Q:Unit->RV->Prop}(I:Inv X dh σ H s)(e:H a=some (.ins C dx fs))(c:Cls X.K C)(n:bG X.K C f)(hl:fs.length<1000)(ry:RelV y u)
  (h:∀s',Inv X dh σ (upd H a (.ins C dx (bF f y fs))) s'->Q () s'):wpAny (model X.prog X.w) A (setAttr (.ref a) f u) Q E s:=by
 obtain⟨mA,O,r,wi,_,ho⟩:=wI I.hok e;have hz:(fs.map (·.1)).length<=SG:=by rw[RP,SH];lia
 refine Ly I.kIn O c.sa c.po n.Pe c.hd wi hz λh' O' sb=>h _ ?_;have hd:∃o,h'.get? dx=some o:=let ⟨o,_,_,e',_⟩:=O'.ns;⟨o,e'⟩;refine I.write (x:=a) (e:=dx) (by rw[e];exact VQ) (.inr ho) (λb q hb z=>(sb.2 b hb).trans z) hd ?_
 refine⟨by rw[ak O.ne];exact ho,?_,O.ne,O'.obj,_,O'.ns,λg=>?_,λg hg=>?_⟩
 .have:=tN f y fs;lia
 .show gf ((bF f y fs).lookup g) (if g=f then some u else mA g);rw[tI]
  by_cases q:g=f
  .rw[if_pos q,if_pos q];exact ry
  .rw[if_neg q,if_neg q];exact r g
 .by_cases q:g=f
  .rw[q];exact(qY f y fs).1
  .refine(qY f y fs).2 g (wi g λz=>hg ?_);show (if g=f then some u else mA g)=none;rw[if_neg q];exact z
theorem Inv.made(I:Inv X dh σ H s):Inv X dh σ (upd (upd H s.heap.objs.size (.own (s.heap.objs.size+1))) (s.heap.objs.size+1) (.ins C s.heap.objs.size []))
  { s with heap:=(s.heap.push Uo).push (UX C s.heap.objs.size) }:=by
 have e1:(s.heap.push Uo).get? s.heap.objs.size=some Uo:=Si s.heap rfl;have e2:((s.heap.push Uo).push (UX C s.heap.objs.size)).get? (s.heap.objs.size+1)=some (UX C s.heap.objs.size):=by
  have:=Si (s.heap.push Uo) (o:=UX C s.heap.objs.size) rfl
  rwa[TY]at this
 have e3:(s.heap.push Uo).Ns s.heap.objs.size (λ_=>none):=⟨Uo,#[],_,e1,rfl,(λe he=>absurd he (by simp)),λ_=>rfl⟩
 have I1:=I.laid (a:=s.heap.objs.size) (o:=.own (s.heap.objs.size+1)) (h':=s.heap.push Uo) (t':=s.toks) (λb u q=>RW _ q) (R6 _) ⟨_,e1⟩;refine I1.laid (a:=s.heap.objs.size+1) (o:=.ins C s.heap.objs.size []) (t':=s.toks) (λb u q=>RW _ q) (VG (TY _ _)) ?_;have ne:s.heap.objs.size≠s.heap.objs.size+1:=Sa (Ui _);refine⟨by rw[ak ne,aj],SO _,ne,e2,λ_=>none,(Heap.Ns1.of_empty e3).at λo q=>RW _ q,λ_=>VQ,λy hy=>absurd rfl hy⟩
theorem Ma{env:Env}(hb:attributeBase e f env (eval e env)=eval e env)
  (h:wpAny (model prog w) A (eval e env) (λo s₁=>wpAny (model prog w) A (getAttr o f true) Q E s₁) E s):wpAny (model prog w) A (eval (.Attribute e f pos) env) Q E s :=
 Attribute_any_ h (by rw[arm_eval_Attribute,hb])
end
def FI(K:RM)(ta:TE)(f:Str):TE:=λσ H Q=>ta σ H λx H1=>∃a C dx fs v,x=.ref a/\H1 a=some (.ins C dx fs)/\Cls K C/\bG K C f/\fs.lookup f=some v/\Q v H1
def IW(K:RM)(ta tv:TE)(f:Str):TS:=λD σ H=>tv σ H λy H1=>ta σ H1 λx H2=>∃a C dx fs,x=.ref a/\H2 a=some (.ins C dx fs)/\Cls K C/\bG K C f/\fs.length<1000 /\
 D.nx σ (upd H2 a (.ins C dx (bF f y fs)))
section
variable {o value:Expr}{pos' tpos:Pos}{tv:TE}
theorem Oh(he:PE X e ta)(hb:attributeBase e f X.env (eval e X.env)=eval e X.env):PE X (.Attribute e f pos) (FI X.K ta f):=by
 f_are;refine Ma hb (thn (he dh s σ H _ I h) λu s1 ⟨x,H1,I1,rx,a,C,dx,fs,v,ex,ea,c,n,l,q⟩=>?_);walk_at "135";exact EX I1 ea c n l λu' s2 I2 ru=>⟨v,H1,I2,ru,q⟩
theorem OO(ha:PE X o ta)(hv:PE X value tv)(hs:swapsWith value (some (.Attribute o f pos')) pos.line X.env=pure false):PS X (.Assign [.Attribute o f pos'] value pos) (IW X.K ta tv f):=by
 l_idx;refine plainObj_wpAny_Assign_Attribute (thn (hv dh s σ H _ I h) λu s1 ⟨y,H1,I1,ry,q⟩=>thn (ha dh s1 σ H1 _ I1 q) λov s2 ⟨x,H2,I2,rx,a,C,dx,fs,ex,ea,c,n,l,q2⟩=>?_) hs;subst ex;obtain rfl:ov=SR a:=rx;exact Fv I2 ea c n l ry λs3 I3=>⟨σ,_,I3,q2⟩
end
section
variable {c:Value} 
end
structure bP(k:Nat)(A:S7):Prop where
 hd:A.handled=none
 dp:A.depth+3 * k+5<recursionLimit
 un:A.units+16 * k+200<cLine
theorem bP.mono{j:Nat}(r:bP k A)(h:j<=k):bP j A:=⟨r.hd,by have:=r.dp;lia,by have:=r.un;lia⟩
theorem bP.deeper(r:bP (k+1) A)(env:Env):bP k (A.deeper env) :=
 ⟨r.hd,by have:=r.dp;show A.depth+1+3 * k+5<_;lia,by have:=r.un;show A.units+3+16 * k+200<_;lia⟩
theorem bP.in1(r:bP (k+1) A):bP k A.in1 :=
 ⟨r.hd,by have:=r.dp;show A.depth+3 * k+5<_;lia,by have:=r.un;show A.units+1+16 * k+200<_;lia⟩
theorem FG :(A.under (.builtin "type.__call__" ⟨.ref C :: us,kw⟩)).depth=A.depth+1:=by
 first|rfl|simp[Zn,Code.weight,Code.isCreation,Code.isGuard,Code.isCaller,Code.frames,Zo,guardIds]
theorem Ei :(A.under (.builtin "type.__call__" ⟨.ref C :: us,kw⟩)).units=A.units+1:=by
 first|rfl|simp[Zn,Code.cUnits,Code.frames,Zo]
theorem bP.make(r:bP (k+1) A)(C:Addr)(us:Z8)(kw:List (Str×Value)):bP k (A.under (.builtin "type.__call__" ⟨.ref C :: us,kw⟩)) :=
 ⟨r.hd,by have:=r.dp;rw[FG];lia,by have:=r.un;rw[Ei];lia⟩
theorem bP.depth(r:bP k A):A.depth<recursionLimit:=by have:=r.dp;lia
theorem bP.units(r:bP k A):A.units+64<cLine:=by have:=r.un;lia
def nF:TA:=λ_ H Q=>Q [] H
def iX(ta:TE)(tr:TA):TA:=λσ H Q=>ta σ H λx H1=>tr σ H1 λxs H2=>Q (x :: xs) H2
theorem bT:PA X [] nF:=λ_ _ _ _ H Q I h=>Wv ⟨[],H,I,.nil,h⟩
theorem xi(ha:PE X e te)(hr:PA X es t)(hs:Ta (e :: es) X.env=(false,eval e X.env) :: Ta es X.env:=by rfl):PA X (e :: es) (iX te t):=by
 intro pos dh s σ H Q I h;rw[hs];show wpAny _ _ (spliced ((false,eval e X.env) :: backTo pos (Ta es X.env))) _ _ s;refine Wb (thn (ha dh s σ H _ I h) λu s1 ⟨x,H1,I1,r1,q1⟩=>?_);exact thn (hr pos dh s1 σ H1 _ I1 q1) λus s2 ⟨xs,H2,I2,r2,q2⟩=>⟨x :: xs,H2,I2,.cons r1 r2,q2⟩
def Np(t:TA):TE:=λσ H Q=>t σ H λxs H1=>xs.length<=SG/\∀p,H1 p=none->Q (.ref p) (upd H1 p (.tup xs))
def Bo(t:TA):TE:=λσ H Q=>t σ H λxs H1=>xs.length<=SG/\∀p,H1 p=none->Q (.ref p) (upd H1 p (.lst xs))
theorem i8{x1}(h:PA X es t):PE X (.Tuple es x1 pos) (Np t):=by
 intro dh s σ H Q I hq;refine wpAny_Tuple_spliced (thn (h pos dh s σ H _ I hq) λus s1 ⟨xs,H1,I1,r,z,q⟩=>⟨by rw[<- r.length];exact z,?_⟩)
 have hf:H1 s1.heap.objs.size=none:=I1.hok.fresh (R6 _);refine⟨.ref s1.heap.objs.size,upd H1 s1.heap.objs.size (.tup xs),I1.laid (t':=s1.toks) (λb u e=>RW _ e) (R6 _) ?_,rfl,q _ hf⟩;exact⟨z,us,r,⟨_,Si _ rfl,rfl,_,rfl⟩⟩
theorem bj(h:PA X es t):PE X (.List es pos) (Bo t):=by
 intro dh s σ H Q I hq;refine wpAny_List_spliced (thn (h pos dh s σ H _ I hq) λus s1 ⟨xs,H1,I1,r,z,q⟩=>⟨by rw[<- r.length];exact z,?_⟩)
 have hf:H1 s1.heap.objs.size=none:=I1.hok.fresh (R6 _);refine⟨.ref s1.heap.objs.size,upd H1 s1.heap.objs.size (.lst xs),I1.laid (t':=s1.toks) (λb u e=>RW _ e) (R6 _) ?_,rfl,q _ hf⟩;exact⟨z,us,0,r,Si _ rfl⟩
abbrev Sp:=List V->Hp->VK->XK->Prop
abbrev CXT:=List Env->Hp->RV->XK->Value->RV->Prop
structure ug(P:Sj)(w:World)(K:RM)(mg:Z6)(base:Heap)(A:S7)(outer:List Env)(s:RV)(H:Hp):Prop where
 frames:A.frames=some outer
 mod:Mod K mg base
 bs:∀b o,base.get? b=some o->s.heap.get? b=some o/\H b=none
 bsz:base.objs.size<=s.heap.objs.size
 jf:s.heap.FunFrames base outer
 frf:∀b∈frs outer,H b=none
 hok:HOk P w H s.heap
 bare:Yo s.gens
def CE(outer:List Env)(P:Sj)(w:World)(H:Hp)(s:RV)(Q:VK)(u:Value)(s':RV):Prop :=
 ∃v H',s'.os=s.os/\Yo s'.gens/\Un (frs outer) [] H H' s.heap s'.heap/\HOk P w H' s'.heap/\RelV v u/\Q v H'
def CR(CX:CXT)(outer:List Env)(P:Sj)(w:World)(H:Hp)(s:RV)(Q:VK)(E:XK)(r:Ys)(s':RV):Prop :=
 match r with
 | .ok (.ret u)=>CE outer P w H s Q u s'
 | .ok _=>False
 | .error e=>CX outer H s E e s'
structure aE(P:Sj)(w:World)(K:RM)(mg:Z6)(base:Heap)(CX:CXT)(k:Nat)(f:Addr)(fd:TC)(ps:ZN)(sp:Sp):Prop where
 len:∀vs H Q E,sp vs H Q E->vs.length=ps.length
 run:∀ (A:S7) (outer:List Env) (s:RV) (H:Hp) (args:Args) (us:Z8) (vs:Z7) (Q:VK) (E:XK),bP k A->ug P w K mg base A outer s H->Xv s fd args (ps.zip us)->Vals vs us->sp vs H Q E ->
  codeAny (model P w) A (.call (.ref f) args) (CR CX outer P w H s Q E) s
theorem ug.make(e:ug P w K mg base A outer s H)(C:Addr)(us:Z8)(kw:List (Str×Value)) :
  ug P w K mg base (A.under (.builtin "type.__call__" ⟨.ref C :: us,kw⟩)) outer s H:=⟨by first|exact e.frames|(simpa[Zn,Code.envs,Zo,pushEnvs] using e.frames),e.mod,e.bs,e.bsz,e.jf,e.frf,e.hok,e.bare⟩
section
variable {s':RV}
theorem Inv.ON(I:Inv X dh σ H s):ug X.prog X.w X.K X.mg X.base X.A X.stack s H :=
 ⟨I.ok.frames,I.ok.mod,I.bs,SA I.ok.bsz I.sz,I.stack,I.DS,I.hok,I.bare⟩
theorem Inv.after{Q:VK}(I:Inv X dh σ H s)(h:CE X.stack X.prog X.w H s Q u s'):EP X dh σ Q u s':=by
 obtain⟨v,H',os,bare,un,hok,r,q⟩:=h;obtain⟨hh,g,d,t,os'⟩:=s';obtain rfl:os'=s.os:=os;exact⟨v,H',I.call (h':=hh) (g':=g) (d':=d) (t':=t) (ch:=[]) un hok bare (λb z=>absurd z (by simp)),r,q⟩
end
def pU(sp:Sp)(dvs:Z7)(E:XK)(t:TA):TE:=λσ H Q=>t σ H λvs H1=>sp (vs++dvs) H1 Q E
def Ft(C:Addr)(m:Str)(sp:Sp)(dvs:Z7)(E:XK)(ta:TE)(t:TA):TE:=λσ H Q=>ta σ H λx H1=>∃a dx fs,x=.ref a/\H1 a=some (.ins C dx fs)/\fs.lookup m=none /\
 t σ H1 λvs H2=>sp (x :: (vs++dvs)) H2 Q E
def Fg(C:Addr)(sp:Sp)(dvs:Z7)(E:XK)(t:TA):TE:=λσ H Q=>t σ H λvs H1=>∀x dx,H1 x=none->H1 dx=none->dx≠x ->
 sp (.ref x :: (vs++dvs)) (upd (upd H1 dx (.own x)) x (.ins C dx [])) (λv H2=>v=.non/\Q (.ref x) H2) E
def Binds(K:RM)(fd:TC)(ps:ZN)(ds:Z8):Prop :=
 ∀ (s:RV) (us:Z8),K.In s.heap->(us++ds).length=ps.length->Xv s fd ⟨us,[]⟩ (ps.zip (us++ds))
theorem Binds.all(h:∀us:Z8,us.length=ps.length->bindArgs fd ⟨us,[]⟩=pure (ps.zip us)):Binds K fd ps []:=λs us _ hl=>by
 rw[VH]at hl ⊢;exact .of_eq (h us hl)
def Passes(CX:CXT)(X:Cx)(E:XK):Prop:=∀ (dh:Z0) (σ:St) (H:Hp) (s:RV) (e:Value) (s':RV),Inv X dh σ H s->CX X.stack H s E e s'->X.xe e s'
section
variable {CX:CXT}{f:Addr}{sp:Sp}{E:XK}{p:Pos}{o:Expr} 
theorem ve{Q:VK}(F:aE X.prog X.w X.K X.mg X.base CX k f fd ps sp)(hr:bP k X.A)(hb:Binds X.K fd ps ds)(hd:Vals dvs ds)(hx:Passes CX X E)
  (I:Inv X dh σ H s) (r:Vals vs us) (h:sp (vs++dvs) H Q E):wpAny (model X.prog X.w) X.A (call (.ref f) us) (EP X dh σ Q) X.xe s:=by
 have r2:Vals (vs++dvs) (us++ds):=r.append hd;have hl:(us++ds).length=ps.length:=by rw[<- r2.length];exact F.len _ _ _ _ h
 refine wpAny_call (WH (F.run X.A X.stack s H ⟨us,[]⟩ (us++ds) (vs++dvs) Q E hr I.ON (hb s us I.kIn hl) r2 h) λr s' hq=>?_);cases r with
 | error e=>exact hx dh σ H s e s' I hq
 | ok fl =>
  cases fl with
  | ret u=>exact I.after hq
  | next=>exact U3 hq
  | brk=>exact U3 hq
  | cont=>exact U3 hq
theorem DJ(F:aE X.prog X.w X.K X.mg X.base CX k f fd ps sp)(hr:bP k X.A)(hg:Gl X x)(hm:X.mg x=some (.ref f))(hk:S8 X.K (.ref f)=true)(hb:Binds X.K fd ps ds)(hd:Vals dvs ds)(hx:Passes CX X E)
  (ha:PA X (e :: es) t) (t!:(x == ("__debug__" : Str))=false:=by decide) (he:Ta (e :: es) X.env=(false,eval e X.env) :: Ta es X.env:=by rfl) (hpl:(backTo pos (Ta es X.env)).any (·.1)=false:=by rfl) :
  PE X (.Call (.Name x p) (e :: es) [] pos) (pU sp dvs E t):=by
 f_are;refine VB (oa I hg hm ?_ t!);refine Wc (h₀:=X.base) I.ok.mod.kin hk (thn (ha pos dh s σ H _ I h) λus s1 ⟨vs,H1,I1,r,q⟩=>⟨I1.kIn,?_⟩) he hpl;exact ve F hr hb hd hx I1 r q
theorem Mh(he:PE X o ta)(c:Cls X.K C)(hm:Meth X.K C m f)(F:aE X.prog X.w X.K X.mg X.base CX k f fd ps sp)(hr:bP k X.A)(hb:Binds X.K fd ps ds)(hd:Vals dvs ds)(hx:Passes CX X E)(ha:PA X (e :: es) t)
  (X':Ta (e :: es) X.env=(false,eval e X.env) :: Ta es X.env:=by rfl) (hpl:(backTo pos (Ta es X.env)).any (·.1)=false:=by rfl)
  (ht:eval (.Call (.Attribute o m apos) (e :: es) [] pos) X.env=(do
   let ov <- eval o X.env
   standAt apos.atName
   let (f,first) <- holding [ov] (getMethod ov m pl)
   callWith pos f first (backTo pos (Ta (e :: es) X.env)) (backToKw pos (keywordEach [] X.env))):=by rfl) :
  PE X (.Call (.Attribute o m apos) (e :: es) [] pos) (Ft C m sp dvs E ta t):=by
 f_are;refine Yu (pl:=pl) (thn (he dh s σ H _ I h) λu s1 ⟨x,H1,I1,rx,a,dx,fs,ex,ea,l,q⟩=>?_) ht;walk_at "135";refine Fz I1 ea c hm l ?_;refine Wc (first:=[.ref a]) (h₀:=X.base) I.ok.mod.kin hm.kp (thn (ha pos dh s1 σ H1 _ I1 q) λus s2 ⟨vs,H2,I2,r,q2⟩=>⟨I2.kIn,?_⟩) X' hpl;exact ve (us:=.ref a :: us) (vs:=.ref a :: vs) F hr hb hd hx I2 (.cons rfl r) q2
structure Mk(K:RM)(C f:Addr):Prop where
 makes:Yt K C=true
 init:T5 K (.ref C) "__init__" = some (some (.ref f))
 fn:Xk K (.ref f)=true
 kp:S8 K (.ref C)=true
theorem Jh{Q:VK}(M:Mk X.K C f)(F:aE X.prog X.w X.K X.mg X.base CX k f fd ps sp)(hr:bP (k+1) X.A)(hb:Binds X.K fd ps ds)(hd:Vals dvs ds)
  (hx:Passes CX X E) (I:Inv X dh σ H s) (r:Vals vs us)
  (h:∀x dx,H x=none->H dx=none->dx≠x->sp (.ref x :: (vs++dvs)) (upd (upd H dx (.own x)) x (.ins C dx [])) (λv H2=>v=.non/\Q (.ref x) H2) E) :
  wpAny (model X.prog X.w) X.A (call (.ref C) us) (EP X dh σ Q) X.xe s:=by
 have hq:=h (s.heap.objs.size+1) s.heap.objs.size (I.hok.fresh (T2 _)) (I.hok.fresh (R6 _)) (Sa (Ui _));have I2:=Inv.made (C:=C) I;have r2:Vals (V.ref (s.heap.objs.size+1) :: (vs++dvs)) (SR (s.heap.objs.size+1) :: (us++ds)):=.cons rfl (r.append hd);have hl:(SR (s.heap.objs.size+1) :: us++ds).length=ps.length:=by
  have e:=r2.length;rw[F.len _ _ _ _ hq]at e;exact e.symm
 refine wpAny_call (IP (f:=f) I.kIn M.makes M.init (beq_iff_eq.mp M.fn) (WH (F.run _ X.stack _ _ ⟨SR (s.heap.objs.size+1) :: us,[]⟩ (SR (s.heap.objs.size+1) :: (us++ds)) _ _ E (hr.make C us [])
  (I2.ON.make C us []) (hb _ (SR (s.heap.objs.size+1) :: us) I2.kIn hl) r2 hq) λr s' hq'=>?_))
 cases r with
 | error e=>exact hx dh σ _ _ e s' I2 hq'
 | ok fl =>
  cases fl with
  | ret u =>
   obtain⟨v,H',I3,rv,ev,q3⟩:=I2.after hq';subst ev;exact⟨rv,⟨V.ref (s.heap.objs.size+1),H',I3,rfl,q3⟩⟩
  | next=>exact U3 hq'
  | brk=>exact U3 hq'
  | cont=>exact U3 hq'
theorem LL(M:Mk X.K C f)(F:aE X.prog X.w X.K X.mg X.base CX k f fd ps sp)(hr:bP (k+1) X.A)(hg:Gl X x)(hm:X.mg x=some (.ref C))(hb:Binds X.K fd ps ds)(hd:Vals dvs ds)(hx:Passes CX X E)
  (ha:PA X (e :: es) t) (t!:(x == ("__debug__" : Str))=false:=by decide) (he:Ta (e :: es) X.env=(false,eval e X.env) :: Ta es X.env:=by rfl) (hpl:(backTo pos (Ta es X.env)).any (·.1)=false:=by rfl) :
  PE X (.Call (.Name x p) (e :: es) [] pos) (Fg C sp dvs E t):=by
 f_are;refine VB (oa I hg hm ?_ t!);refine Wc (h₀:=X.base) I.ok.mod.kin M.kp (thn (ha pos dh s σ H _ I h) λus s1 ⟨vs,H1,I1,r,q⟩=>⟨I1.kIn,?_⟩) he hpl;exact Jh M F hr hb hd hx I1 r q
end
section
variable {CX:CXT}{f:Addr}{ks:ZN}{sp:Sp}{E:XK}{p kpos:Pos}{o:Expr}{tk:TA} 
structure oQ(K:RM)(fd:TC)(ps ks:ZN)(g:List Value->List Value->List Value)(gV:List V->List V->List V):Prop where
 to:∀ (s:RV) (us ws:Z8),K.In s.heap->(g us ws).length=ps.length->Xv s fd ⟨us,ks.zip ws⟩ (ps.zip (g us ws))
 rel:∀ {vs:Z7} {us:Z8} {zs:Z7} {ws:Z8},Vals vs us->Vals zs ws->Vals (gV vs zs) (g us ws)
end
structure av(N P:ZN)(sc:Scope):Prop where
 kind:sc.kind=.function
 co:sc.isCoroutine=false
 gen:sc.isGenerator=false
 nd:N.Nodup
 pre:N.take P.length=P
 par:∀x∈P,sc.names.lookup x=some .local\/sc.names.lookup x=some .cell
 OH:∀y∈sc.names,y.2≠.free
theorem xV{kindOf:Str->Option VC}{x:Str}:∀ {binds:List (Str×Value)} {m:Z6},(∀v,(x,v)∉binds)->bindL kindOf binds m x=m x
 | [],_,_=>rfl
 | (n,v) :: r,m,h=>by
  unfold bindL;rw[xV λw hw=>h w (R3 _ hw)]
  split
  .have:x≠n:=by rintro rfl;exact h v R4
   simp[this]
  .rfl
theorem xG{kindOf:Str->Option VC}{x:Str}:∀ {binds:List (Str×Value)} {m:Z6},(∀v,(x,v)∉binds)->bindC kindOf binds m x=m x
 | [],_,_=>rfl
 | (n,v) :: r,m,h=>by
  unfold bindC;rw[xG λw hw=>h w (R3 _ hw)]
  split
  .rfl
  .have:x≠n:=by rintro rfl;exact h v R4
   simp[this]
theorem yr{kindOf:Str->Option VC}{x:Str}{v:Value}:∀ {P:ZN} {vs:Z8} {i:Nat} {m:Z6},P.Nodup->P[i]?=some x->vs[i]?=some v->kindOf x=some .local ->
  bindL kindOf (P.zip vs) m x=some v
 | [],_,_,_,_,h,_,_=>by simp at h
 | _ :: _,[],_,_,_,_,h,_=>by simp at h
 | p :: P,w :: vs,0,m,nd,h1,h2,hk=>by
  simp at h1 h2;subst h1;subst h2;show bindL kindOf ((p,w) :: P.zip vs) m p=_;unfold bindL;rw[xV λv hv=>(SS.mp nd).1 (Yw hv).1,if_pos hk];simp
 | p :: P,w :: vs,i+1,m,nd,h1,h2,hk=>by
  show bindL kindOf ((p,w) :: P.zip vs) m x=_;unfold bindL;exact yr (i:=i) (SS.mp nd).2 (by simpa using h1) (by simpa using h2) hk
theorem xH{kindOf:Str->Option VC}{x:Str}{v:Value}:∀ {P:ZN} {vs:Z8} {i:Nat} {m:Z6},P.Nodup->P[i]?=some x->vs[i]?=some v->kindOf x≠some .local ->
  bindC kindOf (P.zip vs) m x=some v
 | [],_,_,_,_,h,_,_=>by simp at h
 | _ :: _,[],_,_,_,_,h,_=>by simp at h
 | p :: P,w :: vs,0,m,nd,h1,h2,hk=>by
  simp at h1 h2;subst h1;subst h2;show bindC kindOf ((p,w) :: P.zip vs) m p=_;unfold bindC;rw[xG λv hv=>(SS.mp nd).1 (Yw hv).1,if_neg hk];simp
 | p :: P,w :: vs,i+1,m,nd,h1,h2,hk=>by
  show bindC kindOf ((p,w) :: P.zip vs) m x=_;unfold bindC;exact xH (i:=i) (SS.mp nd).2 (by simpa using h1) (by simpa using h2) hk
def start(N:ZN)(vs:Z7):St:=vs.map some++RZ (N.length - vs.length) none
def pL(CX:CXT)(P:Sj)(w:World)(K:RM)(mg:Z6)(base:Heap)(N:ZN)(qual:Str)(scope:Scope)(f:Addr)(cd:Value)(A:S7)(outer:List Env)(s:RV)(H:Hp)(E:XK):Cx where
 prog:=P
 w:=w
 K:=K
 mg:=mg
 base:=base
 A:=A.deeper (envOfC qual scope s.heap.objs.size f cd)
 N:=N
 s₀:=s
 H₀:=H
 env:=envOfC qual scope s.heap.objs.size f cd
 outer:=outer
 stack:=envOfC qual scope s.heap.objs.size f cd :: outer
 ex:=[]
 calm:=true
 fn:=λ_=>true
 pn:=[]
 xe:=λe s'=>wpAny (model P w) (A.deeper (envOfC qual scope s.heap.objs.size f cd)) (leaving (envOfC qual scope s.heap.objs.size f cd) e) (λ_ s''=>CX outer H s E e s'') (λe' s''=>CX outer H s E e' s'') s'
theorem Bm{sc:Scope}{n:Nat}(h:sc.names.lookup x=some .cell):∃c,(cellsFrom n sc.names []).lookup x=some c:=by
 have q:=Yh sc.names n [] (.inl h);exact XF.mp q
theorem Ib{CX:CXT}{N:ZN}{f:Addr}{cd:Value}{s1:RV}{E:XK} 
  (S:av N ps scope) (hd:A.handled=none) (e0:ug P w K mg base A outer s H) (hl:vs.length=ps.length) (r:Vals vs us)
  (x:InCallC s s.heap.objs.size (bindL (envOfC qual scope s.heap.objs.size f cd).kindOf (ps.zip us) λ_=>none) (cellsFrom (s.heap.objs.size+1) scope.names []) (bindC (envOfC qual scope s.heap.objs.size f cd).kindOf (ps.zip us) λ_=>none) s1) :
  Inv (pL CX P w K mg base N qual scope f cd A outer s H E) [] (start N vs) H s1:=by
 have hpl:ps.length<=N.length:=by have:=congrArg V4 S.pre;rw[Sd]at this;lia
 obtain⟨h1,tk,rfl,hk⟩:=x.done;have noA:∀b:Addr,b∉(pL CX P w K mg base N qual scope f cd A outer s H E).ex:=λb z=>absurd (show b∈([]:ZL) from z) (by simp)
 refine⟨⟨e0.mod,S.kind,rfl,rfl,R6 _,λy z c h1 h2=>?_,λy hy=>?_,λy c _ h=>?_,λ_=>hd,Around.frames_deeper e0.frames,.inr ⟨rfl,rfl⟩,λb z=>absurd z (noA b),e0.bs,e0.bsz,λb _ _=>noA b,λb z=>absurd z (noA b),e0.jf,e0.frf⟩,
  rfl,e0.bare,Un.kept hk,⟨_,x.toInCall.ns,λi y v h1 h2 h3=>?_⟩,λy c h=>⟨_,x.cell y c h⟩,e0.hok.fresh (R6 _),λy c h=>?_,λp hp=>absurd (show p∈([]:Z0) from hp) (by simp),e0.hok.kept hk,?_⟩
 .exact name_of_addr x.apart (Tt h1) (Tt h2)
 .have hy:scope.names.lookup y=some .cell\/scope.names.lookup y=some .free:=hy;rcases hy with hy|hy
  .exact Bm hy
  .exact absurd rfl (S.OH _ (Tt hy))
 .exact Uw (x.above y c (Tt h))
 .have hi:i<vs.length:=by
   unfold start at h2
   by_cases hi:i<vs.length
   .exact hi
   .rw[SE (by simpa using hi)]at h2
    rw[Vu]at h2
    split at h2 <;> cases h2
  have ha:vs[i]?=some v:=by
   unfold start at h2;rw[Sz (by simpa using hi),RY]at h2
   cases e:vs[i]? with
   | none=>rw[e]at h2;cases h2
   | some a=>rw[e]at h2;cases h2;rfl
  obtain⟨u,hu,rv⟩:=r.get ha;have hp:ps[i]?=some y:=by
   rw[<- S.pre,Th (by lia)];exact h1
  have ndP:ps.Nodup:=by rw[<- S.pre];exact S.nd.sublist (List.take_sublist _ _)
  refine⟨u,rv,?_⟩;rcases S.par y (RQ hp) with k|k
  .exact .inl ⟨k,yr ndP hp hu k⟩
  .obtain⟨c,e⟩:=Bm (n:=s.heap.objs.size+1) k;refine .inr ⟨.inl k,c,e,?_⟩;have q:=x.cell y c e;rw[xH ndP hp hu (by show scope.names.lookup y≠_;rw[k];decide)]at q
   exact q
 .exact e0.hok.fresh (Uw (x.above y c (Tt h)))
 .unfold start;show _=N.length;rw[R8,RP,VI];lia
theorem KQ{CX:CXT}{f:Addr}{dV kV doc pm cdv ct oc:Value}{an od:ZR}
  {osl:Array (ZS)} {N ps:ZN} {sp:Sp} (lk:K.lookup f=some ⟨oc,od,.func (S1 name qual params body scope dV kV doc pm an cdv ct),osl⟩) (hcd:TJ K cdv qual=true) (S:av N ps scope)
  (len:∀vs H Q E,sp vs H Q E->vs.length=ps.length)
  (i!:∀ (A:S7) (outer:List Env) (s:RV) (H:Hp) (vs:Z7) (Q:VK) (E:XK),bP k (A.deeper (envOfC qual scope s.heap.objs.size f cdv))->sp vs H Q E ->
   ∃t,PSs (pL CX P w K mg base N qual scope f cdv A outer s H E) body t/\t { nx:=λ_ H'=>Q .non H',rt:=Q } (start N vs) H) :
  aE P w K mg base CX (k+1) f (S1 name qual params body scope dV kV doc pm an cdv ct) ps sp:=by
 refine⟨len,λA outer s H args us vs Q E hr e0 hb r hsp=>?_⟩;have hl:=len _ _ _ _ hsp;have KX:K.In s.heap:=e0.mod.kin.keeps λb o e=>(e0.bs b o e).1;have lim:s.heap.NoLimit:=e0.mod.nolimit.keeps λb o e=>(e0.bs b o e).1;have hkind:∀y∈ps.zip us,scope.names.lookup y.1=some .local\/(scope.names.lookup y.1=some .cell/\((cellsFrom (s.heap.objs.size+1) scope.names []).lookup y.1).isSome=true):=λ⟨n,v⟩ hy=>by
  rcases S.par n (Yw hy).1 with q|q
  .exact .inl q
  .exact .inr ⟨q,Yh _ _ _ (.inl q)⟩
 refine codeAny_call_function hr.depth (KX _ _ lk) rfl S.co S.gen rfl (PySem.W.codeRec_of KX hcd) (hb _ _ _ _ ?_);refine wpAny_newFunctionEnv_cells S.kind hkind λenv he s1 x=>?_;subst he;refine⟨lim.keeps x.toInCall.keep,codeAny_func ?_⟩;obtain⟨t,ht,hq⟩:=i! A outer s H vs Q E (hr.deeper _) hsp;have I:Inv (pL CX P w K mg base N qual scope f cdv A outer s H E) [] (start N vs) H s1:=Ib S hr.hd e0 hl r x;refine UD (ht [] s1 (start N vs) H _ I hq) (λfl s' hs=>?_) λe s' hs=>hs;have fin:∀ {σ':St} {H':Hp} {v:V} {u:Value},Inv (pL CX P w K mg base N qual scope f cdv A outer s H E) [] σ' H' s'->RelV v u->Q v H'->CE outer P w H s Q u s' :=
  λ{σ' H' v u} J rv q=>⟨v,H',J.os,J.bare,J.base,J.hok,rv,q⟩
 cases fl with
 | ret u =>
  obtain⟨v,σ',H',J,rv,q⟩:=hs;exact fin J rv q
 | next =>
  obtain⟨σ',H',J,q⟩:=hs;exact fin (v:=V.non) (u:=Tq) J rfl q
 | brk =>
  obtain⟨_,_,_,q⟩:=hs;exact U3 q
 | cont =>
  obtain⟨_,_,_,q⟩:=hs;exact U3 q
section
variable {p:Pos}{id T:String} 
def tCB(r:List V->Hp->VK->Prop)(t:TA):TE:=λσ H Q=>t σ H λvs H1=>r vs H1 Q
theorem Jf(hc:cR X (.builtin id) r)(hg:Gl X x)(hm:X.mg x=none)(hv:bootBuiltins x=some (.builtin id))(ha:PA X (e :: es) t)(hn:x ≠ "__name__":=by decide)(t!:(x == ("__debug__" : Str))=false:=by decide)
  (he:Ta (e :: es) X.env=(false,eval e X.env) :: Ta es X.env:=by rfl) (hpl:(backTo pos (Ta es X.env)).any (·.1)=false:=by rfl):PE X (.Call (.Name x p) (e :: es) [] pos) (tCB r t):=by
 f_are;refine VB (gU I hg hm hv ?_ hn t!);exact PyProof.Rows.callWith_builtin1 (thn (ha pos dh s σ H _ I h) λus s1 ⟨vs,H1,I1,r1,q1⟩=>hc dh s1 σ H1 vs us Q I1 r1 q1) he hpl
theorem Gs(hc:cR X (.type T) r)(hg:Gl X x)(hm:X.mg x=none)(hv:bootBuiltins x=some (.type T))(ha:PA X (e :: es) t)(hn:x ≠ "__name__":=by decide)(t!:(x == ("__debug__" : Str))=false:=by decide)
  (he:Ta (e :: es) X.env=(false,eval e X.env) :: Ta es X.env:=by rfl) (hpl:(backTo pos (Ta es X.env)).any (·.1)=false:=by rfl):PE X (.Call (.Name x p) (e :: es) [] pos) (tCB r t):=by
 f_are;refine VB (gU I hg hm hv ?_ hn t!);exact Ts (thn (ha pos dh s σ H _ I h) λus s1 ⟨vs,H1,I1,r1,q1⟩=>hc dh s1 σ H1 vs us Q I1 r1 q1) he hpl
end
end L2
namespace HT
open PySem PyProof.Rows
section
open PySem.SeqAt
open PySem.AutoSeq1 (wpAny_loadPart')
open PySem.MeetsSeq PySem.MeetsSeq2 PySem.MeetsSeq3
end
section
variable {prog:Sj}{w:World}{A:S7}{E:Value->RV->Prop}{s:RV}
def sIx(n d:Nat):Option Int->Nat
 | none=>d
 | some v=>if v<0 then (v+(n:Int)).toNat else min v.toNat n
theorem Jb(n d:Nat):sIx n d none=d:=rfl
theorem Mv(n d k:Nat):sIx n d (some (k:Int))=min k n:=by
 show (if (k:Int)<0 then ((k:Int)+(n:Int)).toNat else min (k:Int).toNat n)=min k n;rw[if_neg (by lia),TZ]
end
end HT
namespace L2
open PySem PySem.Spec PyProof.Rows
variable {p:Addr}{f:Array Value->Array Value}{X:Cx}{e:Expr}{H:Hp}{i:Int}{dh:Z0}{es:Z9}{xs ys:Z7}{ZV its' us:Z8}{j n t':Nat}{pos:Pos}{s:RV}{A:S7}{σ:St}{T:String}{x:V}{r:V->Option Int->Option Int->Hp->VK->Prop}{u v:Value}{E:Value->RV->Prop}
abbrev TO:=St->Hp->(Option Int->Hp->Prop)->Prop
def PO(X:Cx)(e:Option Expr)(t:TO):Prop :=
 ∀ (dh:Z0) (s:RV) (σ:St) (H:Hp) (Q:Option Int->Hp->Prop),Inv X dh σ H s->t σ H Q ->
  wpAny (model X.prog X.w) X.A (evalPart e X.env) (λu s'=>∃o H',Inv X dh σ H' s'/\IsPart u o/\Q o H') X.xe s
def Dn:TO:=λ_ H Q=>Q none H
def Kz(t:TE):TO:=λσ H Q=>t σ H λx H1=>∃i,x=.int i/\Q (some i) H1
section
variable {te:TE}{lo hi:Option Expr}{tl th:TO}{p2:Pos}
theorem MF:PO X none Dn:=by
 f_are;rw[evalPart_none];exact R1 ⟨none,H,I,.none,h⟩
theorem LC(h:PE X e te):PO X (some e) (Kz te):=by
 intro dh s σ H Q I hw;rw[evalPart_some];refine thn (h dh s σ H _ I hw) λu s1 ⟨x,H1,I1,r1,q1⟩=>?_;obtain⟨i,rfl,q⟩:=q1;obtain⟨t,rfl⟩:=r1;exact⟨some i,H1,I1,.int i t,q⟩
def SlR(X:Cx)(r:V->Option Int->Option Int->Hp->VK->Prop):Prop :=
 ∀ (dh:Z0) (s:RV) (σ:St) (H:Hp) (x:V) (v vl vu:Value) (lo hi:Option Int) (sl:Addr) (Q:VK),Inv X dh σ H s->RelV x v->s.heap.IsSliceOf sl vl vu .none->IsPart vl lo->IsPart vu hi->r x lo hi H Q ->
  ∃T id,typeLookup (.type T) "__getitem__" = pure (some (.builtin id))/\s.TypeIs v T/\wpAny (model X.prog X.w) X.A (getItem v (.ref sl)) (EP X dh σ Q) X.xe s
def tSl(r:V->Option Int->Option Int->Hp->VK->Prop)(te:TE)(tl th:TO):TE:=λσ H Q=>te σ H λx H1=>tl σ H1 λl H2=>th σ H2 λu H3=>r x l u H3 Q
theorem Jw(hr:SlR X r)(he:PE X e te)(hl:PO X lo tl)(hu:PO X hi th):PE X (.Subscript e (.Slice lo hi none p2) pos) (tSl r te tl th):=by
 f_are;refine Subscript_ (thn (he dh s σ H _ I h) λv s1 ⟨x,H1,I1,r1,q1⟩=>?_);refine wpAny_Slice (thn (hl dh s1 σ H1 _ I1 q1) λvl s2 ⟨l,H2,I2,pl,q2⟩=>thn (hu dh s2 σ H2 _ I2 q2) λvu s3 ⟨u,H3,I3,pu,q3⟩=>?_);rw[evalPart_none];refine R1 ?_;have I4:Inv X dh σ H3 { s3 with heap:=s3.heap.push { cls:=.type "slice",data:=.fields #[vl,vu,.none] } }:=I3.kept (t':=s3.toks) λb ob q=>RW _ q;obtain⟨T,id,hT,ht,hg⟩:=hr dh { s3 with heap:=s3.heap.push { cls:=.type "slice",data:=.fields #[vl,vu,.none] } } σ H3 x v vl vu l u s3.heap.objs.size Q I4 r1 (Heap.IsSliceOf.new ..) pl pu q3;show wpAny (model X.prog X.w) X.A (subscriptTail e (.Slice lo hi none p2) v (.ref s3.heap.objs.size)) (EP X dh σ Q) X.xe { s3 with heap:=s3.heap.push { cls:=.type "slice",data:=.fields #[vl,vu,.none] } };exact tail_any (ops:=[.ref s3.heap.objs.size,v]) ht hT hg (by with_unfolding_all rfl)
def BN(xs:Z7)(lo hi:Option Int):Z7:=(xs.drop (HT.sIx xs.length 0 lo)).take (HT.sIx xs.length xs.length hi - HT.sIx xs.length 0 lo)
theorem C7(xs:Z7)(lo hi:Option Int):(BN xs lo hi).length<=xs.length:=by
 unfold BN;rw[Sd,X9];lia
end
def ixN(n:Nat)(i:Int):Option Nat:=if 0<=i then (if i<n then some i.toNat else none) else if -(n:Int)<=i then some (i+n).toNat else none
def atI{α:Type}(xs:List α)(i:Int):Option α:=(ixN xs.length i).bind λj=>xs[j]?
theorem Dl(h:ixN n i=some j):seqIndex? i n=some j/\j<n/\-(n:Int)<=i/\i<n:=by
 unfold ixN at h
 by_cases h0:0<=i
 .rw[if_pos h0]at h
  by_cases h1:i<n
  .rw[if_pos h1]at h;have e:i.toNat=j:=SI h;exact⟨by rw[Zz h0 h1,e],by lia,by lia,h1⟩
  .rw[if_neg h1]at h;cases h
 .rw[if_neg h0]at h
  by_cases h1:-(n:Int)<=i
  .rw[if_pos h1]at h;have e:(i+n).toNat=j:=SI h;exact⟨by rw[Zp (by lia) h1,e],by lia,h1,by lia⟩
  .rw[if_neg h1]at h;cases h
theorem DY{α:Type}{xs:List α}{v:α}(h:atI xs i=some v):∃j,seqIndex? i xs.length=some j/\xs[j]?=some v/\j<xs.length/\-(xs.length:Int)<=i/\i<xs.length:=by
 unfold atI at h;cases e:ixN xs.length i with
 | none=>rw[e]at h;cases h
 | some j =>
  rw[e]at h;obtain⟨h1,h2,h3,h4⟩:=Dl e;exact⟨j,h1,h,h2,h3,h4⟩
theorem eU{α:Type}{xs:List α}{v:α}(h:xs[j]?=some v):atI xs (j:Int)=some v:=by
 have hj:j<xs.length:=(RN.mp h).1;have e:ixN xs.length (j:Int)=some j:=by
  unfold ixN;rw[if_pos (by lia),if_pos (by lia)];simp
 unfold atI;rw[e];exact h
def Dv(b:Expr):Prop:=∀o i,subscripted b false o i=operate [o,i] (getItem o i)
def IxR(X:Cx)(r:R2):Prop :=
 ∀ (value slice:Expr) (dh:Z0) (s:RV) (σ:St) (H:Hp) (x y:V) (v u:Value) (Q:VK),Inv X dh σ H s->RelV x v->RelV y u->r x y H Q ->
  subscripted slice false v u=operate [v,u] (getItem v u)->wpAny (model X.prog X.w) X.A (subscriptTail value slice v u) (EP X dh σ Q) X.xe s
def MtR(X:Cx)(id:String)(r:ZU):Prop :=
 ∀ (dh:Z0) (s:RV) (σ:St) (H:Hp) (x:V) (xs:Z7) (v:Value) (us:Z8) (Q:VK),Inv X dh σ H s->RelV x v->Vals xs us->r x xs H Q ->
  wpAny (model X.prog X.w) X.A (call (.builtin id) (v :: us)) (EP X dh σ Q) X.xe s
section
variable {a b:Expr}{ta tb:TE} 
theorem dY{r:R2}(hr:IxR X r)(ha:PE X a ta)(hb:PE X b tb)(hs:Dv b):PE X (.Subscript a b pos) (tOp r ta tb):=by
 f_are;exact Subscript_ (Il ha hb I h λv u s2 x y H2 I2 rx ry q=>hr a b dh s2 σ H2 x y v u Q I2 rx ry q (hs _ _))
def mG(K:RM):R2:=λx y H Q=>∃p xs i v,x=.ref p/\y=.int i/\SqL K H p xs/\atI xs i=some v/\Q v H
def Kg(K:RM):R2:=λx y H Q=>∃p xs i v,x=.ref p/\y=.int i/\SqT K H p xs/\atI xs i=some v/\Q v H
theorem MA:IxR X (mG X.K):=by
 intro value slice dh s σ H x y v u Q I rx ry h hs;obtain⟨p,xs,i,z,rfl,rfl,hq,he,q⟩:=h;cases rx;obtain⟨t,rfl⟩:=ry;obtain⟨ZV,r,pl,hz⟩:=I.list hq;obtain⟨j,h1,h2,h3,h4,h5⟩:=DY he;obtain⟨w,ew,rw'⟩:=r.get h2;have hl:=r.length;have hn:=uN;have fin:EP X dh σ Q w s:=⟨z,H,I,rw',q⟩
 by_cases h0:0<=i
 .have hj:i.toNat=j:=by
   rw[Zz h0 h5]at h1;exact SI h1
  exact item_listR pl.isList h0 (by lia) (by rw[hj];simpa using ew) fin hs
 .have hj:(i+(ZV.toArray.size:Int)).toNat=j:=by
   rw[Zp (by lia) h4]at h1
   rw[Se,<- hl];exact SI h1
  exact Yi (x:=w) pl.isList.typeIs slot_list_getitem.lookup
   (wpAny_getItem_list_neg (Q:=λr s'=>r=w/\EP X dh σ Q r s') pl.isList (by lia) (by rw[Se] <;> lia) (by lia) (by rw[hj];simpa using ew) ⟨rfl,fin⟩) hs
theorem NV:IxR X (Kg X.K):=by
 intro value slice dh s σ H x y v u Q I rx ry h hs;obtain⟨p,xs,i,z,rfl,rfl,hq,he,q⟩:=h;cases rx;obtain⟨t,rfl⟩:=ry;obtain⟨ZV,r,pl,hz⟩:=I.tuple hq;obtain⟨j,h1,h2,h3,h4,h5⟩:=DY he;obtain⟨w,ew,rw'⟩:=r.get h2;have hl:=r.length;have hn:=uN;have fin:EP X dh σ Q w s:=⟨z,H,I,rw',q⟩;exact Yi (x:=w) pl.typeIs slot_tuple_getitem.lookup
  (getItem_tuple (j:=j) (Q:=λr s'=>r=w/\EP X dh σ Q r s') pl (by lia) (by lia) (by rw[Se,<- hl];exact h1) (by simpa using ew) ⟨rfl,fin⟩) hs
theorem FC(ZV:Z8)(n j:Nat)(u:Value):SK (·.setIfInBounds j u) { cls:=.type "list",data:=.seq ZV.toArray n }={ cls:=.type "list",data:=.seq (ZV.set j u).toArray n }:=by
 simp[SK]
theorem Inv.lst(I:Inv X dh σ H s)(h:H p=some (.lst xs)) :
  ∃ (ZV:Z8) (n:Nat),Vals xs ZV/\s.heap.get? p=some { cls:=.type "list",data:=.seq ZV.toArray n }/\xs.length<=SG:=by
 obtain⟨z,ZV,n,r,e⟩:=I.hok p _ h;exact⟨ZV,n,r,e,z⟩
theorem Inv.OU{n':Nat}{f:Obj->Obj}(I:Inv X dh σ H s)(h:H p=some (.lst xs))
  (ho:s.heap.get? p=some { cls:=.type "list",data:=.seq ZV.toArray n }) (hf:f { cls:=.type "list",data:=.seq ZV.toArray n }={ cls:=.type "list",data:=.seq its'.toArray n' }) (r:Vals ys its') (hz:ys.length<=SG) (t:Nat) :
  Inv X dh σ (upd H p (.lst ys)) { s with heap:=s.heap.update p f,toks:=t }:=by
 have e:(s.heap.update p f).get? p=some { cls:=.type "list",data:=.seq its'.toArray n' }:=by
  rw[T3 f ho (by rw[hf] <;> rfl),hf]
 refine I.write (x:=p) (e:=p) (by rw[h];trivial) (.inl rfl) (λb u hb q=>(Tu _ _ (UA hb)).trans q) ⟨_,e⟩ ?_
 exact⟨hz,its',n',r,e⟩
def K2:V->V->V->Hp->(Hp->Prop)->Prop:=λo i v H Q=>∃p xs k j,o=.ref p/\i=.int k/\H p=some (.lst xs)/\ixN xs.length k=some j/\Q (upd H p (.lst (xs.set j v)))
theorem set_list:M6 X K2:=by
 intro dh s σ H o i v ov iv u Q I ro ri rv h;obtain⟨p,xs,k,j,rfl,rfl,hp,hj,q⟩:=h;cases ro;obtain⟨t,rfl⟩:=ri;obtain⟨ZV,n,r,ho,hz⟩:=I.lst hp;obtain⟨h1,h2,h3,h4⟩:=Dl hj;have hl:=r.length;have hn:=uN;have I':Inv X dh σ (upd H p (.lst (xs.set j v))) { s with heap:=s.heap.update p (SK (·.setIfInBounds j u)) } :=
  I.OU hp ho (FC ZV n j u) (r.set rv j) (by rw[VJ];exact hz) s.toks
 by_cases h0:0<=k
 .have hk:k.toNat=j:=by
   rw[Zz h0 h4]at h1;exact SI h1
  exact PySem.W.ki_setAt ho h0 (by lia) (by rw[Se,<- hl];exact h4) (by rw[hk];exact⟨_,I',q⟩)
 .have hk:(k+(ZV.toArray.size:Int)).toNat=j:=by
   rw[Zp (by lia) h3]at h1
   rw[Se,<- hl];exact SI h1
  exact PySem.W.ki_setBack ho (by lia) (by rw[Se,<- hl];exact h3) (by lia) (by rw[hk];exact⟨_,I',q⟩)
theorem Bp(lo hi:Option Int)(n:Nat):(sliceBounds lo hi none n).1=((HT.sIx n 0 lo:Nat):Int)/\(sliceBounds lo hi none n).2.1=((HT.sIx n n hi:Nat):Int)/\(sliceBounds lo hi none n).2.2=1:=by
 refine⟨?_,?_,rfl⟩
 .cases lo with
  | none=>simp[sliceBounds,HT.sIx]
  | some i =>
   simp only[sliceBounds,HT.sIx,Option.getD_none,show (1:Int) > 0 by decide,if_true]
   by_cases h:i<0
   .simp only[h,if_true] <;> lia
   .simp only[h,if_false] <;> lia
 .cases hi with
  | none=>simp[sliceBounds,HT.sIx]
  | some i =>
   simp only[sliceBounds,HT.sIx,Option.getD_none,show (1:Int) > 0 by decide,if_true]
   by_cases h:i<0
   .simp only[h,if_true] <;> lia
   .simp only[h,if_false] <;> lia
theorem yV(ZV:Z8)(lo hi:Option Int):slicePick ZV.toArray lo hi none=((ZV.drop (HT.sIx ZV.length 0 lo)).take (HT.sIx ZV.length ZV.length hi - HT.sIx ZV.length 0 lo)).toArray:=by
 obtain⟨h1,h2,h3⟩:=Bp lo hi ZV.toArray.size;unfold slicePick;rw[h1,h2,h3];simp only[sliceRange_one,pick_run,Se] <;> rfl
def IA(K:RM):V->Option Int->Option Int->Hp->VK->Prop:=λx lo hi H Q=>∃a xs,x=.ref a/\SqL K H a xs/\∀p,H p=none->Q (.ref p) (upd H p (.lst (BN xs lo hi)))
theorem L6:SlR X (IA X.K):=by
 intro dh s σ H x v vl vu lo hi sl Q I rx hs pl pu h;obtain⟨a,xs,rfl,hx,q⟩:=h;cases rx;obtain⟨ZV,r,ht,hz⟩:=I.list hx;have hlen:=r.length;refine⟨"list",_,slot_list_getitem.lookup,ht.isList.typeIs,?_⟩;refine wpAny_getItem_list_slice ht.isList hs pl pu .none (by simp) ?_ (by rw[Se] <;> lia)
 rw[yV,<- hlen];refine⟨.ref s.heap.objs.size,_,I.laid (t':=s.toks) (o:=.lst (BN xs lo hi)) (λb ob q=>RW _ q) (R6 _) ?_,rfl,q _ (I.hok.fresh (R6 _))⟩;exact⟨SA (C7 xs lo hi) hz,_,0,(r.drop (HT.sIx xs.length 0 lo)).take (HT.sIx xs.length xs.length hi - HT.sIx xs.length 0 lo),Si _ rfl⟩
def lD:V->Bool
 | .non=>true
 | .bl _=>true
 | .int _=>true
 | .str _=>true
 | _=>false
def eqV:V->V->Bool
 | .non,.non=>true
 | .bl a,.bl b=>a == b
 | .bl a,.int b=>(if a then 1 else 0) == b
 | .int a,.bl b=>a == (if b then 1 else 0)
 | .int a,.int b=>a == b
 | .str a,.str b=>a == b
 | _,_=>false
theorem z8{y:V}(ry:RelV y u)(rx:RelV x v)(fy:lD y=true)(fx:lD x=true):Zh A s u v (eqV y x):=by
 cases y with
 | non =>
  cases ry;cases x with
  | non=>cases rx;exact SeqAt.EqAt.same _
  | bl b=>cases rx;exact SeqAt.EqAt.none_bool b
  | int b=>obtain⟨t,rfl⟩:=rx;exact SeqAt.EqAt.none_int b t
  | str b=>obtain⟨t,rfl⟩:=rx;exact SeqAt.EqAt.none_str b t
  | _=>exact absurd (show false=true from fx) So
 | bl a =>
  cases ry;cases x with
  | non=>cases rx;exact SeqAt.EqAt.bool_none a
  | bl b=>cases rx;exact SeqAt.EqAt.bool_bool a b
  | int b=>obtain⟨t,rfl⟩:=rx;exact SeqAt.EqAt.bool_int a b t
  | str b=>obtain⟨t,rfl⟩:=rx;exact SeqAt.EqAt.bool_str a b t
  | _=>exact absurd (show false=true from fx) So
 | int a =>
  obtain⟨t',rfl⟩:=ry;cases x with
  | non=>cases rx;exact SeqAt.EqAt.int_none a t'
  | bl b=>cases rx;exact SeqAt.EqAt.int_bool a t' b
  | int b=>obtain⟨t,rfl⟩:=rx;exact SeqAt.EqAt.int_int a t' b t
  | str b=>obtain⟨t,rfl⟩:=rx;exact SeqAt.EqAt.int_str a t' b t
  | _=>exact absurd (show false=true from fx) So
 | str a =>
  obtain⟨t',rfl⟩:=ry;cases x with
  | non=>cases rx;exact SeqAt.EqAt.str_none a t'
  | bl b=>cases rx;exact SeqAt.EqAt.str_bool a t' b
  | int b=>obtain⟨t,rfl⟩:=rx;exact SeqAt.EqAt.str_int a t' b t
  | str b=>obtain⟨t,rfl⟩:=rx;exact SeqAt.EqAt.str_str a t' b t
  | _=>exact absurd (show false=true from fx) So
 | _=>exact absurd (show false=true from fy) So
def eqU(x:V)(u:Value):Bool:=match u with
 | .none=>eqV .non x
 | .bool b=>eqV (.bl b) x
 | .int i _=>eqV (.int i) x
 | .str z _=>eqV (.str z) x
 | _=>false
theorem Gw{y:V}(r:RelV y u)(f:lD y=true):eqU x u=eqV y x:=by
 cases y with
 | non=>cases r;rfl
 | bl b=>cases r;rfl
 | int i=>obtain⟨t,rfl⟩:=r;rfl
 | str z=>obtain⟨t,rfl⟩:=r;rfl
 | _=>exact absurd (show false=true from f) So
theorem wK{x:V}:∀ {xs:Z7} {us:Z8},Vals xs us->xs.all lD=true->us.any (eqU x)=xs.any λy=>eqV y x
 | _,_,.nil,_=>rfl
 | y :: xs,u :: us,.cons r t,f=>by
  rw[X1,Uj]at f;rw[Wd,Wd,Gw r f.1,wK t f.2]
theorem tZ{A:S7}{s:RV}{x:V}{v:Value}(rx:RelV x v)(fx:lD x=true):∀ {xs:Z7} {us:Z8},Vals xs us->xs.all lD=true->∀u∈us,Zh A s u v (eqU x u)
 | _,_,.nil,_=>λu hu=>by cases hu
 | y :: xs,u :: us,.cons r t,f=>λu' hu=>by
  rw[X1,Uj]at f;rcases Sf.mp hu with rfl|hu
  .rw[Gw r f.1];exact z8 r rx f.1 fx
  .exact tZ rx fx t f.2 u' hu
def inV(x:V)(xs:Z7):Bool:=xs.any λy=>eqV y x
def rIn(K:RM)(neg:Bool):R2:=λx y H Q=>∃p xs,y=.ref p/\(SqL K H p xs\/SqT K H p xs)/\lD x=true/\xs.all lD=true/\Q (.bl (if neg then !inV x xs else inV x xs)) H
theorem Bk:OpR X (compareOp .NotIn) (rIn X.K true):=by
 k_not;obtain⟨p,xs,rfl,hq,fx,fs,q⟩:=h;cases ry;rcases hq with hq|hq
 .obtain⟨ZV,r,pl,hz⟩:=I.list hq;refine SeqAt.notIn_listAt (eqU x) pl.isList (λw hw=>tZ rx fx r fs w (by simpa using hw)) ⟨.bl _,H,I,rfl,?_⟩
  rw[show ZV.toArray.any (eqU x)=ZV.any (eqU x) by simp,wK r fs]
  exact q
 .obtain⟨ZV,r,pl,hz⟩:=I.tuple hq;refine SeqAt.notIn_tupleAt (eqU x) pl (λw hw=>tZ rx fx r fs w (by simpa using hw)) ⟨.bl _,H,I,rfl,?_⟩
  rw[show ZV.toArray.any (eqU x)=ZV.any (eqU x) by simp,wK r fs]
  exact q
theorem Bv:cR X (.builtin "len") (λxs H Q=>∃p ys,xs=[.ref p]/\(SqL X.K H p ys\/SqT X.K H p ys)/\Q (.int ys.length) H):=by
 k_all;obtain⟨p,ys,rfl,hq,q⟩:=h;obtain⟨u,rfl,rx⟩:=vals1 r;cases rx;have hn:=uN;rcases hq with hq|hq
 .obtain⟨ZV,r',pl,hz⟩:=I.list hq;have hlen:=r'.length;exact Calls.call_len_list pl.isList (by simp only[Se] <;> lia) ⟨.int ys.length,H,I.tok _,⟨s.toks+1,by rw[Se,hlen]⟩,q⟩
 .obtain⟨ZV,r',pl,hz⟩:=I.tuple hq;have hlen:=r'.length;exact len_tuple pl (by simp only[Se] <;> lia) ⟨.int ys.length,H,I.tok _,⟨s.toks+1,by rw[Se,hlen]⟩,q⟩
theorem Bd:cR X (.type "list") (λxs H Q=>∃p ys,xs=[.ref p]/\(SqL X.K H p ys\/SqT X.K H p ys)/\∀l,H l=none->Q (.ref l) (upd H l (.lst ys))):=by
 k_all;obtain⟨p,ys,rfl,hq,q⟩:=h;obtain⟨u,rfl,rx⟩:=vals1 r;cases rx;have fin:∀ (ZV:Z8),Vals ys ZV->ys.length<=SG->∀ (h':Heap) (c':Nat),(∀b o',s.heap.get? b=some o'->h'.get? b=some o') ->
   h'.get? s.heap.objs.size=some { cls:=.type "list",dict:=none,data:=.seq ZV.toArray c',slots:=#[] }->EP X dh σ Q (.ref s.heap.objs.size) { s with heap:=h' }:=λZV r' hz h' c' kp e =>
  ⟨.ref s.heap.objs.size,_,I.laid (t':=s.toks) kp (R6 _) (show cu X.prog X.w _ h' _ (.lst ys) from ⟨hz,ZV,c',r',e⟩),rfl,q _ (I.hok.fresh (R6 _))⟩
 rcases hq with hq|hq
 .obtain⟨ZV,r',pl,hz⟩:=I.list hq;have hlen:=r'.length;obtain⟨o,ho,hc,n,hd⟩:=pl.isList;exact call_list_seq p (.inl rfl) ho hc hd (λh' c' kp e=>fin ZV r' hz h' c' kp e) (by simp only[Se] <;> lia)
 .obtain⟨ZV,r',pl,hz⟩:=I.tuple hq;have hlen:=r'.length;obtain⟨o,ho,hc,n,hd⟩:=pl;exact call_list_seq p (.inr rfl) ho hc hd (λh' c' kp e=>fin ZV r' hz h' c' kp e) (by simp only[Se] <;> lia)
def tyV(K:RM)(T:String)(x:V)(H:Hp):Prop:=match x with
 | .str _=>T = "str"
 | .int _=>T = "int"
 | .ref p=>(T = "list" /\ ∃xs,SqL K H p xs)\/(T = "tuple" /\ ∃o,K.lookup p=some o/\o.cls=.type "tuple" /\ o.dict=none) \/
   (T = "dict" /\ ((∃kvs,H p=some (.dK kvs))\/∃kvs,H p=some (.dT kvs)))\/(T = "set" /\ ∃S n,H p=some (.set S n))
 | _=>False
theorem HS(I:Inv X dh σ H s)(r:RelV x v)(ty:tyV X.K T x H) :
  s.TypeIs v T/\∀a,v=.ref a->∃ob,s.heap.get? a=some ob/\ob.dict=none:=by
 cases x with
 | str z =>
  obtain⟨t,rfl⟩:=r;cases(show T = "str" from ty);exact⟨typeIs_str s z t,λ_ e=>nomatch e⟩
 | int i =>
  obtain⟨t,rfl⟩:=r;cases(show T = "int" from ty);exact⟨Ww s i t,λ_ e=>nomatch e⟩
 | ref p =>
  cases r;rcases ty with ⟨rfl,xs,hq⟩|⟨rfl,o,hk,hc,hd⟩|⟨rfl,hk⟩|⟨rfl,S,n,hk⟩
  .obtain⟨ZV,_,pl,_⟩:=I.list hq;refine⟨pl.isList.typeIs,λa e=>?_⟩;cases e;obtain⟨o,n,e,c,hd,_⟩:=pl;exact⟨o,e,hd⟩
  .refine⟨⟨o,I.kIn p o hk,hc⟩,λa e=>?_⟩;cases e;exact⟨o,I.kIn _ o hk,hd⟩
  .have z:∃o,s.heap.get? p=some o/\o.ExactDict:=by
    rcases hk with ⟨kvs,hk⟩|⟨kvs,hk⟩
    .obtain⟨_,_,_,_,o,_,_,e,ex,_⟩:=I.hok p _ hk;exact⟨o,e,ex⟩
    .obtain⟨_,_,_,_,o,_,_,e,ex,_⟩:=I.hok p _ hk;exact⟨o,e,ex⟩
   obtain⟨o,e,ex⟩:=z;refine⟨⟨o,e,ex.1⟩,λa e2=>?_⟩;cases e2;exact⟨o,e,ex.2.1⟩
  .obtain⟨o,_,_,_,e,ex,_⟩:=I.hok p _ hk;refine⟨⟨o,e,ex.1⟩,λa e2=>?_⟩;cases e2;exact⟨o,e,ex.2.1⟩
 | _=>exact U3 ty
def J5(K:RM)(T:String)(r:ZU)(to:TE):TE:=λσ H Q=>to σ H λx H1=>tyV K T x H1/\r x [] H1 Q
def tBM(K:RM)(T:String)(r:ZU)(to:TE)(t:TA):TE:=λσ H Q=>to σ H λx H1=>tyV K T x H1/\t σ H1 λxs H2=>r x xs H2 Q
variable {o:Expr}{to:TE}{t:TA}{name:Str}{apos d5:Pos}{id:String}{r:ZU}
theorem M4(pa:YS T)(slot:Slot T name id)(hty:typeOf (.builtin id)=pure (.type "method_descriptor"))(hm:MtR X id r)(ho:PE X o to)
  (Y':attributeBase o name X.env (eval o X.env)=eval o X.env:=by rfl) (Z':(apos.endLine == d5.line)=true:=by rfl):PE X (.Call (.Attribute o name apos) [] [] d5) (J5 X.K T r to):=by
 f_are;refine wpAny_Call_method0_late Y' Z' (thn (ho dh s σ H _ I h) λv s1 ⟨x,H1,I1,r1,ty,q1⟩=>?_);obtain⟨h1,h2⟩:=HS I1 r1 ty;exact⟨T,id,pa,slot,hty,h1,h2,Yj rfl (PySem.evalArgs_none (hm dh s1 σ H1 x [] v [] Q I1 r1 .nil q1))⟩
theorem P2(pa:YS T)(slot:Slot T name id)(hty:typeOf (.builtin id)=pure (.type "method_descriptor"))(hm:MtR X id r)(ho:PE X o to)(ha:PA X (e :: es) t)
  (Y':attributeBase o name X.env (eval o X.env)=eval o X.env:=by rfl)
  (hfew:((backTo d5 (Ta (e :: es) X.env)).all (λx=>!x.1) && (backToKw d5 (keywordEach [] X.env)).all (λx=>x.1.isSome)
   && decide ((e :: es).length+([]:List Yv).length+(if ([]:List Yv).isEmpty then 0 else 1)<30))=true:=by rfl)
  (Z':(apos.endLine == d5.line)=true:=by rfl) (hs:Ta (e :: es) X.env=(false,eval e X.env) :: Ta es X.env:=by rfl) (hplain:(backTo d5 (Ta es X.env)).any (·.1)=false:=by rfl) :
  PE X (.Call (.Attribute o name apos) (e :: es) [] d5) (tBM X.K T r to t):=by
 f_are;refine wpAny_Call_method_late Y' hfew Z' rfl (thn (ho dh s σ H _ I h) λv s1 ⟨x,H1,I1,r1,ty,q1⟩=>?_);obtain⟨h1,h2⟩:=HS I1 r1 ty;refine⟨T,id,pa,slot,hty,h1,h2,?_⟩;have hA:=ha d5 dh s1 σ H1 _ I1 q1;rw[hs]at hA ⊢;refine Yj (by show (false || (backTo d5 (Ta es X.env)).any (·.1))=false;rw[hplain] <;> rfl) (Calls.evalArgs_plain ?_)
 exact thn hA λus s2 ⟨vs,H2,I2,r2,q2⟩=>hm dh s2 σ H2 x vs v us Q I2 r1 r2 q2
/- xs.append(e),list.index on a module's tuple .. are MtR facts of 06m -/
end
def MtM(X:Cx)(id:String)(r:ZU):Prop :=
 ∀ (dh:Z0) (s:RV) (σ:St) (H:Hp) (x:V) (xs:Z7) (v:Value) (us:Z8) (Q:VK),Inv X dh σ H s->RelV x v->Vals xs us->r x xs H Q ->
  wpAny (model X.prog X.w) X.A (call (.builtin id) (v :: us)) (EP X dh σ Q) X.xe s
theorem Vals.one(h:Vals [x] us):∃u,us=[u]/\RelV x u:=by
 cases h with
 | cons r t=>cases t;exact⟨_,rfl,r⟩
theorem Vals.two{y:V}(h:Vals [x,y] us):∃u v,us=[u,v]/\RelV x u/\RelV y v:=by
 cases h with
 | cons r t =>
  cases t with
  | cons q e=>cases e;exact⟨_,_,rfl,r,q⟩
theorem Vals.zero:∀ {us:Z8},Vals [] us->us=[]
 | _,.nil=>rfl
theorem Vals.dropLast(h:Vals xs us):Vals xs.dropLast us.dropLast:=by
 induction h with
 | nil=>exact .nil
 | cons r t ih =>
  cases t with
  | nil=>exact .nil
  | cons q t'=>exact .cons r ih
theorem Vals.rep{xs:Z7}{us:Z8}(h:Vals xs us):∀k:Nat,Vals (RZ k xs).flatten (RZ k us).flatten
 | 0=>.nil
 | k+1=>by
  rw[TK,TK,UG,UG];exact Vals.append h (Vals.rep h k)
theorem FN{α:Type}(l:List α):l.eraseIdx (l.length - 1)=l.dropLast:=by
 induction l with
 | nil=>rfl
 | cons a r ih =>
  cases r with
  | nil=>rfl
  | cons b r =>
   have e:(a :: b :: r).length - 1=((b :: r).length - 1)+1:=by
    have h1:(a :: b :: r).length=r.length+2:=rfl;have h2:(b :: r).length=r.length+1:=rfl;lia
   rw[e,List.eraseIdx_cons_succ,ih]
   all_goals rfl
theorem foldl_rep(ZV:Z8):∀ (k:Nat) (acc:Z8),
  List.foldl (λx1 x2=>x1++x2) acc.toArray (RZ k ZV.toArray)=(acc++(RZ k ZV).flatten).toArray
 | 0,acc=>by simp
 | k+1,acc=>by
  have e:acc.toArray++ZV.toArray=(acc++ZV).toArray:=by simp
  have e2:(acc++ZV)++(RZ k ZV).flatten=acc++(RZ (k+1) ZV).flatten:=by
   rw[TK,UG,Vf]
  rw[<- e2,<- foldl_rep ZV k (acc++ZV),<- e,TK,Yx]
section
variable {l b:Addr}{zs:Z7}
theorem Inv.FL(I:Inv X dh σ H s)(hH:H l=some (.lst xs))
  (e:s.heap.get? l=some { cls:=.type "list",data:=.seq ZV.toArray n }) (hf:f ZV.toArray=its'.toArray) (hv:Vals ys its') (hz:ys.length<=SG) :
  Inv X dh σ (upd H l (.lst ys)) { s with heap:=s.heap.update l (SK f),toks:=t' }:=by
 have q:=PySem.IsL.update e f;rw[hf]at q;refine I.write (x:=l) (e:=l) (by rw[hH];exact trivial) (.inl rfl) (λb' u hb hu=>(Tu s.heap (SK f) (UA hb)).trans hu) ⟨_,q⟩ ?_
 exact⟨hz,its',_,hv,q⟩
theorem Inv.M1(I:Inv X dh σ H s)(hv:Vals ys ZV)(hz:ys.length<=SG) :
  Inv X dh σ (upd H s.heap.objs.size (.lst ys)) { s with heap:=s.heap.push { cls:=.type "list",data:=.seq ZV.toArray },toks:=t' } :=
 I.laid (λ_ _ q=>RW _ q) (R6 _) ⟨hz,ZV,0,hv,Si _ rfl⟩
theorem Inv.fresh(I:Inv X dh σ H s):H s.heap.objs.size=none:=I.hok.fresh (R6 _)
theorem Inv.p8(I:Inv X dh σ H s)(hH:H l=some (.lst xs)):xs.length<=SG/\∃ (ZV:Z8) (n:Nat),Vals xs ZV/\xs.length=ZV.length/\s.heap.get? l=some { cls:=.type "list",data:=.seq ZV.toArray n }:=by
 obtain⟨z,ZV,n,r,e⟩:=I.hok l _ hH;exact⟨z,ZV,n,r,r.length,e⟩
theorem Cq(h:n<=SG):Vg n=false:=by
 unfold Vg;exact decide_eq_false (by lia)
end
def oI:V->List V->Hp->VK->Prop:=λx vs H Q=>∃l xs y,x=.ref l/\vs=[y]/\H l=some (.lst xs)/\xs.length<SG/\Q .non (upd H l (.lst (xs++[y])))
theorem xU:MtM X "list.append" oI:=by
 walk_at "131";obtain⟨l,xs,y,rfl,rfl,hH,hz,q⟩:=h;cases rx;obtain⟨u,rfl,ru⟩:=rv.one;walk_at "136";refine V5 F.slot_list_append ⟨_,e,rfl⟩ F.entry_list_append (F.args_list_append_2 _ _) (PySem.list_append l ZV.toArray n u (by rw[Se];lia)) ⟨e,?_⟩
 refine⟨.non,_,I.FL (its':=ZV++[u]) hH e (by simp) (r.append (.cons ru .nil)) ?_,rfl,q⟩
 rw[R8,U6];lia
def Dw:V->List V->Hp->VK->Prop:=λx vs H Q=>∃l b xs zs,x=.ref l/\vs=[.ref b]/\H l=some (.lst xs)/\H b=some (.lst zs)/\xs.length+zs.length<=SG/\Q .non (upd H l (.lst (xs++zs)))
theorem xK:MtM X "list.extend" Dw:=by
 walk_at "131";obtain⟨l,b,xs,zs,rfl,rfl,hH,hB,hz,q⟩:=h;cases rx;obtain⟨u,rfl,ru⟩:=rv.one;cases ru;walk_at "136";obtain⟨z2,ZY,n2,r2,hl2,e2⟩:=I.p8 hB;have hsz:ZV.toArray.size+ZY.toArray.size<=SG:=by rw[Se,Se];lia
 have hlong:¬ (!ZV.toArray.isEmpty && Vg (ZV.toArray.size+ZY.toArray.size))=true:=by
  rw[Cq hsz,Bool.and_false];exact So
 refine V5 F.slot_list_extend ⟨_,e,rfl⟩ F.entry_list_extend (F.args_list_extend_2 _ _)
  (AutoSeq1.list_extend_list_list_0 l ZV.toArray n b ZY.toArray n2 hlong (by rw[Se];lia) (by lia)) ⟨e,e2,?_⟩
 refine⟨.non,_,I.FL (its':=ZV++ZY) hH e (by simp) (r.append r2) ?_,rfl,q⟩
 rw[R8];lia
def Rt:V->List V->Hp->VK->Prop:=λx vs H Q=>∃l xs y,x=.ref l/\vs=[]/\H l=some (.lst xs)/\xs[xs.length - 1]?=some y/\Q y (upd H l (.lst xs.dropLast))
theorem OV:MtM X "list.pop" Rt:=by
 walk_at "131";obtain⟨l,xs,y,rfl,rfl,hH,hy,q⟩:=h;cases rx;have hus:=rv.zero;subst hus;walk_at "136";obtain⟨u,hu,ru⟩:=r.get hy;have W!:ZV.toArray[ZV.toArray.size - 1]?=some u:=by
  show ZV.toArray[ZV.length - 1]?=some u;rw[<- Tg,<- hl];exact hu
 refine V5 F.slot_list_pop ⟨_,e,rfl⟩ F.entry_list_pop (F.args_list_pop_1 _) (MeetsSeq.list_pop_last l ZV.toArray n u W! (by rw[Se];lia)) ⟨e,?_⟩
 refine⟨y,_,I.FL (its':=ZV.dropLast) hH e ?_ r.dropLast ?_,ru,q⟩
 .show ZV.toArray.eraseIdxIfInBounds (ZV.toArray.size - 1)=ZV.dropLast.toArray;rw[Se,List.eraseIdxIfInBounds_toArray,FN]
 .rw[UP];lia
def JM:R2:=λx y H Q=>∃l b xs zs,x=.ref l/\y=.ref b/\H l=some (.lst xs)/\H b=some (.lst zs)/\xs.length+zs.length<=SG/\∀p,H p=none->Q (.ref p) (upd H p (.lst (xs++zs)))
theorem oJ:OpR X (binaryOp .Add) JM:=by
 k_not;obtain⟨l,b,xs,zs,rfl,rfl,hH,hB,hz,q⟩:=h;cases rx;cases ry;walk_at "136";obtain⟨z2,ZY,n2,r2,hl2,e2⟩:=I.p8 hB;refine PySem.P.add_list e e2 ?_ (by rw[Se,Se];lia)
 have ea:ZV.toArray++ZY.toArray=(ZV++ZY).toArray:=by simp
 rw[ea];exact⟨.ref _,_,I.M1 (t':=s.toks) (r.append r2) (by rw[R8];lia),rfl,q _ I.fresh⟩
def RF:R2:=λx y H Q=>∃l k xs,x=.ref l/\y=.int k/\H l=some (.lst xs)/\-(2 ^ 63)<=k/\k<2 ^ 63/\xs.length * k.toNat<=SG /\
 ∀p,H p=none->Q (.ref p) (upd H p (.lst (RZ k.toNat xs).flatten))
theorem len_rep{α:Type}(xs:List α)(k:Nat):(RZ k xs).flatten.length=k * xs.length:=by
 induction k with
 | zero=>simp
 | succ k ih=>rw[TK,UG,R8,ih,VL,UT]
theorem qR:OpR X (binaryOp .Mult) RF:=by
 k_not;obtain⟨l,k,xs,rfl,rfl,hH,h1,h2,hz,q⟩:=h;cases rx;obtain⟨t,rfl⟩:=ry;walk_at "136";have hlen:ZV.toArray.size * k.toNat<=SG:=by rw[Se,<- hl];exact hz
 have hcap:¬ ZV.toArray.size * k.toNat > (2 ^ 63 - 1) / 8:=by
  have:(SG:Nat)<=(2 ^ 63 - 1) / 8:=by decide
  lia
 have hfit:¬ (!Builtin.List.listFitsIndex k)=true:=by
  rw[fitsIndex_both h1 h2];exact So
 have hlong:¬ Vg (ZV.toArray.size * k.toNat)=true:=by
  rw[Cq hlen];exact So
 have hnew:List.foldl (λx1 x2=>x1++x2) #[] (RZ (if ZV.toArray.isEmpty=true then 0 else k.toNat) ZV.toArray)=(RZ k.toNat ZV).flatten.toArray:=by
  have f0:∀m:Nat,List.foldl (λx1 x2=>x1++x2) #[] (RZ m ZV.toArray)=(RZ m ZV).flatten.toArray:=λm=>by
   have:=foldl_rep ZV m [];rw[List.nil_append]at this;l_out
  rw[f0];cases ZV with
  | nil=>simp
  | cons a r'=>rw[if_neg (by simp)]
 refine wpAny_binaryOp_repeat_ref (T:="list") (U:="int") (by decide) ⟨_,e,rfl⟩ (λs'=>Ww s' k t) noFill_list_mul F.fills_int_mul F.slot_int_rmul repeat_list F.slot_int_index.lookup
  (V5 F.slot_int_rmul (Ww s k t) F.entry_int_rmul (F.args_int_rmul_2 _ _) (int___rmul___int_list k t l ZV.toArray n)
   ⟨e,rfl,⟨_,e,rfl⟩,V5 F.slot_list_mul ⟨_,e,rfl⟩ F.entry_list_mul (F.args_list_mul_2 _ _) (AutoListH.list___mul___list_int_3 l ZV.toArray n k t hfit hcap hlong) ⟨e,?_⟩⟩)
 rw[hnew];exact⟨.ref _,_,I.M1 (t':=s.toks) (r.rep k.toNat) (by rw[len_rep,UU];exact hz),rfl,q _ I.fresh⟩
section
variable {prog:Sj}{w:World} 
end
end L2
namespace Att
open PySem PySem.W PySem.Calls PyProof.Rows
theorem vD{P:Params}{h:Heap}:∀ (ns:List Int) (vs:List Value),WellAll P h vs (ns.map WData.int)->WK vs ns:=by
 intro ns
 induction ns with
 | nil =>
  intro vs w;rw[Zq]at w;cases w;exact .nil
 | cons n ns ih =>
  intro vs w;rw[S6]at w;cases w with
  | cons a b =>
   cases a;exact .cons _ _ (ih _ b)
theorem HU{l:OpenLaw}{n:Nat}(hn:l.most=some n){P:Params}{h:Heap}{args:List WData}{vals:List Value}
  (hpre:l.row.toRowW.claim.pre args=true) (hwl:WellAll P h vals args) :
  ∃a vs ns,vals=[SR a]/\args=[WData.list (ns.map WData.int)]/\h.get? a=some { cls:=.type "list",data:=.seq vs.toArray }/\WK vs ns/\ns.length<=n:=by
 have hsh:WShape.hasAll [] args [.list .int]=true:=(pre_splitW hpre).1;have hc:l.pre.holds [] { args:=args }=true:=(pre_splitW hpre).2;obtain⟨d,r,rfl,h1,h2⟩:=hasAllW_cons hsh;obtain rfl:=hasAllW_nil h2;obtain⟨xs,rfl,h3⟩:=hasW_list h1;obtain⟨ns,rfl⟩:=items_int h3;have hlen:ns.length<=n:=by
  unfold OpenLaw.pre at hc;have h4:(WTm.not (.lt (.lit (.int n)) (.len (.arg 0)))).holds [] { args:=[.list (ns.map .int)] }=true:=by
   have h4:=(holds_andW hc).1;rw[hn]at h4;exact h4
  have h5:=condW_of h4 (w_not (w_lt w_lit (w_len_list (w_arg rfl))));rw[RP]at h5;refine Ya λq=>?_;have q':(n:Int)<((ns.length:Nat):Int):=by lia
  first
   | (rw[decide_eq_true q']at h5;exact absurd h5 (by decide))
   | (simp at h5;lia)
 cases hwl with
 | cons w1 w2 =>
  cases w2;cases w1 with
  | list ho f'=>exact⟨_,_,ns,rfl,rfl,ho,vD ns _ f',hlen⟩
theorem HF(l:OpenLaw)(args:List WData):l.row.toRowW.claim.post args (.bool true) args=true :=
 postW_of (r:=l.row.toRowW) (X:=(true == true))
  (show WShape.has [] (.bool true) .bool=true by first|rfl|decide|simp[WShape.has,WShape.arms,WShape.armsAll])
  (show (WTm.eq .res (.lit (.bool true))).value [] { args:=args,res:=some (.bool true),after:=args }=some (.bool (true == true)) from w_eq_bool (w_res rfl) w_lit) rfl
theorem CZ{l:OpenLaw}{n:Nat}{q:Sj}{loose:List Str}{XP:(Str->Option Value)->Heap->Prop}{YP:World->Heap->Prop}{d:DefRec}
  (hn:l.most=some n) (K!:d.params.defaults=[])
  (call:∀ (w:World) (s₀ s₁:RV) (mg mb:Str->Option Value) (fa:Addr) (o:Obj) (pm cd doc:Value) (a:Addr) (vs:List Value) (ns:List Int),
   Ground q loose [] XP w s₀ mg mb s₁.heap->YP w s₁.heap ->
   s₁.heap.get? fa=some o->o.data=.func (docDef d.name d.params d.body d.scope pm cd doc)->s₁.heap.CodeRec cd d.name->mg d.name=some (.ref fa) ->
   s₁.heap.get? a=some { cls:=.type "list",data:=.seq vs.toArray }->WK vs ns->ns.length<=n->s₁.gens=#[] ->
   codeAny (model l.prog w) callerA (.call (.ref fa) ⟨[.ref a],[]⟩) (λr s'=>r=.ok (.ret (.bool true))/\OldK s₁.heap s'.heap/\s'.os=s₁.os/\Yo s'.gens) s₁) :
  WalkO q loose XP YP l.row.toRowW d [] (λf vs=>PySem.call f vs):=by
 intro w s₀ s₁ mg mb G Y fa o pm cd doc dV kV ho hd hcd hD hmg hg args vals as hpre hlay hrd hwl hlo;obtain rfl:dV=.none:=Dflts.none hD K!;obtain rfl:kV=.none:=Dflts.noKw hD;obtain⟨a,vs,ns,rfl,rfl,hobj,hints,hlen⟩:=HU hn hpre hwl;refine enter_call (WH (call w s₀ s₁ mg mb fa o pm cd doc a vs ns G Y ho (fd_plain hd) hcd hmg hobj hints hlen hg) λr s' hq=>?_);obtain⟨rfl,h2,h3,h4⟩:=hq;exact⟨.inl ⟨.bool true,.bool true,[],rfl,λ_=>rfl,.bool true,HF l _,λ_=>⟨XG,λ_ hm=>(nomatch hm)⟩⟩,h2,h3,h4⟩
section
variable {prog:Sj}{w:World}{A:S7}{E:Value->RV->Prop}{s:RV}{K:Frag}
end
end Att
namespace L2
open PySem PySem.Spec PyProof.Rows
variable {XP:(Z6)->Heap->Prop}{a d p:Addr}{osl:Array (ZS)}{QB:Bool->Hp->Prop}{X:Cx}{env:Env}{base:Heap}{H H':Hp}{C:Int->Int->Prop}{dh:Z0}{fp:ZL}{es ifs:Z9}{ns:ZM}{fr:AT}{N loose own ps:ZN}{dvs xs:Z7}{QA:List V->Hp->Prop}{vs:Z8}{i k n:Nat}{QO:Option Int->Hp->Prop}{pos:Pos}{B:Prop}{K:RM}{s:RV}{A:S7}{scope:Scope}{P:Sj}{sp:Sp}{σ:St}{QS:Z5}{st:Stmt}{qual x:Str}{m mb mg:Z6}{g:TG}{wi:TI}{tt:TT}{v:V}{r:V->Option Int->Option Int->Hp->VK->Prop}{w:World}{CX:World->CXT}{YP:World->Heap->Prop}{R:Ys->RV->Prop}
theorem yc:∀ {vs:Z8} {ns:ZM},WK vs ns->Vals (ns.map V.int) vs
 | _,_,.nil=>.nil
 | _,_,.cons n t h=>.cons ⟨t,rfl⟩ (yc h)
def Km(H:Hp):Prop:=∀b,H b=none\/∃o xs,H b=some (.frz o (.lst xs))
theorem Jn{CX:CXT}{fa:Addr}{fd:TC}{s₁:RV} 
  (KX:K.In s₁.heap) (hns:s₁.heap.Ns S4 mg) (hb:s₁.heap.Ns builtinsNs mb) (hbb:∀x:Str,x ≠ "__name__" -> mb x=bootBuiltins x) (hlim:s₁.heap.NoLimit) (hg:s₁.gens=#[])
  (ha:s₁.heap.get? a=some { cls:=.type "list",data:=.seq vs.toArray }) (hi:WK vs ns) (hl:ns.length<=SG) (hr:bP k callerA)
  (F:∀base:Heap,K.In base->base.Ns S4 mg->aE P w K mg base CX k fa fd [x] sp) (hbind:∀ (s:RV) (u:Value),Xv s fd ⟨[u],[]⟩ [(x,u)])
  (hsp:∀H:Hp,Km H->SqL K H a (ns.map V.int)->sp [.ref a] H (λv _=>v=.bl true) λ_ _ _=>False)
  (hCX:∀H e s',CX [] H s₁ (λ_ _ _=>False) e s'->False) :
  codeAny (model P w) callerA (.call (.ref fa) ⟨[.ref a],[]⟩) (λr s'=>r=.ok (.ret (.bool true))/\OldK s₁.heap s'.heap/\s'.os=s₁.os/\Yo s'.gens) s₁:=by
 have rv:=yc hi;have lenV:=hi.length;have core:∀H:Hp,Km H->SqL K H a (ns.map V.int)->HOk P w H s₁.heap->(∀b,H b≠none->b=a)->(H a≠none->K.lookup a=none) ->
   codeAny (model P w) callerA (.call (.ref fa) ⟨[.ref a],[]⟩) (λr s'=>r=.ok (.ret (.bool true))/\OldK s₁.heap s'.heap/\s'.os=s₁.os/\Yo s'.gens) s₁:=by
  intro H hO hS hok hA hK;have base_of:∀ {b:Addr} {o:Obj},s₁.heap.get? b=some o->H b=none->(oV s₁.heap H).get? b=some o:=λe n=>Jv e n;have noA:∀ {b:Addr} {o:Obj} {es:Array DictEntry} {ep:Nat},s₁.heap.get? b=some o->o.data=.dict es ep->H b=none:=λ{b o es ep} e d=>by
   cases q:H b with
   | none=>rfl
   | some u =>
    have e':b=a:=hA b (by rw[q];simp)
    subst e';rw[ha]at e;cases e;have d':Data.seq vs.toArray _=Data.dict es ep:=d;cases d'
  have nsK:∀ {b:Addr} {m:Z6},s₁.heap.Ns b m->(oV s₁.heap H).Ns b m:=λ{b m} ⟨o,es,ep,e,d,r⟩=>⟨o,es,ep,base_of e (noA e d),d,r⟩;have hKb:K.In (oV s₁.heap H):=λb o e=>base_of (KX b o e) (by
   cases q:H b with
   | none=>rfl
   | some u =>
    have e':b=a:=hA b (by rw[q];simp)
    subst e';rw[hK (by rw[q];simp)]at e;cases e)
  have hM:Mod K mg (oV s₁.heap H):=⟨hKb,nsK hns,⟨mb,nsK hb,hbb⟩,let ⟨mc,h1,h2⟩:=hlim;⟨mc,nsK h1,h2⟩⟩;have e0:ug P w K mg (oV s₁.heap H) callerA [] s₁ H:=⟨rfl,hM,λb o e=>Mr e,VG (GP _ _),trivial,λb hb=>absurd (show b∈([]:ZL) from hb) (by simp),hok,.of_eq hg⟩
  refine WH ((F _ hKb (nsK hns)).run callerA [] s₁ H ⟨[.ref a],[]⟩ [.ref a] [.ref a] _ _ hr e0 (hbind s₁ (.ref a)) (.cons rfl .nil) (hsp H hO hS)) λr s' h=>?_;cases r with
  | error e=>exact(hCX H e s' h).elim
  | ok fl =>
   cases fl with
   | next=>exact U3 h
   | brk=>exact U3 h
   | cont=>exact U3 h
   | ret u =>
    obtain⟨v,H',os,bare,un,hok',r',q⟩:=h;have q':v=.bl true:=q;subst q';obtain rfl:u=YQ true:=r';refine⟨rfl,OldK.of_keep λb o e=>?_,os,bare⟩;cases q:H b with
    | none=>exact un.keep b o e q (by intro z;exact absurd (show b∈([]:ZL) from z) (by simp)) (by simp)
    | some u =>
     rcases hO b with z|⟨ob,xs,z⟩
     .rw[q]at z;cases z
     .have z2:=un.nV b ob _ z;obtain⟨e1,_⟩:=hok b _ z;obtain⟨e2,_⟩:=hok' b _ z2;rw[e]at e1;cases e1;exact e2
 cases hk:K.lookup a with
 | some o =>
  have e:=KX a o hk;rw[ha]at e;cases e;refine core (λ_=>none) (λ_=>.inl rfl) (.inr ⟨_,vs.toArray,_,hk,rfl,rfl,rfl,by rw[Se,lenV];exact hl,by simpa using rv⟩) (λb u z=>by have z':(none:Option HO)=some u:=z;cases z') (λb z=>absurd rfl z) λz=>absurd rfl z
 | none =>
  refine core (λb=>if b=a then some (.frz { cls:=.type "list",data:=.seq vs.toArray } (.lst (ns.map V.int))) else none) (λb=>?_) (.inl (.inr ⟨{ cls:=.type "list",data:=.seq vs.toArray },if_pos rfl⟩)) (λb u z=>?_) (λb z=>?_) λ_=>hk
  .by_cases hb:b=a
   .exact .inr ⟨_,_,if_pos hb⟩
   .exact .inl (if_neg hb)
  .by_cases hb:b=a
   .have z':=(if_pos hb).symm.trans z;cases z';subst hb;exact⟨ha,by rw[RP];exact hl,vs,_,rv,ha⟩
   .have z':=(if_neg hb).symm.trans z;cases z'
  .by_cases hb:b=a
   .exact hb
   .exact absurd (if_neg hb) z
theorem LQ{l:Yy}{q:Sj}{d:DefRec}{K:Params->RM}{sp:World->Sp} 
  (hn:l.most=some n) (hn2:n<=SG) (K!:d.params.defaults=[]) (hr:bP k callerA)
  (hY:∀ (w:World) (h:Heap),YP w h->(K w.params).In h)
  (F:∀ (w:World) (mg:Z6) (fa:Addr) (h:Heap),(K w.params).In h->h.Ns S4 mg->mg d.name=some (.ref fa) ->
   ∃fd:TC,(∀ (s:RV) (u:Value),Xv s fd ⟨[u],[]⟩ [(x,u)]) /\
    ∀base:Heap,(K w.params).In base->base.Ns S4 mg->aE l.prog w (K w.params) mg base (CX w) k fa fd [x] (sp w))
  (hsp:∀ (w:World) (H:Hp) (a:Addr) (ns:ZM),ns.length<=n->Km H->SqL (K w.params) H a (ns.map V.int)->sp w [.ref a] H (λv _=>v=.bl true) λ_ _ _=>False)
  (hCX:∀ (w:World) (H:Hp) (s:RV) (e:Value) (s':RV),CX w [] H s (λ_ _ _=>False) e s'->False) :
  PySem.W.WalkO q loose XP YP l.row.toRowW d [] (λf vs=>PySem.call f vs):=by
 refine Att.CZ hn K! λw s₀ s₁ mg mb fa o pm cd doc a vs ns G Y ho hd hcd hmg hobj hints hlen hg=>?_;have KX:=hY w _ Y;obtain⟨fd,hb,hF⟩:=F w mg fa _ KX G.T.g hmg;exact Jn KX G.T.g G.T.b G.T.builtins G.T.nolimit hg hobj hints (SA hlen hn2) hr hF hb (λH hO hS=>hsp w H a ns hlen hO hS) λH e s'=>hCX w H s₁ e s'
def inClass(s:Stmt)(j:Nat):Stmt:=match s with
 | .ClassDef _ _ _ body _ _ _ _ _ _ _=>body.getD j (.Pass ⟨0,0,0,0⟩)
 | _=>.Pass ⟨0,0,0,0⟩
def bD(s:Stmt):Arguments:=match s with
 | .FunctionDef _ a _ _ _ _ _ _ _ _=>a
 | _=>{ posonlyargs:=[],args:=[],vararg:=none,kwonlyargs:=[],kw_defaults:=[],kwarg:=none,defaults:=[] }
def bo(s:Stmt):List Stmt:=match s with
 | .FunctionDef _ _ b _ _ _ _ _ _ _=>b
 | _=>[]
def ah(s:Stmt):Scope:=match s with
 | .FunctionDef _ _ _ _ _ _ sc _ _ _=>sc
 | _=>{ kind:=.function,names:=[],isGenerator:=false,isCoroutine:=false }
abbrev CX0:CXT:=λ_ _ _ _ _ _=>False
abbrev E0:XK:=λ_ _ _=>False
theorem lB :Passes CX0 X E0:=λ_ _ _ _ _ _ _ h=>h.elim
structure Fun(K:RM)(x qual:Str)(st:Stmt)(f:Addr)(fd:TC):Prop where
 ex:∃ (oc:Value) (od:ZR) (kV doc pm:Value) (an:ZR) (cdv ct:Value) (osl:Array (ZS)),
  fd=S1 x qual (bD st) (bo st) (ah st) .none kV doc pm an cdv ct/\K.lookup f=some ⟨oc,od,.func fd,osl⟩/\TJ K cdv qual=true
 kp:S8 K (.ref f)=true
theorem Fun.ok{f:Addr}{fd:TC}(F:Fun K x qual st f fd)(S:av N ps (ah st))(len:∀vs H Q E,sp vs H Q E->vs.length=ps.length)
  (i!:∀ (cdv:Value) (A:S7) (outer:List Env) (s:RV) (H:Hp) (vs:Z7) (Q:VK) (E:XK),bP k (A.deeper (envOfC qual (ah st) s.heap.objs.size f cdv))->sp vs H Q E ->
   ∃t,PSs (pL CX0 P w K mg base N qual (ah st) f cdv A outer s H E).nox (bo st) t/\t { nx:=λ_ H'=>Q .non H',rt:=Q } (start N vs) H):aE P w K mg base CX0 (k+1) f fd ps sp:=by
 obtain⟨oc,od,kV,doc,pm,an,cdv,ct,osl,rfl,lk,hcd⟩:=F.ex;refine KQ lk hcd S len λA outer s H vs Q E hr hsp=>?_;obtain⟨t,h,q⟩:=i! cdv A outer s H vs Q E hr hsp;exact⟨t,h.nox,q⟩
theorem oP{f:Addr}{oc:Value}{od an:ZR}{kV doc pm cdv ct:Value}(l:K.lookup f=some ⟨oc,od,.func (S1 x qual (bD st) (bo st) (ah st) .none kV doc pm an cdv ct),osl⟩)
  (c:TJ K cdv qual=true) (k:S8 K (.ref f)=true):Fun K x qual st f (S1 x qual (bD st) (bo st) (ah st) .none kV doc pm an cdv ct):=⟨⟨oc,od,kV,doc,pm,an,cdv,ct,osl,rfl,l,c⟩,k⟩
theorem cI(hr:bP k A):A.units+1<cLine:=Ti (Nat.add_le_add_left (by decide:1<=64) _) hr.units
theorem GU(h:n<=1000):n<SG:=Ti h (by decide)
theorem pv(i:Nat)(hN:X.N[i]?=some x:=by rfl)(hv:Vis X.env.scope x:=by first|exact VW rfl|exact Or.inr (VW rfl)|exact Or.inr (Or.inr rfl))(hd:(x == ("__debug__" : Str))=false:=by decide)
  (hcd:(x == ("__classdict__" : Str))=false:=by decide):PE X (.Name x pos) (FW i):=NY hN hv hd hcd
theorem gn{A:Prop}(h:B):if false=true then A else B:=by
 rw[if_neg So];exact h
theorem uq{A:Prop}(h:A):if true=true then A else B:=by
 rw[if_pos rfl];exact h
def ag(H H':Hp):Prop:=∀b o,H b=some o->H' b=some o
theorem ag.refl(H:Hp):ag H H:=λ_ _ h=>h
theorem ag.trans{H1 H2:Hp}(a:ag H H1)(b:ag H1 H2):ag H H2:=λc o h=>b c o (a c o h)
theorem ag.free(e:ag H H'){l:Addr}(h:H' l=Option.none):H l=Option.none:=by
 cases q:H l with
 | none=>rfl
 | some o =>
  rw[e l o q]at h;cases h
theorem ag.seq(e:ag H H')(h:SqL K H a xs):SqL K H' a xs:=by
 rcases h with (h|⟨o,h⟩)|h
 .exact .inl (.inl (e _ _ h))
 .exact .inl (.inr ⟨o,e _ _ h⟩)
 .exact .inr h
def eV(env:Env):List (Str×VC)->List (Str×Addr)->List (Str×Addr)
 | [],acc=>acc
 | (n,k) :: r,acc=>eV env r (if k == .free then (n,(env.cells.lookup n).getD 0) :: acc else acc)
theorem BE(env:Env):∀ (l:List (Str×VC)) (acc:List (Str×Addr)),(∀x∈l,x.2=.free->∃c,env.cells.lookup x.1=some c) ->
  (forIn l acc (λx r=>if (x.snd == Ua)=true then (do let c <- cellOf env x.fst;pure (VM ((x.fst,c) :: r))) else pure (VM r)):Sem (List (Str×Addr)))=pure (eV env l acc)
 | [],acc,_=>rfl
 | (n,k) :: r,acc,h=>by
  rw[Yz];have ih:=BE env r;unfold eV
  by_cases hk:(k == Ua)=true
  .obtain⟨c,hc⟩:=h (n,k) R4 (by simpa using hk)
   have e:cellOf env n=pure c:=by unfold cellOf;rw[hc]
   have q!:env.cells.lookup n=some c:=hc;o_src;rw[if_pos hk,if_pos hk,e,q!];exact ih _ λx hx=>h x (R3 _ hx)
  .o_src;rw[if_neg hk,if_neg hk];exact ih _ λx hx=>h x (R3 _ hx)
theorem D8(h:∀x∈scope.names,x.2=.free->∃c,env.cells.lookup x.1=some c):closureFor scope env=pure (eV env scope.names []):=by
 simp only[closureFor];rw[BE env scope.names [] h];rfl
theorem Ao{env:Env}:∀ (l:List (Str×VC)) (acc:List (Str×Addr)),(∀x∈l,x.2=.free->∃c,env.cells.lookup x.1=some c)->(∀x c,acc.lookup x=some c->env.cells.lookup x=some c) ->
  ∀x c,(eV env l acc).lookup x=some c->env.cells.lookup x=some c
 | [],acc,_,ha=>ha
 | (n,k) :: r,acc,h,ha=>by
  unfold eV;refine Ao r _ (λx hx=>h x (R3 _ hx)) λx c e=>?_
  by_cases hk:(k == Ua)=true
  .rw[if_pos hk]at e;obtain⟨c',hc⟩:=h (n,k) R4 (by simpa using hk)
   have q!:env.cells.lookup n=some c':=hc;rw[TX]at e
   split at e
   .rename_i q
    have q':x=n:=by simpa using q
    subst q';rw[q!]at e ⊢
    simpa using e
   .exact ha x c e
  .rw[if_neg hk]at e;exact ha x c e
theorem yH{env:Env}:∀ (l:List (Str×VC)) (acc:List (Str×Addr)) (x:Str),(∃c,acc.lookup x=some c)->∃c,(eV env l acc).lookup x=some c
 | [],_,_,h=>h
 | (n,k) :: r,acc,x,h=>by
  unfold eV;refine yH r _ x ?_
  by_cases hk:(k == Ua)=true
  .rw[if_pos hk,TX]
   split
   .exact⟨_,rfl⟩
   .exact h
  .rw[if_neg hk];exact h
theorem tU{env:Env}:∀ (l:List (Str×VC)) (acc:List (Str×Addr)) (x:Str),(x,Ua)∈l->∃c,(eV env l acc).lookup x=some c
 | (n,k) :: r,acc,x,h=>by
  unfold eV;rcases Sf.mp h with e|h
  .cases e;refine yH r _ _ ?_;rw[if_pos (by rfl),TX]
   simp
  .exact tU r _ x h
theorem rS{env:Env}:∀ {names:List (Str×VC)} {x:Str},names.lookup x=some .free ->
  (names.map λ(n,k)=>if (k == Ua && env.scope.kind == .function && env.kindOf n == some .cell) then (n,Ub) else (n,k)).lookup x=some .cell \/
  (names.map λ(n,k)=>if (k == Ua && env.scope.kind == .function && env.kindOf n == some .cell) then (n,Ub) else (n,k)).lookup x=some .free
 | [],_,h=>by simp at h
 | (n,k) :: r,x,h=>by
  rw[S6]
  by_cases hx:(x == n)=true
  .rw[TX,hx]at h;dsimp only at h ⊢;cases h
   split
   .rw[TX,hx];exact .inl rfl
   .rw[TX,hx];exact .inr rfl
  .have z!:(x == n)=false:=by simpa using hx
   rw[TX,z!]at h;have ih:=rS (env:=env) (names:=r) (x:=x) h;dsimp only at h ⊢
   split
   .rw[TX,z!];exact ih
   .rw[TX,z!];exact ih
theorem qA{env:Env}:∀ {names:List (Str×VC)} {x:Str},
  ((names.map λ(n,k)=>if (k == Ua && env.scope.kind == .function && env.kindOf n == some .cell) then (n,Ub) else (n,k)).lookup x=some .cell \/
  (names.map λ(n,k)=>if (k == Ua && env.scope.kind == .function && env.kindOf n == some .cell) then (n,Ub) else (n,k)).lookup x=some .free) ->
  (x,Ua)∈names\/(x,Ub)∈names
 | [],_,h=>by simp at h
 | (n,k) :: r,x,h=>by
  rw[S6]at h
  by_cases hx:(x == n)=true
  .have q':x=n:=by simpa using hx
   dsimp only at h
   split at h
   .rename_i hc
    have:k=Ua:=by
     cases k <;> simp_all
    subst this q';exact .inl R4
   .rw[TX,hx]at h;dsimp only at h;subst q';rcases h with h|h
    .cases h;exact .inr R4
    .cases h;exact .inl R4
  .have z!:(x == n)=false:=by simpa using hx
   have ih:=qA (env:=env) (names:=r) (x:=x);dsimp only at h
   split at h
   .rw[TX,z!]at h;exact(ih h).elim (λz=>.inl (R3 _ z)) λz=>.inr (R3 _ z)
   .rw[TX,z!]at h;exact(ih h).elim (λz=>.inl (R3 _ z)) λz=>.inr (R3 _ z)
def pR(own:ZN)(fr:AT)(N:ZN):ZN:=own++fr.map λi=>(N[i]?).getD ("" : Str)
def cD(own:ZN)(fr:AT)(σ:St):St:=own.map (λ_=>none)++fr.map λi=>(σ[i]?).join
section
variable {H₂:Hp}{s₂:RV}{C D:Addr}{h₁:Heap}{tk:Nat}
theorem FT(h:(cD own fr σ)[i]?=some (some v)):∃j,own.length<=i/\fr[i - own.length]?=some j/\σ[j]?=some (some v):=by
 unfold cD at h
 by_cases hi:i<own.length
 .rw[Sz (by simpa using hi),RY]at h
  cases e:own[i]? with
  | none=>rw[e]at h;cases h
  | some a=>rw[e]at h;cases h
 .rw[SE (by simpa using hi),RY,RP]at h
  cases e:fr[i - own.length]? with
  | none=>rw[e]at h;cases h
  | some j =>
   rw[e]at h;refine⟨j,by lia,rfl,?_⟩
   have h':(σ[j]?).join=some v:=by simpa using h
   cases q:σ[j]? with
   | none=>rw[q]at h';cases h'
   | some o=>rw[q]at h';exact congrArg some h'
end
def PIf(X:Cx)(ifs:Z9)(t:TT):Prop :=
 ∀ (dh:Z0) (s:RV) (σ:St) (H:Hp) (Q:Bool->Hp->Prop),Inv X dh σ H s->t σ H Q ->
  wpAny (model X.prog X.w) X.A (forIn ifs true λc r=>if r=true then (do let ok <- isTrue c X.env (eval c X.env);pure (VM ok)) else pure (VM r)) (TP X dh σ Q) X.xe s
def Jm:TT:=λ_ H Q=>Q true H
theorem aZ :PIf X [] Jm:=λ_ _ _ H _ I h=>wpAny_tests_nil ⟨H,I,h⟩
theorem DP{c:Expr}{t:TT}(h:PT X c t):PIf X [c] t:=λdh s σ H Q I hw=>wpAny_tests_one (h dh s σ H Q I hw)
section
variable {prog:Sj} 
theorem GQ{elt target iter:Expr}{it acc:Value}(J:Nat->RV->Prop)
  (turn:∀n s,J n s->wpAny (model prog w) A (pyNext it) (λr s₁=>match r with
   | none=>R (.ok .next) s₁
   | some v=>wpAny (model prog w) A (letOwnedTupleGo target it v) (λ_ s₂=>wpAny (model prog w) A (assign target env v) (λ_ s₃ =>
     wpAny (model prog w) A (forIn ifs true λc r=>if r=true then (do let ok <- isTrue c env (eval c env);pure (VM ok)) else pure (VM r)) (λok s₄ =>
      if ok=true then wpAny (model prog w) A (eval elt env) (λx s₅=>wpAny (model prog w) A (call (.builtin "list.append") [acc,x]) (λ_ s₆=>∃m,m<n/\J m s₆) (λ_ _=>False) s₅) (λ_ _=>False) s₄
      else ∃m,m<n/\J m s₄) (λ_ _=>False) s₃) (λ_ _=>False) s₂) (λ_ _=>False) s₁) (λ_ _=>False) s)
  (n:Nat) (h:J n s):codeAny (model prog w) A (.compLoop (.ListComp elt [⟨target,iter,ifs,0⟩] scope pos) 0 it acc env) R s:=by
 refine codeAny_loop rfl J (λn s hJ=>?_) n h;show wpAny _ A ((compTurn (.ListComp elt [⟨target,iter,ifs,0⟩] scope pos) 0 it acc env).onRaise (λx=>(do noteFrame x env;theTreesLotGoes x))) _ _ s;have nf:∀ {x:Value} {s':RV},False->notedBy (model prog w) A env (λe s'=>R (.error e) s') x s':=λz=>z.elim;refine wpAny_noted ?_;rw[compTurn_list];refine RO (Wa (RO (UD (turn n s hJ) (λr s₁ h₁=>?_) λ_ _ z=>nf z)));cases r with
 | none=>exact R1 h₁
 | some v =>
  refine RO (UD h₁ (λ_ s₂ h₂=>?_) λ_ _ z=>nf z);refine RO (UD h₂ (λ_ s₃ h₃=>?_) λ_ _ z=>nf z);refine RO (UD h₃ (λok s₄ h₄=>?_) λ_ _ z=>nf z);cases ok with
  | false=>exact R1 ⟨rfl,h₄⟩
  | true =>
   refine RO (RO (UD h₄ (λx s₅ h₅=>?_) λ_ _ z=>nf z));exact RO (UD h₅ (λ_ s₆ h₆=>R1 (R1 ⟨rfl,h₆⟩)) λ_ _ z=>nf z)
end
def zQ(own:ZN)(fr:AT)(wi:TI)(g:TG)(tt:TT)(te:TE):TE:=λσ H Q=>wi σ H λJ H1=>∀D,H1 D=none ->
 ∃W:Nat->Nat->St->Hp->Prop,(∃m,W 0 m (cD own fr σ) (upd H1 D (.lst [])))/\∀i m σ' H',W i m σ' H' ->
  (J.stop i H'/\Q (.ref D) H')\/(J.go i H'/\∀x H2,J.yld i H' x H2->g x σ' H2 λσ2 H3=>tt σ2 H3 λok H4 =>
   if ok=true then te σ2 H4 λy H5=>∃ys,H5 D=some (.lst ys)/\ys.length<SG/\∃m',m' < m/\W (i+1) m' σ2 (upd H5 D (.lst (ys++[y]))) else ∃m',m' < m/\W (i+1) m' σ2 H4)
section
variable {elt tg iter:Expr}{te:TE}
end
class Rep(α:Type) where
 is:RM->Hp->V->α->Prop
 mono:∀ {K:RM} {H H':Hp} {v:V} {a:α},ag H H'->is K H v a->is K H' v a
instance:Rep Int:=⟨λ_ _ v a=>v=.int a,λ_ h=>h⟩
instance:Rep Nat:=⟨λ_ _ v a=>v=.int a,λ_ h=>h⟩
instance:Rep Bool:=⟨λ_ _ v a=>v=.bl a,λ_ h=>h⟩
theorem Paired.get{α β:Type}{F:α->β->Prop}:∀ {l₁:List α} {l₂:List β} {i:Nat} {b:β},Tb F l₁ l₂->l₂[i]?=some b->∃a,l₁[i]?=some a/\F a b
 | _,_,_,_,.nil,e=>by simp at e
 | _,_,0,_,.cons r _,e=>by simp at e;subst e;exact⟨_,rfl,r⟩
 | _,_,i+1,b,.cons _ t,e=>by
  obtain⟨a,h1,h2⟩:=Paired.get (i:=i) (b:=b) t (by simpa using e)
  exact⟨a,by simpa using h1,h2⟩
theorem Paired.getL{α β:Type}{F:α->β->Prop}:∀ {l₁:List α} {l₂:List β} {i:Nat} {a:α},Tb F l₁ l₂->l₁[i]?=some a->∃b,l₂[i]?=some b/\F a b
 | _,_,_,_,.nil,e=>by simp at e
 | _,_,0,_,.cons r _,e=>by simp at e;subst e;exact⟨_,rfl,r⟩
 | _,_,i+1,b,.cons _ t,e=>by
  obtain⟨a,h1,h2⟩:=Paired.getL (i:=i) (a:=b) t (by simpa using e)
  exact⟨a,by simpa using h1,h2⟩
theorem Paired.app{α β:Type}{F:α->β->Prop}:∀ {l₁ l₃:List α} {l₂ l₄:List β},Tb F l₁ l₂->Tb F l₃ l₄->Tb F (l₁++l₃) (l₂++l₄)
 | _,_,_,_,.nil,s=>s
 | _,_,_,_,.cons r t,s=>.cons r (Paired.app t s)
theorem Paired.FY{α β:Type}{F:α->β->Prop}:∀ {l₁:List α} {l₂:List β} (n:Nat),Tb F l₁ l₂->Tb F (l₁.take n) (l₂.take n)
 | _,_,0,_=>.nil
 | _,_,_+1,.nil=>.nil
 | _,_,n+1,.cons r t=>.cons r (Paired.FY n t)
theorem Paired.FP{α β:Type}{F:α->β->Prop}:∀ {l₁:List α} {l₂:List β} (n:Nat),Tb F l₁ l₂->Tb F (l₁.drop n) (l₂.drop n)
 | _,_,0,r=>r
 | _,_,_+1,.nil=>.nil
 | _,_,n+1,.cons _ t=>Paired.FP n t
theorem Paired.of_map{α β γ:Type}{F:α->β->Prop}{f:γ->α}{g:γ->β}(h:∀c,F (f c) (g c)):∀l:List γ,Tb F (l.map f) (l.map g)
 | []=>.nil
 | c :: r=>.cons (h c) (Paired.of_map h r)
instance {α:Type}[Rep α]:Rep (List α) :=
 ⟨λK H v l=>∃p xs,v=.ref p/\SqL K H p xs/\Tb (Rep.is K H) xs l,λe ⟨p,xs,h1,h2,h3⟩=>⟨p,xs,h1,e.seq h2,Paired.bK h3 λ_ _ q=>Rep.mono e q⟩⟩
theorem ag.tup(e:ag H H')(h:SqT K H a xs):SqT K H' a xs:=by
 rcases h with (h|⟨o,h⟩)|h
 .exact .inl (.inl (e _ _ h))
 .exact .inl (.inr ⟨o,e _ _ h⟩)
 .exact .inr h
instance {α β:Type}[Rep α][Rep β]:Rep (α×β) :=
 ⟨λK H v l=>∃p x y,v=.ref p/\SqT K H p [x,y]/\Rep.is K H x l.1/\Rep.is K H y l.2,λe ⟨p,x,y,h1,h2,h3,h4⟩=>⟨p,x,y,h1,e.tup h2,Rep.mono e h3,Rep.mono e h4⟩⟩
abbrev At{α:Type}[Rep α](K:RM)(H:Hp)(v:V)(a:α):Prop:=Rep.is K H v a
theorem LN(h:SqL K H p (ns.map V.int)):At K H (.ref p) ns:=⟨p,_,rfl,h,by
 have q:=Paired.of_map (F:=λ(v:V) (a:Int)=>v=.int a) (f:=V.int) (g:=id) (λ_=>rfl) ns;rw[WX]at q;exact q⟩
theorem lN{ns:AT}(h:At K H v ns):∃p,v=.ref p/\SqL K H p (ns.map λ(n:Nat)=>V.int n):=by
 k_get;refine⟨p,rfl,?_⟩;have e:xs=ns.map λ(n:Nat)=>V.int n:=by
  clear hS
  induction hP with
  | nil=>rfl
  | cons r _ ih=>rw[S6,<- ih];exact congrArg (· :: _) r
 rw[<- e];exact hS
theorem At.item{α:Type}[Rep α]{l:List α}{a:α}(h:At K H v l)(e:l[i]?=some a):∃p xs x,v=.ref p/\SqL K H p xs/\atI xs (i:Int)=some x/\At K H x a:=by
 k_get;obtain⟨x,hx,r⟩:=Paired.get hP e;exact⟨p,xs,x,rfl,hS,eU hx,r⟩
theorem At.len{α:Type}[Rep α]{l:List α}(h:At K H v l):∃p xs,v=.ref p/\SqL K H p xs/\xs.length=l.length:=by
 k_get;exact⟨p,xs,rfl,hS,hP.length⟩
class bf(α:Type)[Rep α][DecidableEq α] where
 depth:Nat
 inj:∀ {X:Cx} {dh:Z0} {σ:St} {H:Hp} {s:RV} {x:V} {a b:α},Inv X dh σ H s->At X.K H x a->At X.K H x b->a=b
 eq:∀ {X:Cx} {dh:Z0} {σ:St} {H:Hp} {s:RV} {A:S7} {x y:V} {u v:Value} {a b:α},Inv X dh σ H s->At X.K H x a->At X.K H y b->RelV x u->RelV y v->A.units+depth<cLine ->
  Zh A s u v (decide (a=b))
instance:bf Int where
 depth:=0
 inj:=λ_ h h'=>by cases h;cases h';rfl
 eq:=λ{X dh σ H s A x y u v a b} _ hx hy ru rv _=>by
  cases hx;cases hy;have q:=z8 (A:=A) (s:=s) ru rv rfl rfl;have e:eqV (.int a) (.int b)=decide (a=b):=rfl;rw[e]at q;exact q
instance:bf Nat where
 depth:=0
 inj:=λ_ h h'=>by
  have q:=(show _=V.int _ from h).symm.trans (show _=V.int _ from h');injection q with q;exact X2 q
 eq:=λ{X dh σ H s A x y u v a b} _ hx hy ru rv _=>by
  cases hx;cases hy;have q:=z8 (A:=A) (s:=s) ru rv rfl rfl;have e:eqV (.int a) (.int b)=decide (a=b):=by
   show decide ((a:Int)=(b:Int))=decide (a=b);exact decide_eq_decide.mpr Int.ofNat_inj
  rw[e]at q;exact q
theorem uj(h:A.units+(n+1)<cLine):A.in1.units+n<cLine:=by
 show A.units+1+n<cLine;lia
theorem pI{X:Cx}{dh:Z0}{σ:St}{H:Hp}{s:RV}{α:Type}[Rep α][DecidableEq α][bf α](I:Inv X dh σ H s) :
  ∀ {xs:Z7} {as bs:List α},Tb (Rep.is X.K H) xs as->Tb (Rep.is X.K H) xs bs->as=bs
 | _,_,_,.nil,.nil=>rfl
 | _,_,_,.cons r t,.cons r' t'=>by rw[bf.inj I r r',pI I t t']
theorem range_all{α:Type}[DecidableEq α]:∀ (as bs:List α),as.length=bs.length->((RS as.length).all λj=>decide (as[j]?=bs[j]?))=decide (as=bs):=by
 intro as bs hl;rw[UJ];simp only[SF,RU,decide_eq_true_eq];constructor
 .intro h;refine Tr λi=>?_
  by_cases hi:i<as.length
  .exact h i hi
  .rw[Sm (by lia),Sm (by lia)]
 .intro h i _;rw[h]
theorem wX{α:Type}[Rep α][DecidableEq α][bf α]{q:Addr}{ys:Z7}{as bs:List α}
  (I:Inv X dh σ H s) (h1:SqL X.K H p xs) (r1:Tb (Rep.is X.K H) xs as) (h2:SqL X.K H q ys) (r2:Tb (Rep.is X.K H) ys bs) (hu:A.units+(bf.depth α+1)<cLine) (hl:as.length=bs.length) :
  ∃ZV ZY:Z8,s.heap.IsList p ZV.toArray/\s.heap.IsList q ZY.toArray/\ZV.toArray.size=ZY.toArray.size/\ZV.toArray.size=as.length /\
   ∀j (h1:j<ZV.toArray.size) (h2:j<ZY.toArray.size),Zh A.in1 s ZV.toArray[j] ZY.toArray[j] (decide (as[j]?=bs[j]?)):=by
 walk_at "123";refine⟨ZV,ZY,p1.isList,p2.isList,by simp;lia,by simp;lia,λj h1 h2=>?_⟩
 have h1':j<ZV.length:=by simpa using h1
 have h2':j<ZY.length:=by simpa using h2
 have hx:j<xs.length:=by lia
 have hy:j<ys.length:=by lia
 obtain⟨u,hu1,ru⟩:=v1.get (i:=j) (x:=xs[j]) (by simp[hx])
 obtain⟨v,hv1,rv⟩:=v2.get (i:=j) (x:=ys[j]) (by simp[hy])
 obtain⟨a,ha,ra⟩:=Paired.getL r1 (i:=j) (a:=xs[j]) (by simp[hx])
 obtain⟨b,hb,rb⟩:=Paired.getL r2 (i:=j) (a:=ys[j]) (by simp[hy])
 have eu:ZV.toArray[j]=u:=by
  have:ZV[j]?=some ZV[j]:=by simp[h1']
  rw[this]at hu1
  simpa using hu1
 have ev:ZY.toArray[j]=v:=by
  have:ZY[j]?=some ZY[j]:=by simp[h2']
  rw[this]at hv1
  simpa using hv1
 rw[eu,ev,ha,hb];have z:=bf.eq (A:=A.in1) I ra rb ru rv (uj hu);have e:decide (some a=some b)=decide (a=b):=by simp
 rw[e];exact z
instance {α:Type}[Rep α][DecidableEq α][bf α]:bf (List α) where
 depth:=bf.depth α+1
 inj:=λ{X dh σ H s x a b} I h h'=>by
  obtain⟨p,xs,e,h1,r1⟩:=h;obtain⟨q,ys,e',h2,r2⟩:=h';subst e;cases e';have:=I.pQ h1 h2;subst this;exact pI I r1 r2
 eq:=λ{X dh σ H s A x y u v a b} I hx hy ru rv hu=>by
  walk_at "126"
  by_cases hpq:p=q
  .subst hpq;have:=I.pQ h1 h2;subst this;have:=pI I r1 r2;subst this;rw[decide_eq_true rfl];exact SeqAt.EqAt.same _
  .refine SeqAt.EqAt.of_refs hpq ?_;have hu0:A.units<cLine:=by lia
   by_cases hl:a.length=b.length
   .obtain⟨ZV,ZY,l1,l2,e1,e2,he⟩:=wX (A:=A) I h1 r1 h2 r2 hu hl;have z:=SeqAt.RcAt.lists l1 l2 e1 hu0 he;rw[e2,range_all a b hl]at z;exact z
   .walk_at "123";rw[decide_eq_false (λz=>hl (by rw[z]))]
    exact SeqAt.RcAt.lists_lengths p1.isList p2.isList (by simp;lia) hu0
theorem NU(α:Type)[Rep α][DecidableEq α][bf α](hu:X.A.units+64<cLine)(hd:bf.depth α<=32:=by decide) :
  OpR X (compareOp .Eq) (λx y H Q=>∃as bs:List α,At X.K H x as/\At X.K H y bs/\Q (.bl (decide (as=bs))) H):=by
 intro dh s σ H x y u v Q I ru rv h;obtain⟨as,bs,⟨p,xs,e,h1,r1⟩,⟨q,ys,e',h2,r2⟩,hq⟩:=h;k_go0;have hu0:X.A.units<cLine:=by lia
 by_cases hl:as.length=bs.length
 .obtain⟨ZV,ZY,l1,l2,e1,e2,he⟩:=wX (A:=X.A) I h1 r1 h2 r2 (by lia) hl
  refine SeqAt.eq_listAt l1 l2 e1 hu0 he ?_;rw[e2,range_all as bs hl];exact⟨.bl _,H,I,rfl,hq⟩
 .walk_at "123";rw[decide_eq_false (λz=>hl (by rw[z]))]at hq
  exact SeqAt.eq_list_lengthsAt p1.isList p2.isList (by simp;lia) hu0 ⟨.bl false,H,I,rfl,hq⟩
theorem OF(α:Type)[Rep α][DecidableEq α][bf α](hu:X.A.units+64<cLine)(hd:bf.depth α<=32:=by decide) :
  OpR X (compareOp .NotEq) (λx y H Q=>∃as bs:List α,At X.K H x as/\At X.K H y bs/\Q (.bl (!decide (as=bs))) H):=by
 intro dh s σ H x y u v Q I ru rv h;obtain⟨as,bs,⟨p,xs,e,h1,r1⟩,⟨q,ys,e',h2,r2⟩,hq⟩:=h;k_go0;have hu0:X.A.units<cLine:=by lia
 have fin:∀k:Bool,Q (.bl k) H->YQ k≠YV/\EP X dh σ Q (.bool k) s:=λk z=>⟨(λz=>nomatch z),.bl k,H,I,rfl,z⟩
 by_cases hl:as.length=bs.length
 .obtain⟨ZV,ZY,l1,l2,e1,e2,he⟩:=wX (A:=X.A) I h1 r1 h2 r2 (by lia) hl
  obtain⟨⟨cls,dd,data,sl⟩,ho,hc,n,ZZ⟩:=id l1;obtain⟨⟨cls2,dd2,data2,sl2⟩,X!,hc2,n2,hd2⟩:=id l2;simp only at hc ZZ hc2 hd2;subst hc ZZ hc2 hd2;have hq':=fin _ hq;rw[<- range_all as bs hl,<- e2]at hq';exact Wq (op:=.NotEq) ⟨_,ho,rfl⟩ ⟨_,X!,rfl⟩ F.slot_list_ne F.entry_list_ne (F.args_list_ne_2 _ _) (SeqAt.list_neAt p q _ _ n n2 dd dd2 sl sl2 e1 _) ⟨ho,X!,he,hq'⟩ hu0
 .walk_at "123";rw[decide_eq_false (λz=>hl (by rw[z]))]at hq
  obtain⟨⟨cls,dd,data,sl⟩,ho,hc,n,ZZ⟩:=id p1.isList;obtain⟨⟨cls2,dd2,data2,sl2⟩,X!,hc2,n2,hd2⟩:=id p2.isList;simp only at hc ZZ hc2 hd2;subst hc ZZ hc2 hd2;exact Wq (op:=.NotEq) ⟨_,ho,rfl⟩ ⟨_,X!,rfl⟩ F.slot_list_ne F.entry_list_ne (F.args_list_ne_2 _ _) (SeqAt.list_ne_lengthsAt p q _ _ n n2 dd dd2 sl sl2 (by simp;lia)) ⟨ho,X!,fin _ hq⟩ hu0
structure Df(K:RM)(mg:Z6)(x:Str)(st:Stmt)(ps:ZN) where
 f:Addr
 fd:TC
 fn:Fun K x x st f fd
 bd:Binds K fd ps []
 nm:mg x=some (.ref f)
section
variable {p:Pos}{e:Expr}{t:TA}
theorem Pq(d:Df X.K X.mg x st ps)(G:aE X.prog X.w X.K X.mg X.base CX0 k d.f d.fd ps sp)(hr:bP k X.A)(hg:Gl X x)(ha:PA X (e :: es) t)(t!:(x == ("__debug__" : Str))=false:=by decide)
  (he:Ta (e :: es) X.env=(false,eval e X.env) :: Ta es X.env:=by rfl) (hpl:(backTo pos (Ta es X.env)).any (·.1)=false:=by rfl) :
  PE X (.Call (.Name x p) (e :: es) [] pos) (pU sp [] E0 t):=DJ G hr hg d.nm d.fn.kp d.bd .nil lB ha t! he hpl
end
theorem Df.ok(d:Df K mg x st ps)(S:av N ps (ah st))(len:∀vs H Q E,sp vs H Q E->vs.length=ps.length)
  (i!:∀ (cdv:Value) (A:S7) (outer:List Env) (s:RV) (H:Hp) (vs:Z7) (Q:VK) (E:XK),bP k (A.deeper (envOfC x (ah st) s.heap.objs.size d.f cdv))->sp vs H Q E ->
   ∃t,PSs (pL CX0 P w K mg base N x (ah st) d.f cdv A outer s H E).nox (bo st) t/\t { nx:=λ_ H'=>Q .non H',rt:=Q } (start N vs) H):aE P w K mg base CX0 (k+1) d.f d.fd ps sp :=
 d.fn.ok S len i!
theorem ar(h:H p=none)(o:HO):ag H (upd H p o):=λb u q=>by rw[ak (au q h)];exact q
theorem small(h:n<=1000):n<=SG:=Uw (GU h)
theorem sB:0<=SG:=small (by show 0<=1000;decide)
theorem sK:1<=SG:=small (by show 1<=1000;decide)
theorem Sc:2<=SG:=small (by show 2<=1000;decide)
def isB(x:V)(H:Hp)(QB:Bool->Hp->Prop):Prop:=∃k,x=.bl k/\QB k H
abbrev isF(K:RM)(f:Str)(x:V)(H1:Hp)(Q:VK):Prop:=∃a C dx fs v,x=.ref a/\H1 a=some (.ins C dx fs)/\Cls K C/\bG K C f/\fs.lookup f=some v/\Q v H1
def isI(x:V)(H:Hp)(QO:Option Int->Hp->Prop):Prop:=∃i,x=.int i/\QO (some i) H
def eJ(g:TG)(t:TS)(D:Ends)(σ:St):It->Hp->Prop:=λJ H1=>∃W:Nat->Nat->St->Hp->Prop,(∃m,W 0 m σ H1)/\∀i m σ H,W i m σ H ->
  (J.stop i H/\D.nx σ H)\/(J.go i H/\∃N:St->Hp->Prop,(∀σ' H',N σ' H'->∃m',m' < m/\W (i+1) m' σ' H')/\∀x H',J.yld i H x H'->g x σ H' λσ2 H2=>t { D with nx:=N,ct:=N,bk:=D.nx } σ2 H2)
def fj(own:ZN)(fr:AT)(g:TG)(tt:TT)(ta:TE)(σ:St)(Q:VK):It->Hp->Prop:=λJ H1=>∀d,H1 d=none->∃W:Nat->Nat->St->Hp->Prop,(∃m,W 0 m (cD own fr σ) (upd H1 d (.lst [])))/\∀i m σ' H',W i m σ' H' ->
  (J.stop i H'/\Q (.ref d) H')\/(J.go i H'/\∀x H2,J.yld i H' x H2->g x σ' H2 λσ2 H3=>tt σ2 H3 λok H4 =>
   if ok=true then ta σ2 H4 λy H5=>∃ys,H5 d=some (.lst ys)/\ys.length<SG/\∃m',m' < m/\W (i+1) m' σ2 (upd H5 d (.lst (ys++[y]))) else ∃m',m' < m/\W (i+1) m' σ2 H4)
def gL(K:RM)(x:V)(H:Hp)(R:It->Hp->Prop):Prop:=∃a,x=.ref a/\(∃xs,SqL K H a xs)/\R (Itl K a) H
def uw(vs:Z7)(H:Hp)(R:It->Hp->Prop):Prop:=∃j:Int,vs=[.int j]/\-(2 ^ 62)<=j/\j<2 ^ 62/\R (Itr 0 j.toNat) H
section
variable {Q:VK}{D:Ends}{t u:TS}{ta tb tc:TE}{x y:V}{tu:TT}{tA:TA}{a b:Int}
theorem F9(h:QS (σ.set i (some v)) H):dZ i v σ H QS:=h
theorem ja(J:Z5)(main:∀N:St->Hp->Prop,(∀σ' H',J σ' H'->N σ' H')->tt σ H λb H1=>if b=true then t { D with nx:=N } σ H1 else u { D with nx:=N } σ H1)
  (key:∀σ' H',J σ' H'->D.nx σ' H'):JH tt t u D σ H:=main D.nx key
theorem QT(e:σ[i]?=some (some v))(h:Q v H):FW i σ H Q:=⟨v,e,h⟩
theorem r_C(h:Q v H):tC v σ H Q:=h
theorem Ko{f:Int->Int->V}(h:Q (f a b) H):rI0 f (.int a) (.int b) H Q:=⟨a,b,rfl,rfl,h⟩
theorem wo{f:Int->Int->V}(c:C a b)(h:Q (f a b) H):rI C f (.int a) (.int b) H Q:=⟨a,b,rfl,rfl,c,h⟩
theorem EV(h:Q (.bl (decide (a=b))) H):rEq (.int a) (.int b) H Q:=⟨rfl,by
 have e:decide (V.int a=V.int b)=decide (a=b):=decide_eq_decide.mpr ⟨λz=>by injection z,λz=>by rw[z]⟩
 rw[e];exact h⟩
theorem E7(h:Q (.bl (!decide (a=b))) H):rNe (.int a) (.int b) H Q:=⟨rfl,by
 have e:decide (V.int a=V.int b)=decide (a=b):=decide_eq_decide.mpr ⟨λz=>by injection z,λz=>by rw[z]⟩
 rw[e];exact h⟩
theorem RH{c:Bool}(h:QB c H):isB (.bl c) H QB:=⟨c,rfl,h⟩
theorem QD(h:tt σ H λc H1=>if c=true then tu σ H1 QB else QB false H1):NT tt tu σ H QB:=h
theorem Q7(h:tt σ H λc H1=>if c=true then QB true H1 else tu σ H1 QB):tOr tt tu σ H QB:=h
theorem OT(h:ta σ H λx H1=>isB x H1 λc H1=>if c=true then tb σ H1 Q else Q (.bl false) H1):K6 ta tb σ H Q:=h
theorem QR(h:ta σ H λx H1=>isB x H1 λc H1=>if c=true then Q (.bl true) H1 else tb σ H1 Q):NR ta tb σ H Q:=h
theorem QX(h:QA [] H):nF σ H QA:=h
theorem Pp(h:ta σ H λx H1=>Q (.bl (decide (x=.non))) H1):OG ta σ H Q:=h
theorem Ov(h:ta σ H λx H1=>Q (.bl (!decide (x=.non))) H1):KD ta σ H Q:=h
theorem Pj(h:wi σ H (eJ g t D σ)):Iz wi g t D σ H:=h
theorem NP(h:wi σ H (fj own fr g tt ta σ Q)):zQ own fr wi g tt ta σ H Q:=h
theorem Q2{tl th:TO}(h:ta σ H λx H1=>tl σ H1 λl H2=>th σ H2 λu H3=>r x l u H3 Q):tSl r ta tl th σ H Q:=h
theorem IG(h:QO none H):Dn σ H QO:=h
theorem Nc(h:ta σ H λx H1=>isI x H1 QO):Kz ta σ H QO:=h
theorem MR(h:QO (some a) H):isI (.int a) H QO:=⟨a,rfl,h⟩
theorem Nk{C:Addr}{E:XK}(h:tA σ H λvs H1=>∀x dx,H1 x=none->H1 dx=none->dx≠x->sp (.ref x :: (vs++dvs)) (upd (upd H1 dx (.own x)) x (.ins C dx [])) (λv H2=>v=.non/\Q (.ref x) H2) E):Fg C sp dvs E tA σ H Q:=h
theorem M5{f:Str}(h:tb σ H λy H1=>ta σ H1 λx H2=>∃a C dx fs,x=.ref a/\H2 a=some (.ins C dx fs)/\Cls K C/\bG K C f/\fs.length<1000/\D.nx σ (upd H2 a (.ins C dx (bF f y fs)))):IW K ta tb f D σ H:=h
theorem b6{α:Type}[Rep α]{l:List α}{c:α}(h:At K H v l)(e:a=(n:Int))(hn:l[n]?=some c)(q:∀w,At K H w c->Q w H):mG K v (.int a) H Q:=by
 obtain⟨p,xs,x,rfl,hS,hx,hc⟩:=h.item hn;subst e;exact⟨p,xs,_,x,rfl,rfl,hS,hx,q x hc⟩
theorem ie{l:AT}{c:Nat}(h:At K H v l)(e:a=(n:Int))(hn:l[n]?=some c)(q:Q (.int c) H):mG K v (.int a) H Q :=
 b6 h e hn λw hw=>by cases(show w=V.int c from hw);exact q
theorem K8{l:ZM}{c:Int}(h:At K H v l)(e:a=(n:Int))(hn:l[n]?=some c)(q:Q (.int c) H):mG K v (.int a) H Q :=
 b6 h e hn λw hw=>by cases(show w=V.int c from hw);exact q
theorem aX(e:a=(n:Int))(hn:n<=1000000)(Pv:ZT)(h0:Pv 0 σ H)
  (hs:∀i σ' H',i<n->Pv i σ' H'->g (.int i) σ' H' λσ2 H2=>t { D with nx:=Pv (i+1),ct:=Pv (i+1),bk:=D.nx } σ2 H2) (hd:∀σ' H',Pv n σ' H'->D.nx σ' H') :
  uw [.int a] H (eJ g t D σ):=by
 subst e;refine⟨n,rfl,by lia,by lia,?_⟩
 have z:((n:Int)).toNat=n:=by lia
 show eJ g t D σ (Itr 0 (n:Int).toNat) H;rw[z];exact HY Pv h0 (λi σ' H' hi p=>by rw[Zr];exact hs i σ' H' hi p) hd
theorem eA{α:Type}[Rep α]{l:List α}(h:At K H v l)(Pv:ZT)(h0:Pv 0 σ H)(hl:∀i σ' H',Pv i σ' H'->ag H H')
  (hs:∀i c w σ' H',l[i]?=some c->At K H' w c->Pv i σ' H'->g w σ' H' λσ2 H2=>t { D with nx:=Pv (i+1),ct:=Pv (i+1),bk:=D.nx } σ2 H2) (hd:∀σ' H',Pv l.length σ' H'->D.nx σ' H') :
  gL K v H (eJ g t D σ):=by
 k_get;refine⟨p,rfl,⟨xs,hS⟩,o7 (K:=K) (a:=p) (xs:=xs) Pv h0 (λi σ' H' _ q=>(hl i σ' H' q).seq hS) (λi x σ' H' hx q=>?_) (λσ' H' q=>?_)⟩
 .obtain⟨c,hc,r⟩:=Paired.getL hP hx;exact hs i c x σ' H' hc (Rep.mono (hl i σ' H' q) r) q
 .rw[hP.length]at q;exact hd σ' H' q
def del(H:Hp)(d:Addr):Hp:=λa=>if a=d then none else H a
theorem bM{b:Addr}(h:b≠d):del H d b=H b:=if_neg h
theorem f9(e:ag H H'):ag (del H d) (del H' d):=λb o h=>by
 by_cases hb:b=d
 .o_new
 .rw[bM hb]at h ⊢;exact e b o h
theorem eB{o:HO}:ag (del H d) (del (upd H d o) d):=λb u h=>by
 by_cases hb:b=d
 .o_new
 .rw[bM hb]at h ⊢;rw[ak hb];exact h
theorem dA :ag (del H d) H:=λb u h=>by
 by_cases hb:b=d
 .o_new
 .rw[bM hb]at h;exact h
theorem v7{β:Type}[Rep β]{J:It}(Src:Nat->V->Hp->Prop)(acc:Nat->List β)(Sh:St->Prop)
  (hgo:∀i H',i<n->ag H H'->J.go i H') (X':∀H',ag H H'->J.stop n H') (hy:∀i H' x H2,i<n->ag H H'->J.yld i H' x H2->H2=H'/\Src i x H')
  (hz:n<=100000) (ha0:acc 0=[]) (N!:∀i,i<=n->(acc i).length<=i) (h0:Sh (cD own fr σ))
  (turn:∀i w σ' H' (d:Addr) (R:St->V->Hp->Prop) (R0:Z5),i<n->ag H H'->Src i w H'->Sh σ' ->
   (∀σ2 y b H5,Sh σ2->ag H' H5->At K (del H5 d) y b->acc (i+1)=acc i++[b]->R σ2 y H5)->(∀σ2 H5,Sh σ2->ag H' H5->acc (i+1)=acc i->R0 σ2 H5)->(∃ys,H' d=some (.lst ys)) ->
   g w σ' H' λσ2 H3=>tt σ2 H3 λok H4=>if ok=true then ta σ2 H4 (R σ2) else R0 σ2 H4)
  (fin:∀d H',H d=none->ag H H'->(∃ys,H' d=some (.lst ys)/\Tb (Rep.is K (del H' d)) ys (acc n))->Q (.ref d) H') (d:Addr) (hd:H d=none) :
  ∃W:Nat->Nat->St->Hp->Prop,(∃m,W 0 m (cD own fr σ) (upd H d (.lst [])))/\∀i m σ' H',W i m σ' H' ->
   (J.stop i H'/\Q (.ref d) H')\/(J.go i H'/\∀x H2,J.yld i H' x H2->g x σ' H2 λσ2 H3=>tt σ2 H3 λok H4 =>
    if ok=true then ta σ2 H4 λy H5=>∃ys,H5 d=some (.lst ys)/\ys.length<SG/\∃m',m' < m/\W (i+1) m' σ2 (upd H5 d (.lst (ys++[y]))) else ∃m',m' < m/\W (i+1) m' σ2 H4):=by
 refine⟨λi m σ' H'=>m=n - i/\i<=n/\Sh σ'/\ag H H'/\∃ys,H' d=some (.lst ys)/\Tb (Rep.is K (del H' d)) ys (acc i),⟨n,rfl,SO _,h0,ar hd _,[],aj,by rw[ha0];exact .nil⟩,?_⟩
 rintro i m σ' H' ⟨rfl,hi,hsh,hs,ys,h!,hp⟩
 by_cases ZW:i<n
 .refine .inr ⟨hgo i H' ZW hs,λx H2 hx=>?_⟩;obtain⟨rfl,hsrc⟩:=hy i H' x H2 ZW hs hx;refine turn i x σ' H2 d _ _ ZW hs hsrc hsh (λσ2 y b H5 h1 h2 h3 h4=>?_) (λσ2 H5 h1 h2 h4=>?_) ⟨ys,h!⟩
  .have hl:=hp.length;have hl2:=N! i hi;refine⟨ys,h2 _ _ h!,Ti (show ys.length<=100000 by lia) (by rw[SH];decide),n - (i+1),by lia,rfl,ZW,h1,λb' o e=>?_,ys++[y],aj,?_⟩
   .rw[ak (au e hd)];exact h2 _ _ (hs _ _ e)
   .rw[h4];exact Paired.app (Paired.bK hp λ_ _ q=>Rep.mono eB (Rep.mono (f9 h2) q)) (.cons (Rep.mono eB h3) .nil)
  .refine⟨n - (i+1),by lia,rfl,ZW,h1,hs.trans h2,ys,h2 _ _ h!,?_⟩
   rw[h4];exact Paired.bK hp λ_ _ q=>Rep.mono (f9 h2) q
 .have e:i=n:=by lia
  subst e;exact .inl ⟨X' H' hs,fin d H' hd hs ⟨ys,h!,hp⟩⟩
theorem kg{α β:Type}[Rep α][Rep β]{l:List α}(h:At K H v l)(hz:l.length<=100000)(acc:Nat->List β)(Sh:St->Prop)(ha0:acc 0=[])(N!:∀i,i<=l.length->(acc i).length<=i)(h0:Sh (cD own fr σ))
  (turn:∀i c w σ' H' (d:Addr) (R:St->V->Hp->Prop) (R0:Z5),l[i]?=some c->ag H H'->At K H' w c->Sh σ' ->
   (∀σ2 y b H5,Sh σ2->ag H' H5->At K (del H5 d) y b->acc (i+1)=acc i++[b]->R σ2 y H5)->(∀σ2 H5,Sh σ2->ag H' H5->acc (i+1)=acc i->R0 σ2 H5)->(∃ys,H' d=some (.lst ys)) ->
   g w σ' H' λσ2 H3=>tt σ2 H3 λok H4=>if ok=true then ta σ2 H4 (R σ2) else R0 σ2 H4)
  (fin:∀d H',H d=none->ag H H'->(∃ys,H' d=some (.lst ys)/\Tb (Rep.is K (del H' d)) ys (acc l.length))->Q (.ref d) H') :
  gL K v H (fj own fr g tt ta σ Q):=by
 obtain⟨p,xs,rfl,hS,hP⟩:=h;have hl:=hP.length;refine⟨p,rfl,⟨xs,hS⟩,v7 (J:=Itl K p) (n:=l.length) (λi w H'=>∃c,l[i]?=some c/\At K H' w c) acc Sh (λi H' hi e=>⟨xs,xs[i]'(by lia),e.seq hS,by simp[hl,hi]⟩) (λH' e=>⟨xs,e.seq hS,VG hl⟩)
  (λi H' x H2 hi e hy=>?_) hz ha0 N! h0 (λi w σ' H' d R R0 hi e ⟨c,hc,hw⟩=>turn i c w σ' H' d R R0 hc e hw) fin⟩
 obtain⟨e1,e2⟩:=hy;have z:=e2 xs (e.seq hS);obtain⟨c,hc,r⟩:=Paired.getL hP z;exact⟨e1,c,hc,Rep.mono e r⟩
theorem gJ(K:RM){β:Type}[Rep β](e:a=(n:Int))(hz:n<=100000)(acc:Nat->List β)(Sh:St->Prop)(ha0:acc 0=[])(N!:∀i,i<=n->(acc i).length<=i)(h0:Sh (cD own fr σ))
  (turn:∀i σ' H' (d:Addr) (R:St->V->Hp->Prop) (R0:Z5),i<n->ag H H'->Sh σ' ->
   (∀σ2 y b H5,Sh σ2->ag H' H5->At K (del H5 d) y b->acc (i+1)=acc i++[b]->R σ2 y H5)->(∀σ2 H5,Sh σ2->ag H' H5->acc (i+1)=acc i->R0 σ2 H5)->(∃ys,H' d=some (.lst ys)) ->
   g (.int i) σ' H' λσ2 H3=>tt σ2 H3 λok H4=>if ok=true then ta σ2 H4 (R σ2) else R0 σ2 H4)
  (fin:∀d H',H d=none->ag H H'->(∃ys,H' d=some (.lst ys)/\Tb (Rep.is K (del H' d)) ys (acc n))->Q (.ref d) H') :
  uw [.int a] H (fj own fr g tt ta σ Q):=by
 subst e;refine⟨n,rfl,by lia,by lia,?_⟩
 have z:((n:Int)).toNat=n:=by lia
 show fj own fr g tt ta σ Q (Itr 0 (n:Int).toNat) H;rw[z];refine v7 (J:=Itr 0 n) (n:=n) (λi w _=>w=.int i) acc Sh (λi H' hi _=>hi) (λH' _=>R6 n) (λi H' x H2 hi e hy=>?_) hz ha0 N! h0 (λi w σ' H' d R R0 hi e hw=>?_) fin
 .obtain⟨e1,e2⟩:=hy;exact⟨e1,by rw[e2,Zr]⟩
 .subst hw;exact turn i σ' H' d R R0 hi e
theorem jy{α β:Type}[Rep α][Rep β]{l:List α}(h:At K H v l)(hz:l.length<=100000)(acc:Nat->List β)(Sh:St->Prop)(ha0:acc 0=[])(N!:∀i,i<=l.length->(acc i).length<=i)(h0:Sh (cD own fr σ))
  (turn:∀i c w σ' H' (d:Addr) (R:St->V->Hp->Prop) (R0:Z5),l[i]?=some c->ag H H'->At K H' w c->Sh σ' ->
   (∀σ2 y b H5,Sh σ2->ag H' H5->At K (del H5 d) y b->acc (i+1)=acc i++[b]->R σ2 y H5)->(∀σ2 H5,Sh σ2->ag H' H5->acc (i+1)=acc i->R0 σ2 H5)->(∃ys,H' d=some (.lst ys)) ->
   g w σ' H' λσ2 H3=>tt σ2 H3 λok H4=>if ok=true then ta σ2 H4 (R σ2) else R0 σ2 H4)
  (fin:∀d H',ag H H'->At K H' (.ref d) (acc l.length)->Q (.ref d) H') :
  gL K v H (fj own fr g tt ta σ Q) :=
 kg h hz acc Sh ha0 N! h0 turn λd H' _ hs ⟨ys,h!,hp⟩=>fin d H' hs ⟨d,ys,rfl,SqL.of h!,Paired.bK hp λ_ _ q=>Rep.mono dA q⟩
theorem ka(K:RM){β:Type}[Rep β](e:a=(n:Int))(hz:n<=100000)(acc:Nat->List β)(Sh:St->Prop)(ha0:acc 0=[])(N!:∀i,i<=n->(acc i).length<=i)(h0:Sh (cD own fr σ))
  (turn:∀i σ' H' (d:Addr) (R:St->V->Hp->Prop) (R0:Z5),i<n->ag H H'->Sh σ' ->
   (∀σ2 y b H5,Sh σ2->ag H' H5->At K (del H5 d) y b->acc (i+1)=acc i++[b]->R σ2 y H5)->(∀σ2 H5,Sh σ2->ag H' H5->acc (i+1)=acc i->R0 σ2 H5)->(∃ys,H' d=some (.lst ys)) ->
   g (.int i) σ' H' λσ2 H3=>tt σ2 H3 λok H4=>if ok=true then ta σ2 H4 (R σ2) else R0 σ2 H4)
  (fin:∀d H',ag H H'->At K H' (.ref d) (acc n)->Q (.ref d) H') :
  uw [.int a] H (fj own fr g tt ta σ Q) :=
 gJ K e hz acc Sh ha0 N! h0 turn λd H' _ hs ⟨ys,h!,hp⟩=>fin d H' hs ⟨d,ys,rfl,SqL.of h!,Paired.bK hp λ_ _ q=>Rep.mono dA q⟩
theorem KL(h:QB true H):Jm σ H QB:=h
theorem HC{A:Prop}(h:A):if true=true then A else B:=uq h
end
variable {d p:Addr}{R:Bool->Prop}{X:Cx}{D:Ends}{env:Env}{a e tg:Expr}{H H' H₀:Hp}{QH:Hp->Prop}{dh:Z0}{rows:AC}{fp ps:ZL}{bs:List Bool}{es tgs:Z9}{fr:AT}{own:ZN}{dvs:Z7}{ds:Z8}{i j k kk n:Nat}{apos d5 pos tpos:Pos}{K:RM}{sp:Sp}{σ:St}{name x:Str}{T:String}{t tA ta:TA}{g:TG}{v y:V}{r:ZU}{Q:VK}
theorem aW{c A B:Prop}[Decidable c](h1:c->A)(h2:¬ c->B):if decide c=true then A else B:=by
 by_cases h:c
 .rw[decide_eq_true h];exact uq (h1 h)
 .rw[decide_eq_false h];exact gn (h2 h)
theorem bW{c A B:Prop}[Decidable c](h1:¬ c->A)(h2:c->B):if (!decide c)=true then A else B:=by
 by_cases h:c
 .rw[decide_eq_true h];exact gn (h2 h)
 .rw[decide_eq_false h];exact uq (h1 h)
def Gr{β:Type}[Rep β](K:RM)(H:Hp)(d:Addr)(l:List β):Prop:=∃ys,H d=some (.lst ys)/\Tb (Rep.is K (del H d)) ys l
section
variable {β:Type}[Rep β]{l:List β}{b:β} 
theorem Gr.at(h:Gr K H d l):At K H (.ref d) l:=by
 obtain⟨ys,h1,h2⟩:=h;exact⟨d,ys,rfl,SqL.of h1,Paired.bK h2 λ_ _ q=>Rep.mono dA q⟩
theorem Gr.mono(s:ag H H')(h:Gr K H d l):Gr K H' d l:=by
 obtain⟨ys,h1,h2⟩:=h;exact⟨ys,s _ _ h1,Paired.bK h2 λ_ _ q=>Rep.mono (f9 s) q⟩
theorem Gr.is(h:Gr K H d l):∃ys,H d=some (.lst ys):=let ⟨ys,h1,_⟩:=h;⟨ys,h1⟩
theorem Gr.ty(h:Gr K H d l):tyV K "list" (.ref d) H:=by
 obtain⟨ys,h1,_⟩:=h;exact .inl ⟨rfl,_,SqL.of h1⟩
theorem ix(h:Gr K H d l)(hl:l.length<=100000)(hy:At K (del H d) y b)(q:∀H',Gr K H' d (l++[b])->(∀a o,a≠d->H a=some o->H' a=some o)->(∀a,a≠d->H' a=H a)->Q .non H'):oI (.ref d) [y] H Q:=by
 obtain⟨ys,h1,h2⟩:=h;have e:=h2.length;refine⟨d,ys,y,rfl,rfl,h1,Ti (show ys.length<=100000 by lia) (by rw[SH];decide),?_⟩
 refine q _ ⟨_,aj,Paired.app (Paired.bK h2 λ_ _ z=>Rep.mono eB z) (.cons (Rep.mono eB hy) .nil)⟩ (λa o ha z=>by rw[ak ha];exact z) λa ha=>ak ha
theorem ag.but(hd:H₀ d=none)(s:ag H₀ H)(k:∀a o,a≠d->H a=some o->H' a=some o):ag H₀ H':=λa o z=>k a o (au z hd) (s a o z)
end
def cut{α:Type}(l:List α)(lo hi:Option Int):List α:=(l.drop (HT.sIx l.length 0 lo)).take (HT.sIx l.length l.length hi - HT.sIx l.length 0 lo)
theorem L4{α:Type}[Rep α]{l:List α}{lo hi:Option Int}(h:At K H v l)(q:∀p H',ag H H'->H p=none->At K H' (.ref p) (cut l lo hi)->Q (.ref p) H'):IA K v lo hi H Q:=by
 k_get;refine⟨p,xs,rfl,hS,λd hd=>q d _ (ar hd _) hd ⟨d,_,rfl,SqL.of aj,?_⟩⟩;have e:=hP.length;unfold BN cut;rw[e];exact Paired.FY _ (Paired.FP _ (Paired.bK hP λ_ _ z=>Rep.mono (ar hd _) z))
theorem Ie(hd:∃ys,H d=some (.lst ys))(hp:H p=none):p≠d:=λe=>by
 obtain⟨ys,hd⟩:=hd;rw[e,hd]at hp;cases hp
def Jl(K:RM):List V->Hp->VK->Prop:=λxs H Q=>∃p ys,xs=[.ref p]/\(SqL K H p ys\/SqT K H p ys)/\Q (.int ys.length) H
def zG(K:RM):List V->Hp->VK->Prop:=λxs H Q=>∃p ys,xs=[.ref p]/\(SqL K H p ys\/SqT K H p ys)/\∀l,H l=none->Q (.ref l) (upd H l (.lst ys))
def Oz(α:Type)[Rep α][DecidableEq α](K:RM):R2:=λx y H Q=>∃as bs:List α,At K H x as/\At K H y bs/\Q (.bl (decide (as=bs))) H
def NL(α:Type)[Rep α][DecidableEq α](K:RM):R2:=λx y H Q=>∃as bs:List α,At K H x as/\At K H y bs/\Q (.bl (!decide (as=bs))) H
section
variable {x:V}{α:Type}[Rep α]{l:List α}
theorem cS(h:At K H v l)(q:Q (.int (l.length:Int)) H):Jl K [v] H Q:=by
 obtain⟨p,xs,rfl,hS,e⟩:=h.len;exact⟨p,xs,rfl,.inl hS,by rw[e];exact q⟩
theorem K4[DecidableEq α]{as bs:List α}(ha:At K H x as)(hb:At K H y bs)(q:Q (.bl (decide (as=bs))) H):Oz α K x y H Q:=⟨as,bs,ha,hb,q⟩
theorem FO[DecidableEq α]{as bs:List α}(ha:At K H x as)(hb:At K H y bs)(q:Q (.bl (!decide (as=bs))) H):NL α K x y H Q:=⟨as,bs,ha,hb,q⟩
end
section
variable {X:Cx}(K:RM)(hK:X.K=K){e l o value:Expr}{ta tv tl:TE}{f:Str}{pos pos':Pos}
include hK
theorem Jz:IxR X (mG K):=by subst hK;exact MA
theorem cP:IxR X (Kg K):=by subst hK;exact NV
theorem LU(he:PE X e ta)(hb:attributeBase e f X.env (eval e X.env)=eval e X.env):PE X (.Attribute e f pos) (FI K ta f):=by subst hK;exact Oh he hb
theorem cB(ha:PE X o ta)(hv:PE X value tv)(hs:swapsWith value (some (.Attribute o f pos')) pos.line X.env=pure false):PS X (.Assign [.Attribute o f pos'] value pos) (IW K ta tv f):=by subst hK;exact OO ha hv hs
theorem JQ{tg:Expr}(hl:PE X l tl):PI X tg l (zH K tl):=by subst hK;exact L8 hl
theorem Ir:SlR X (IA K):=by subst hK;exact L6
theorem HD:cR X (.builtin "len") (Jl K):=by subst hK;exact Bv
theorem fC:cR X (.type "list") (zG K):=by subst hK;exact Bd
theorem DU(α:Type)[Rep α][DecidableEq α][bf α](hu:X.A.units+64<cLine)(hd:bf.depth α<=32:=by decide) :
  OpR X (compareOp .Eq) (Oz α K):=by subst hK;exact NU α hu hd
theorem wD(α:Type)[Rep α][DecidableEq α][bf α](hu:X.A.units+64<cLine)(hd:bf.depth α<=32:=by decide) :
  OpR X (compareOp .NotEq) (NL α K):=by subst hK;exact OF α hu hd
theorem MK{T id:String}{name:Str}{r:ZU}{to:TE}{t:TA}{e:Expr}{es:Z9}{apos d5:Pos}(pa:YS T)(slot:Slot T name id)(hty:typeOf (.builtin id)=pure (.type "method_descriptor"))(hm:MtR X id r)(ho:PE X o to)(ha:PA X (e :: es) t)
  (Y':attributeBase o name X.env (eval o X.env)=eval o X.env:=by rfl)
  (hfew:((backTo d5 (Ta (e :: es) X.env)).all (λx=>!x.1) && (backToKw d5 (keywordEach [] X.env)).all (λx=>x.1.isSome)
   && decide ((e :: es).length+([]:List Yv).length+(if ([]:List Yv).isEmpty then 0 else 1)<30))=true:=by rfl)
  (Z':(apos.endLine == d5.line)=true:=by rfl) (hs:Ta (e :: es) X.env=(false,eval e X.env) :: Ta es X.env:=by rfl) (hplain:(backTo d5 (Ta es X.env)).any (·.1)=false:=by rfl) :
  PE X (.Call (.Attribute o name apos) (e :: es) [] d5) (tBM K T r to t):=by subst hK;exact P2 pa slot hty hm ho ha Y' hfew Z' hs hplain
theorem Lf{T id:String}{name:Str}{r:ZU}{to:TE}{apos d5:Pos}(pa:YS T)(slot:Slot T name id)(hty:typeOf (.builtin id)=pure (.type "method_descriptor"))(hm:MtR X id r)(ho:PE X o to)
  (Y':attributeBase o name X.env (eval o X.env)=eval o X.env:=by rfl) (Z':(apos.endLine == d5.line)=true:=by rfl):PE X (.Call (.Attribute o name apos) [] [] d5) (J5 K T r to):=by subst hK;exact M4 pa slot hty hm ho Y' Z'
end
section
variable {s:RV}{h':Heap}{t':Nat}{o:HO}
theorem Inv.Hr(I:Inv X dh σ H s)(hf:∀b∈fp,nJ X dh H b)(k:∀b ob,b∉fp->s.heap.get? b=some ob->h'.get? b=some ob)(hp:s.heap.objs.size<=p)(new:cu X.prog X.w (upd H p o) h' p o) :
  Inv X dh σ (upd H p o) { s with heap:=h',toks:=t' }:=by
 have hn:=I.hok.fresh hp;have lt:∀ {b:Addr} {ob:Obj},s.heap.get? b=some ob->b≠p:=λe=>Sa (Su (R7 e) hp);have nofp:∀b u,H b=some u->b∉fp:=λb u e hb=>by rw[(hf b hb).1]at e;cases e
 refine I.step (g':=s.gens) (d':=s.drawn) (ch:=fp) (λb hb=>let ⟨_,f1,_,f3,f4,f5⟩:=hf b hb;⟨f3,f1,f4,f5⟩) (λb ob _ _ hc e _=>k b ob hc e) (λb ob _ _ hc e _=>⟨ob.slots,k b ob hc e⟩)
  (λb ob _ e n=>by rw[ak (lt e)];exact n) (λb ob hc e=>⟨ob,k b ob hc e⟩) (λb xs e=>by rw[ak (au e hn)];exact e) (λb ob u e=>by rw[ak (au e hn)];exact e)
  (λb ps e=>⟨#[],by rw[ak (au e hn),e];simp⟩) (λm hm=>?_) (λb u e=>?_) I.bare
 .obtain⟨ob,es,ep,e,r⟩:=hm;exact⟨ob,es,ep,k _ ob (λhb=>(hf _ hb).2.1 rfl) e,r⟩
 .by_cases hb:b=p
  .subst hb;rw[aj]at e;cases e;exact new
  .rw[ak hb]at e;refine(I.hok b u e).tW (λc v hc q=>k c v ?_ q) (λc q=>by rw[ak (au q hn)];exact q) λc xs q=>by rw[ak (au q hn)];exact q
   rcases hc with z|z
   .rw[z];exact nofp b u e
   .exact nofp c _ z
end
def Ite(K:RM)(a:Addr):It :=
 ⟨λi H=>∃xs x,SqL K H a xs/\xs[i]?=some x,λi H v H'=>∃p x,v=.ref p/\H p=none/\H'=upd H p (.tup [.int i,x])/\∀xs,SqL K H a xs->xs[i]?=some x,λi H=>∃xs,SqL K H a xs/\xs.length<=i⟩
theorem Gm{P:Sj}{w:World}(a e it:Addr)(hei:e≠it) :
  Turn P w K (.Tuple es kk tpos) (Ite K a) [e,it] e (λi h=>(∃old,IsEnum h e it i old)/\h.IsListIter it a i) where
 mem:=by simp
 obj:=λi h st b hb=>by
  obtain⟨⟨old,he⟩,o,e1,c,d⟩:=st;rcases Sf.mp hb with z|hb
  .rw[z];exact⟨_,he,λv z=>by
    have z':Data.fields _=Data.cell v:=z;cases z'⟩
  .rw[RX.mp hb];exact⟨o,e1,λv z=>by rw[d]at z;cases z⟩
 keep:=λi h h' st k=>⟨let ⟨old,he⟩:=st.1;⟨old,k e (by simp) _ he⟩,st.2.at λo e=>k it (by simp) o e⟩
 item:=by
  f_tup;obtain⟨xs,x,hq,hx⟩:=hg;obtain⟨ZV,rv,p,hz⟩:=I.list hq;obtain⟨u,hu,ru⟩:=rv.get hx;obtain⟨⟨old,he⟩,hit⟩:=st;refine wpAny_pyNext_enum_item he hit p.isList (x:=u) (by simpa using hu) hei λh' ho O! hT hsz hk=>?_
  refine⟨_,rfl,?_⟩;have I1:Inv X dh σ (upd H s.heap.objs.size (.tup [.int i,x])) { s with heap:=h',toks:=s.toks+1 } :=
   I.Hr hf (λb ob hb q=>hk b ob (λz=>hb (by simp[z])) (λz=>hb (by simp[z])) q) (R6 _) ⟨by show 2<=SG;decide,[.int i s.toks,u],.cons ⟨_,rfl⟩ (.cons ru .nil),⟨_,hT,rfl,_,rfl⟩⟩
  have fE:=hf e (by simp)
  have ZW:e<s.heap.objs.size:=R7 he;have hlt2:it<s.heap.objs.size:=by obtain⟨_,z,_⟩:=hit;exact R7 z
  refine wpAny_letOwnedTupleGo_enum ho λh2 he2 r!=>?_;have nE:(upd H s.heap.objs.size (.tup [.int i,x])) e=none:=by rw[ak (Sa ZW)];exact fE.1
  refine⟨.ref s.heap.objs.size,_,I1.turned (t':=s.toks+1) (λb ob hb q=>(r!.2 b hb).trans q) nE fE.2.1 fE.2.2.2.1 fE.2.2.2.2.1 fE.2.2.2.2.2,rfl,⟨_,x,rfl,I.hok.fresh (R6 _),rfl,λys hy=>by rw[I.pQ hy hq];exact hx⟩,?_,λb hb=>?_⟩
  .refine⟨⟨u,?_⟩,O!.at λo q=>(r!.2 it (UA hei)).trans q⟩;have e1:((i+1:Nat):Int)=(i:Int)+1:=by lia
   rw[e1];exact he2
  .have A':b<s.heap.objs.size:=by
    rcases Sf.mp hb with z|hb
    .rw[z];exact ZW
    .rw[RX.mp hb];exact hlt2
   rw[ak (Sa A')];exact(hf b hb).1
 done:=by
  f_tup;obtain⟨xs,hq,hx⟩:=hg;obtain⟨ZV,rv,p,hz⟩:=I.list hq;obtain⟨⟨old,he⟩,hit⟩:=st;have hl:=rv.length;k_exc
  exact wpAny_pyNext_enum_end (I.ok.hd hc) he hit p.isList (by simp;lia) λh' eb=>⟨rfl,I.turned (t':=s.toks) (λb o hb e=>eb b o hb e) f0 f1 f3 f4 f5⟩
 self:=λ_ _ _ _ _ st h=>by
  obtain⟨⟨old,he⟩,_⟩:=st;exact wpAny_pyIter_enum he h
def vW(K:RM)(vs:Z7)(H:Hp)(R:It->Hp->Prop):Prop:=∃a xs,vs=[.ref a]/\SqL K H a xs/\R (Ite K a) H
def EU(K:RM)(ta:TA):TI:=λσ H R=>ta σ H λvs H1=>vW K vs H1 R
theorem Jx(K:RM)(hK:X.K=K){p:Pos}(hg:Gl X "enumerate")(hm:X.mg "enumerate" = none)(ha:PA X [a] ta)(hs:Ta [a] X.env=[(false,eval a X.env)]:=by rfl) :
  PI X (.Tuple tgs kk tpos) (.Call (.Name "enumerate" p) [a] [] pos) (EU K ta):=by
 subst hK;intro dh s σ H R I h;refine Call_ (gU I hg hm boot_enumerate (Ts (thn (ha pos dh s σ H _ I h) λus s1 ⟨vs,H1,I1,r1,q1⟩=>?_) hs rfl));obtain⟨l,xs,e,hS,q⟩:=q1;subst e;cases r1 with
 | cons r rr =>
  cases rr;cases(show _=SR l from r);obtain⟨ZV,rv,pl,hz⟩:=I1.list hS;refine call_enumerate_list pl.isList λh' he hit hsz hk=>?_;refine wpAny_pyIter_enum he ?_;have I2:Inv X dh σ H1 { s1 with heap:=h' }:=I1.kept (t':=s1.toks) hk;refine⟨s1.heap.objs.size+1,[s1.heap.objs.size+1,s1.heap.objs.size],_,_,H1,rfl,I2,Gm l _ _ (Nat.succ_ne_self _),⟨⟨.none,he⟩,hit⟩,λb hb=>?_,q⟩;rcases Sf.mp hb with z|hb
  .rw[z];exact I1.xk (T2 _) (I1.hok.fresh (T2 _))
  .rw[RX.mp hb];walk_at "138"
def Ec:V->List V->Hp->VK->Prop:=λx vs H Q=>∃ (l:Addr) (xs:Z7) (k:Int) (y:V),x=.ref l/\vs=[.int k,y]/\H l=some (.lst xs)/\0<=k/\k.toNat<=xs.length/\xs.length<1000000/\Q .non (upd H l (.lst (xs.take k.toNat++y :: xs.drop k.toNat)))
theorem Fu(ZV:Z8)(u2:Value)(k:Int)(h0:0<=k)(hi:k.toNat<=ZV.length) :
  (λxs:ZO=>(xs.extract 0 (if k<0 then (k+(xs.size:Int)).toNat else min k.toNat xs.size)).push u2++xs.extract (if k<0 then (k+(xs.size:Int)).toNat else min k.toNat xs.size)) ZV.toArray=(ZV.take k.toNat++u2 :: ZV.drop k.toNat).toArray:=by
 have h1:¬ (k<0):=by lia
 have hm:min k.toNat ZV.toArray.size=k.toNat:=by rw[Se];lia
 o_src;rw[if_neg h1,hm];simp;exact Sn (by simp)
theorem Hk :MtM X "list.insert" Ec:=by
 walk_at "131";obtain⟨l,xs,k,y,rfl,rfl,hH,h0,hi,hl,q⟩:=h;cases rx;obtain⟨u1,u2,rfl,r1,r2⟩:=rv.two;obtain⟨t,rfl⟩:=(show ∃t,u1=U5 k t from r1);obtain⟨z,ZV,n,r,hl',e⟩:=I.p8 hH;have hz2:ZV.toArray.size<=SG:=by
  have e1:ZV.toArray.size=ZV.length:=Se ..;lia
 have hfit:¬ (!Builtin.List.listFitsIndex k)=true:=by
  unfold Builtin.List.listFitsIndex;simp;lia
 have M3:=AutoSeq1.list_insert_list_int_val_1 l ZV.toArray n k t u2 hfit hz2;refine V5 F.slot_list_insert ⟨_,e,rfl⟩ F.entry_list_insert (F.args_list_insert_3 _ _ _) M3 ⟨e,?_⟩;have hv:Vals (xs.take k.toNat++y :: xs.drop k.toNat) (ZV.take k.toNat++u2 :: ZV.drop k.toNat):=(Vals.take k.toNat r).append (.cons r2 (Vals.drop k.toNat r));refine⟨.non,_,I.FL (its':=ZV.take k.toNat++u2 :: ZV.drop k.toNat) hH e (Fu ZV u2 k h0 (by lia)) hv ?_,rfl,q⟩
 rw[R8,SU,Sd,X9,SH];lia
def GX:List V->Hp->VK->Prop:=λxs H Q=>∃j:Int,xs=[.int j]/\∀p,H p=none->Q (.ref p) (upd H p (.rng 0 j))
theorem nN :cR X (.type "range") GX:=by
 k_all;obtain⟨j,rfl,q⟩:=h;obtain⟨u,rfl,ru⟩:=vals1 r;obtain⟨t,rfl⟩:=(show ∃t,u=U5 j t from ru);refine call_range_1 ?_;refine⟨.ref s.heap.objs.size,_,I.laid (λb u e=>RW _ e) (R6 _) ?_,rfl,q _ (I.hok.fresh (R6 _))⟩;exact⟨_,_,_,Si _ rfl⟩
def uH:List V->Hp->VK->Prop:=λxs H Q=>∃ (p:Addr) (n:Nat),xs=[.ref p]/\H p=some (.rng 0 (n:Int))/\n<=1000000/\∀l,H l=none->Q (.ref l) (upd H l (.lst ((RS n).map λ(i:Nat)=>V.int i)))
theorem tE:∀ {xs:Z7} {us:Z8},xs.length=us.length->(∀ (i:Nat) (x:V) (u:Value),xs[i]?=some x->us[i]?=some u->RelV x u)->Vals xs us
 | [],[],_,_=>.nil
 | [],_ :: _,h,_=>by cases h
 | _ :: _,[],h,_=>by cases h
 | x :: xs,u :: us,h,g=>.cons (g 0 x u rfl rfl) (tE (by simpa using h) λi y v hy hv=>g (i+1) y v (by simpa using hy) (by simpa using hv))
theorem Gp(h:n<=1000000):n<=SG:=by rw[SH];lia
theorem jJ(hc:X.calm=true):cR X (.type "list") uH:=by
 k_all;obtain⟨p,n,rfl,hp,hn,q⟩:=h;obtain⟨u,rfl,ru⟩:=vals1 r;cases(show u=SR p from ru);obtain⟨t1,t2,t3,hr⟩:=(show cu X.prog X.w H s.heap p (.rng 0 (n:Int)) from I.hok p _ hp);have hs:X0 0 (n:Int) 1=n:=by rw[rangeSize_one];split <;> lia
 refine call_list_range (n:=n) (I.ok.hd hc) hr (small_one (by lia) (by lia) (by lia) (by lia)) (by exact_mod_cast hs) (by lia) λh' tk acc c' hk hS l!=>?_
 refine⟨.ref s.heap.objs.size,_,I.laid hk (R6 _) ?_,rfl,q _ (I.hok.fresh (R6 _))⟩;obtain⟨ha1,ha2⟩:=l!;have hl:((RS n).map λ(i:Nat)=>V.int i).length=acc.toList.length:=by simp;exact ha1.symm
 refine⟨by simp;exact Gp hn,acc.toList,c',tE hl λi x u hx hu=>?_,by simpa using hS⟩
 have hi:i<n:=by
  have:=(RN.mp hx).1
  simpa using this
 obtain⟨t,e⟩:=ha2 i u (by simpa using hu)
 have ex:x=V.int i:=by
  rw[RY,TU hi]at hx;exact(SI hx).symm
 rw[ex];exact⟨t,by simpa using e⟩
section
variable {t:TS}{ta tb:TE}{w x:V}{a:Int}
theorem wq{n:Int}(q:∀p,H p=none->Q (.ref p) (upd H p (.rng 0 n))):GX [.int n] H Q:=⟨n,rfl,q⟩
theorem dG{l:AT}:Tb (Rep.is K H) (l.map λ(n:Nat)=>V.int n) l:=by
 have q:=Paired.of_map (F:=λ(v:V) (a:Nat)=>v=.int a) (f:=λ(n:Nat)=>V.int n) (g:=id) (λ_=>rfl) l;rw[WX]at q;exact q
theorem nQ(hp:H p=some (.rng 0 (n:Int)))(hn:n<=1000000)(q:∀l H',H l=none->ag H H'->Gr K H' l (RS n)->Q (.ref l) H'):uH [.ref p] H Q :=
 ⟨p,n,rfl,hp,hn,λl hl=>q l _ hl (ar hl _) ⟨_,aj,dG⟩⟩
theorem oG{xs:Z7}(hp:H p=some (.lst xs))(e:a=(j:Int))(hj:j<xs.length)(q:QH (upd H p (.lst (xs.set j v)))):K2 (.ref p) (.int a) v H QH:=by
 subst e;refine⟨p,xs,_,j,rfl,rfl,hp,?_,q⟩;unfold ixN;rw[if_pos (by lia),if_pos (by lia)]
 rfl
def isP(vs:Z7)(H:Hp)(k:V->V->Hp->Prop):Prop:=∃v w,vs=[v,w]/\k v w H
theorem O7(h:tA σ H λvs H1=>isP vs H1 λv w H1=>D.nx ((σ.set i (some v)).set j (some w)) H1):NZ i j tA D σ H:=h
theorem MS{k:V->V->Hp->Prop}(h:k x y H):isP [x,y] H k:=⟨x,y,rfl,h⟩
theorem iG{α:Type}[Rep α]{l:List α}{ia ib:Nat}(h:At K H₀ v l)(Pv:ZT)(h0:Pv 0 σ H)(hl:∀i σ' H',Pv i σ' H'->ag H₀ H')
  (hs:∀i c w σ' H' V' p,l[i]?=some c->At K H₀ w c->Pv i σ' H'->H' p=none->V'=upd H' p (.tup [.int i,w])->ag H' V'->t { D with nx:=Pv (i+1),ct:=Pv (i+1),bk:=D.nx } ((σ'.set ia (some (.int i))).set ib (some w)) V')
  (hd:∀σ' H',Pv l.length σ' H'->D.nx σ' H'):vW K [v] H (eJ (BU K 2 (iU (dZ ia) (iU (dZ ib) xf))) t D σ):=by
 k_get;have hlen:=hP.length;refine⟨p,xs,rfl,(hl 0 σ H h0).seq hS,λi m σ' H'=>m=xs.length - i/\i<=xs.length/\Pv i σ' H',⟨xs.length,by simp,SO _,h0⟩,?_⟩
 rintro i m σ' H' ⟨rfl,hi,p0⟩;have q:=(hl i σ' H' p0).seq hS
 by_cases ZW:i<xs.length
 .refine .inr ⟨⟨xs,xs[i],q,by simp[ZW]⟩,Pv (i+1),λσ2 H2 p'=>⟨xs.length - (i+1),by lia,rfl,ZW,p'⟩,λz H2 yl=>?_⟩
  obtain⟨d,w,rfl,ZZ,rfl,hw⟩:=yl;have hx:=hw xs q;obtain⟨c,hc,r⟩:=Paired.getL hP hx;refine⟨d,[.int i,w],rfl,SqT.of aj,rfl,⟨_,_,rfl,⟨_,_,rfl,⟨rfl,?_⟩⟩⟩⟩;exact hs i c w σ' H' _ d hc r p0 ZZ rfl (ar ZZ _)
 .have e:i=xs.length:=by lia
  subst e;exact .inl ⟨⟨xs,q,R6 _⟩,hd σ' H' (by rw[hlen]at p0;exact p0)⟩
end
def aw(r:AT):Z7:=r.map λ(n:Nat)=>V.int n
structure Tbl(H:Hp)(d:Addr)(rows:AC)(ps:ZL):Prop where
 top:H d=some (.lst (ps.map V.ref))
 nd:ps.Nodup
 ap:d∉ps
 len:ps.length=rows.length
 row:∀ (i:Nat) (p:Addr) (r:AT),ps[i]?=some p->rows[i]?=some r->H p=some (.lst (aw r))
theorem Tbl.mono(s:ag H H')(h:Tbl H d rows ps):Tbl H' d rows ps:=⟨s _ _ h.top,h.nd,h.ap,h.len,λi p r e1 e2=>s _ _ (h.row i p r e1 e2)⟩
theorem qv{α β:Type}{F:α->β->Prop}:∀ {xs:List α} {ys:List β},xs.length=ys.length->(∀ (i:Nat) (x:α) (y:β),xs[i]?=some x->ys[i]?=some y->F x y)->Tb F xs ys
 | [],[],_,_=>.nil
 | [],_ :: _,h,_=>by cases h
 | _ :: _,[],h,_=>by cases h
 | x :: xs,y :: ys,h,g=>.cons (g 0 x y rfl rfl) (qv (by simpa using h) λi u v hu hv=>g (i+1) u v (by simpa using hu) (by simpa using hv))
theorem Tbl.at(h:Tbl H d rows ps):At K H (.ref d) rows:=by
 refine⟨d,_,rfl,SqL.of h.top,qv (by rw[RP,h.len]) λi x r hx hr=>?_⟩
 rw[RY]at hx;cases e:ps[i]? with
 | none=>rw[e]at hx;cases hx
 | some p =>
  rw[e]at hx;have z!:x=V.ref p:=(SI hx).symm;rw[z!];exact⟨p,_,rfl,SqL.of (h.row i p r e hr),dG⟩
theorem Tbl.get(h:Tbl H d rows ps){r:AT}(e:rows[i]?=some r):∃p,ps[i]?=some p/\H p=some (.lst (aw r)):=by
 have hi:i<ps.length:=by rw[h.len];exact(RN.mp e).1
 exact⟨ps[i],by simp[hi],h.row i _ r (by simp[hi]) e⟩
theorem Tbl.set(h:Tbl H d rows ps){r:AT}(e:rows[i]?=some r)(hp:ps[i]?=some p):Tbl (upd H p (.lst ((aw r).set j (.int n)))) d (rows.set i (r.set j n)) ps:=by
 have hi:i<ps.length:=(RN.mp hp).1;have mem:p∈ps:=RQ hp;refine⟨by rw[ak (λz=>h.ap (by rw[z];exact mem))];exact h.top,h.nd,h.ap,by rw[VJ];exact h.len,λk q r' hq hr=>?_⟩
 by_cases hk:k=i
 .subst hk;rw[hp]at hq;cases hq;rw[UB (by rw[<- h.len];exact hi)]at hr
  cases hr;rw[aj];unfold aw;rw[Xl]
 .rw[UO (UA hk)]at hr;have B':q≠p:=λz=>hk (by
   subst z;have h1:=(RN.mp hq);have h2:=(RN.mp hp);exact(WJ h.nd).mp (h1.2.trans h2.2.symm))
  rw[ak B'];exact h.row k q r' hq hr
theorem pe(h:At K H v rows)(hz:rows.length<=100000)(fin:∀d H' ps,ag H H'->H d=none->(∀p∈ps,H p=none)->Tbl H' d rows ps->Q (.ref d) H') :
  gL K v H (fj [x] [] (dZ 0) Jm (tCB (zG K) (iX (FW 0) nF)) σ Q):=by
 k_get;have hl:=hP.length;refine⟨p,rfl,⟨xs,hS⟩,λd hd=>?_⟩;refine⟨λi m σ' H'=>m=xs.length - i/\i<=xs.length/\(∃y,σ'=[y])/\ag H H'/\∃ps,(∀p∈ps,H p=none)/\Tbl H' d (rows.take i) ps,⟨xs.length,rfl,SO _,⟨_,rfl⟩,ar hd _,[],by simp,⟨aj,VX,by simp,by simp,λi p r e _=>by simp at e⟩⟩,?_⟩
 rintro i m σ' H' ⟨rfl,hi,⟨y,rfl⟩,hs,ps,hps,T⟩
 by_cases ZW:i<xs.length
 .refine .inr ⟨⟨xs,xs[i],hs.seq hS,by simp[ZW]⟩,λz H2 yl=>?_⟩
  obtain⟨rfl,hz'⟩:=yl;have hx:=hz' xs (hs.seq hS);obtain⟨c,hc,r⟩:=Paired.getL hP hx;obtain⟨q,e,hq⟩:=lN (Rep.mono hs r);subst e;have tl:=T.len;have hci:i<rows.length:=(RN.mp hc).1;rw[Sd,Nat.min_eq_left (by lia)]at tl
  refine F9 ?_;refine KL ?_;refine uq ?_;refine⟨_,rfl,q,_,rfl,.inl hq,λl hl'=>?_⟩;have nld:l≠d:=λe=>by rw[e,T.top]at hl';cases hl'
  have hHl:H l=none:=hs.free hl';refine⟨_,(by rw[ak nld.symm];exact T.top),?_,xs.length - (i+1),by lia,rfl,ZW,⟨_,rfl⟩,λb o eb=>?_,ps++[l],λp' hp'=>?_,?_⟩
  .rw[RP,tl,SH];lia
  .rw[ak (au eb hd),ak (au eb hHl)];exact hs b o eb
  .rcases R5.mp hp' with z|z
   .exact hps p' z
   .rw[RX.mp z];exact hHl
  .have nlp:l∉ps:=λz=>by
    obtain⟨k,hk⟩:=Sk z;have g!:k<i:=by have:=(RN.mp hk).1;lia
    have hr:(rows.take i)[k]?=some (rows[k]'(by lia)):=by rw[Th g!];simp
    have z1:=T.row k l _ hk hr;rw[z1]at hl';cases hl'
   refine⟨by rw[aj,SQ];rfl,?_,?_,?_,λk p' r' hk hr=>?_⟩
   .rw[Vh];exact⟨T.nd,by simp,λa ha b hb=>by rw[RX.mp hb];exact λz=>nlp (z ▸ ha)⟩
   .intro z;rcases R5.mp z with z|z
    .exact T.ap z
    .exact nld (RX.mp z).symm
   .rw[R8,Sd,Nat.min_eq_left (by lia)];simp;lia
   .have nd':p'≠d:=λz=>by
     rw[z]at hk;rcases R5.mp (RQ hk) with z' | z'
     .exact T.ap z'
     .exact nld (RX.mp z').symm
    rw[ak nd']
    by_cases hki:k<i
    .rw[Sz (by lia)]at hk
     have hr2:(rows.take i)[k]?=some r':=by
      rw[Th (by lia)]at hr ⊢;exact hr
     have np:p'≠l:=λz=>nlp (by rw[<- z];exact RQ hk)
     rw[ak np];exact T.row k p' r' hk hr2
    .have hk2:k<i+1:=by
      have:=(RN.mp hr).1;rw[Sd]at this;lia
     have ek:k=i:=by lia
     subst ek;rw[SE (by lia),tl,Zs]at hk
     have e1:l=p':=by simpa using hk
     subst e1;rw[Th (by lia),hc]at hr
     cases hr;rw[aj];unfold aw;rfl
 .have e:i=xs.length:=by lia
  subst e;refine .inl ⟨⟨xs,hs.seq hS,R6 _⟩,?_⟩;rw[hl,SV]at T;exact fin d H' ps hs hd hps T
def Wr(K:RM){α:Type}[Rep α](t:TE)(a:α):Prop:=∀σ H Q,(∀v H',ag H H'->At K H' v a->Q v H')->t σ H Q
def WrA(K:RM){α:Type}[Rep α](t:TA)(l:List α):Prop:=∀σ H Q,(∀vs H',ag H H'->Tb (Rep.is K H') vs l->Q vs H')->t σ H Q
section
variable {α:Type}[Rep α]{t:TE}{a:α}{l:List α}
theorem HN{i:Int}(e:i=(n:Int)):Wr K (tC (.int i)) n:=λ_ H _ q=>q _ H (ag.refl _) (by rw[e];rfl)
theorem jj:WrA K nF ([]:List α):=λ_ H _ q=>q [] H (ag.refl _) .nil
theorem wz(h:Wr K t a)(hr:WrA K tA l):WrA K (iX t tA) (a :: l):=λσ H Q q=>h σ H _ λv H1 s1 a1=>hr σ H1 _ λvs H2 s2 a2=>q _ H2 (s1.trans s2) (.cons (Rep.mono s2 a1) a2)
theorem Gv(h:WrA K tA l)(hz:l.length<=1000):Wr K (Bo tA) l:=λσ H Q q=>h σ H _ λvs H1 s1 a1=>⟨by have:=a1.length;exact small (by lia),λp hp=>q _ _ (s1.trans (ar hp _)) ⟨p,vs,rfl,SqL.of aj,Paired.bK a1 λ_ _ z=>Rep.mono (ar hp _) z⟩⟩
end
theorem Pf{α:Type}[Rep α]{x:V}{l r:List α}(hx:∃p xs,x=.ref p/\H p=some (.lst xs)/\Tb (Rep.is K H) xs l)(hy:∃p xs,y=.ref p/\H p=some (.lst xs)/\Tb (Rep.is K H) xs r)(hz:l.length+r.length<=100000)
  (q:∀d H',H d=none->ag H H'->At K H' (.ref d) (l++r)->Q (.ref d) H'):JM x y H Q:=by
 obtain⟨p,xs,rfl,h1,r1⟩:=hx;obtain⟨p',ys,rfl,h2,r2⟩:=hy;have e1:=r1.length;have e2:=r2.length;refine⟨p,p',xs,ys,rfl,rfl,h1,h2,by rw[SH];lia,λd hd=>q d _ hd (ar hd _) ⟨d,_,rfl,SqL.of aj,Paired.app (Paired.bK r1 λ_ _ z=>Rep.mono (ar hd _) z) (Paired.bK r2 λ_ _ z=>Rep.mono (ar hd _) z)⟩⟩
def isStar:Expr->Bool
 | .Starred ..=>true
 | _=>false
theorem bg(h:isStar e=false):Ta (e :: es) env=(false,eval e env) :: Ta es env:=by
 cases e <;> first|rfl|cases h
theorem cM{env:Env}{pos:Pos}:∀ {es:Z9},es.all (λe=>!isStar e)=true->(backTo pos (Ta es env)).any (·.1)=false
 | [],_=>rfl
 | e :: es,h=>by
  rw[X1,Uj]at h;rw[bg (by simpa using h.1)]
  have ih:=cM (env:=env) (pos:=pos) h.2;show (backTo pos ((false,eval e env) :: Ta es env)).any (·.1)=false;unfold backTo at ih ⊢
  simpa using ih
theorem JS(h:es.all (λe=>!isStar e)=true)(hl:es.length<30):((backTo pos (Ta es env)).all (λx=>!x.1) && (backToKw pos (keywordEach [] env)).all (λx=>x.1.isSome)
   && decide (es.length+([]:List Yv).length+(if ([]:List Yv).isEmpty then 0 else 1)<30))=true:=by
 have h1:=cM (env:=env) (pos:=pos) h;have h2:(backTo pos (Ta es env)).all (λx=>!x.1)=true:=by
  rw[Ws]at h1;rw[SF];intro x hx;have:=h1 x hx
  simpa using this
 rw[h2];show (true && true && decide (es.length+0+0<30))=true
 simpa using hl
section
variable {o:Expr}{te:TE}{st:Stmt}{ps:ZN}{p:Pos}
theorem paF(ha:PE X e te)(hr:PA X es t)(hn:isStar e=false:=by rfl):PA X (e :: es) (iX te t):=xi ha hr (bg hn)
theorem Nr(d:Df X.K X.mg x st ps)(G:aE X.prog X.w X.K X.mg X.base CX0 k d.f d.fd ps sp)(hr:bP k X.A)(hg:Gl X x)(ha:PA X (e :: es) t)(hn:isStar e=false:=by rfl)(f':es.all (λe=>!isStar e)=true:=by rfl)(t!:(x == ("__debug__" : Str))=false:=by decide) :
  PE X (.Call (.Name x p) (e :: es) [] pos) (pU sp [] E0 t):=Pq d G hr hg ha t! (bg hn) (cM f')
theorem cO{id:String}{r:List V->Hp->VK->Prop}(hc:cR X (.builtin id) r)(hg:Gl X x)(hm:X.mg x=none)(hv:bootBuiltins x=some (.builtin id))(ha:PA X (e :: es) t)(hn':isStar e=false:=by rfl)(f':es.all (λe=>!isStar e)=true:=by rfl)(hn:x ≠ "__name__":=by decide)(t!:(x == ("__debug__" : Str))=false:=by decide) :
  PE X (.Call (.Name x p) (e :: es) [] pos) (tCB r t):=Jf hc hg hm hv ha hn t! (bg hn') (cM f')
theorem bS{r:List V->Hp->VK->Prop}(hc:cR X (.type T) r)(hg:Gl X x)(hm:X.mg x=none)(hv:bootBuiltins x=some (.type T))(ha:PA X (e :: es) t)(hn':isStar e=false:=by rfl)(f':es.all (λe=>!isStar e)=true:=by rfl)(hn:x ≠ "__name__":=by decide)(t!:(x == ("__debug__" : Str))=false:=by decide) :
  PE X (.Call (.Name x p) (e :: es) [] pos) (tCB r t):=Gs hc hg hm hv ha hn t! (bg hn') (cM f')
theorem rm(K:RM)(hK:X.K=K){id:String}{to:TE}(pa:YS T)(slot:Slot T name id)(hty:typeOf (.builtin id)=pure (.type "method_descriptor"))(hm:MtR X id r)(ho:PE X o to)(ha:PA X (e :: es) t)
  (Y':attributeBase o name X.env (eval o X.env)=eval o X.env:=by rfl) (hn:isStar e=false:=by rfl) (f':es.all (λe=>!isStar e)=true:=by rfl) (hl:(e :: es).length<30:=by decide) (Z':(apos.endLine == d5.line)=true:=by rfl) :
  PE X (.Call (.Attribute o name apos) (e :: es) [] d5) (tBM K T r to t) :=
 MK K hK pa slot hty hm ho ha Y' (JS (by rw[X1,hn,f'];rfl) hl) Z' (bg hn) (cM f')
theorem Fj(hg:Gl X "range")(hm:X.mg "range" = none)(ha:PA X [a] ta)(hn:isStar a=false:=by rfl):PI X tg (.Call (.Name "range" p) [a] [] pos) (zP ta):=Gz hg hm ha (bg hn)
theorem iy(K:RM)(hK:X.K=K)(hg:Gl X "enumerate")(hm:X.mg "enumerate" = none)(ha:PA X [a] ta)(hn:isStar a=false:=by rfl) :
  PI X (.Tuple tgs kk tpos) (.Call (.Name "enumerate" p) [a] [] pos) (EU K ta):=Jx K hK hg hm ha (bg hn)
end
section
variable {CX:CXT}{f C:Addr}{fd:TC}{ps:ZN}{E:XK}{p:Pos} 
theorem pY(M:Mk X.K C f)(F:aE X.prog X.w X.K X.mg X.base CX k f fd ps sp)(hr:bP (k+1) X.A)(hg:Gl X x)(hm:X.mg x=some (.ref C))(hb:Binds X.K fd ps ds)(hd:Vals dvs ds)(hx:Passes CX X E)
  (ha:PA X (e :: es) t) (hn:isStar e=false:=by rfl) (f':es.all (λe=>!isStar e)=true:=by rfl) (t!:(x == ("__debug__" : Str))=false:=by decide):PE X (.Call (.Name x p) (e :: es) [] pos) (Fg C sp dvs E t) :=
 LL M F hr hg hm hb hd hx ha t! (bg hn) (cM f')
end
section
variable {a b:Nat}
theorem Rp(h:Q (.int ((@OfNat.ofNat Nat n (instOfNatNat n):Nat):Int)) H):tC (.int (@OfNat.ofNat Int n instOfNat)) σ H Q:=h
theorem Nz(q:Q (.int ((a+b:Nat):Int)) H):rI0 (λi j=>.int (i+j)) (.int a) (.int b) H Q:=⟨a,b,rfl,rfl,by
 have e:(a:Int)+(b:Int)=((a+b:Nat):Int):=by lia
 dsimp only;rw[e];exact q⟩
theorem Ny(h:a<18446744073709551616\/b<18446744073709551616)(q:Q (.int ((a * b:Nat):Int)) H):rI ER (λi j=>.int (i * j)) (.int a) (.int b) H Q:=⟨a,b,rfl,rfl,by
 rcases h with h|h
 .exact .inl ⟨by lia,by lia⟩
 .exact .inr ⟨by lia,by lia⟩,by
 have e:(a:Int) * (b:Int)=((a * b:Nat):Int):=by push_cast;rfl
 dsimp only;rw[e];exact q⟩
theorem AM(h:0<b)(q:Q (.int ((a % b:Nat):Int)) H):rI (λ_ j=>0<j) (λi j=>.int (i % j)) (.int a) (.int b) H Q:=⟨a,b,rfl,rfl,by lia,by
 have e:(a:Int) % (b:Int)=((a % b:Nat):Int):=by push_cast;rfl
 dsimp only;rw[e];exact q⟩
theorem Ht(h:0<b)(h2:b<1073741824)(q:Q (.int ((a / b:Nat):Int)) H):rI OJ (λi j=>.int (i / j)) (.int a) (.int b) H Q:=⟨a,b,rfl,rfl,⟨by lia,by lia⟩,by
 have e:(a:Int) / (b:Int)=((a / b:Nat):Int):=by push_cast;rfl
 dsimp only;rw[e];exact q⟩
theorem jH{p q:Prop}[Decidable p][Decidable q](h:p↔q)(z:R (decide q)):R (decide p):=by
 rw[decide_eq_decide.mpr h];exact z
theorem Qm(q:Q (.bl (decide (a=b))) H):rEq (.int a) (.int b) H Q:=EV (jH (R:=λk=>Q (.bl k) H) (by lia) q)
theorem Qw(q:Q (.bl (!decide (a=b))) H):rNe (.int a) (.int b) H Q:=E7 (jH (R:=λk=>Q (.bl (!k)) H) (by lia) q)
theorem Qp(q:Q (.bl (decide (a<b))) H):rI0 (λi j=>.bl (decide (i<j))) (.int a) (.int b) H Q:=⟨a,b,rfl,rfl,jH (R:=λk=>Q (.bl k) H) (by lia) q⟩
theorem O1(q:Q (.bl (decide (a<=b))) H):rI0 (λi j=>.bl (decide (i<=j))) (.int a) (.int b) H Q:=⟨a,b,rfl,rfl,jH (R:=λk=>Q (.bl k) H) (by lia) q⟩
theorem Pm(q:Q (.bl (decide (b<a))) H):rI0 (λi j=>.bl (decide (j<i))) (.int a) (.int b) H Q:=⟨a,b,rfl,rfl,jH (R:=λk=>Q (.bl k) H) (by lia) q⟩
theorem P9(q:Q (.bl (decide (b<=a))) H):rI0 (λi j=>.bl (decide (j<=i))) (.int a) (.int b) H Q:=⟨a,b,rfl,rfl,jH (R:=λk=>Q (.bl k) H) (by lia) q⟩
theorem bw{l:AT}{c:Nat}(h:At K H v l)(hn:l[n]?=some c)(q:Q (.int c) H):mG K v (.int n) H Q:=ie h rfl hn q
end
section
variable {β:Type}[Rep β]{l:List β}{b:β} 
theorem Ii(h:Gr K H d l)(hk:k<=l.length)(hl:l.length<=100000)(hy:At K (del H d) y b)(q:∀H',Gr K H' d (l.take k++b :: l.drop k)->(∀a o,a≠d->H a=some o->H' a=some o)->Q .non H'):Ec (.ref d) [.int k,y] H Q:=by
 obtain⟨ys,h1,h2⟩:=h;have e:=h2.length;refine⟨d,ys,k,y,rfl,rfl,h1,by lia,by lia,by lia,?_⟩
 refine q _ ⟨_,aj,?_⟩ (λa o ha z=>by rw[ak ha];exact z)
 rw[TZ];exact Paired.app (Paired.FY k (Paired.bK h2 λ_ _ z=>Rep.mono eB z)) (.cons (Rep.mono eB hy) (Paired.FP k (Paired.bK h2 λ_ _ z=>Rep.mono eB z)))
end
theorem Qg(k:∀a o,a≠d->H a=some o->H' a=some o):ag (del H d) (del H' d):=λb o h=>by
 by_cases hb:b=d
 .o_new
 .rw[bM hb]at h ⊢;exact k b o hb h
theorem o6{l:AT}(h:Gr K H p l)(B':p≠d):At K (del H d) (.ref p) l:=by
 obtain⟨ys,hy,hP⟩:=h;refine⟨p,ys,rfl,SqL.of (by rw[bM B'];exact hy),?_⟩
 exact Paired.bK hP λ_ _ z=>z
theorem P8(h:Tbl H d rows ps)(hp:ps[i]?=some p)(q:Q (.ref p) H):mG K (.ref d) (.int i) H Q :=
 ⟨d,_,_,_,rfl,rfl,SqL.of h.top,eU (by rw[RY,hp];rfl),q⟩
theorem IT{α:Type}(l:List α):cut l (some 1) none=l.drop 1:=by
 unfold cut;have e:HT.sIx l.length 0 (some 1)=min 1 l.length:=HT.Mv l.length 0 1;rw[e,HT.Jb];cases l with
 | nil=>rfl
 | cons x r =>
  have:min 1 (x :: r).length=1:=by simp
  rw[this];exact Sn (by simp)
theorem Gr.copy{α:Type}[Rep α]{l:List α}(h:Gr K H d l):∃p xs,V.ref d=.ref p/\H p=some (.lst xs)/\Tb (Rep.is K H) xs l:=by
 obtain⟨ys,h1,h2⟩:=h;exact⟨d,ys,rfl,h1,Paired.bK h2 λ_ _ z=>Rep.mono dA z⟩
theorem ei{α:Type}[Rep α]{l:List α}(h:WrA K tA l)(hz:l.length<=1000)(q:∀d H',H d=none->ag H H'->Gr K H' d l->Q (.ref d) H'):Bo tA σ H Q :=
 h σ H _ λvs H1 s1 a1=>⟨by have:=a1.length;exact small (by lia),λp hp=>q p _ (s1.free hp) (s1.trans (ar hp _)) ⟨vs,aj,Paired.bK a1 λ_ _ z=>Rep.mono (λb o e=>by
  have hb:b≠p:=au e hp;rw[bM hb,ak hb];exact e) z⟩⟩
def since(H H':Hp):Hp:=λa=>match H a with
 | none=>H' a
 | some _=>none
section
variable {V':Hp}{a:Addr} 
theorem pA(h:H a=none):since H H' a=H' a:=by unfold since;rw[h]
theorem Io:ag (since H H') H':=λb o h=>by
 unfold since at h
 split at h
 .exact h
 .cases h
theorem Tbl.since(h:Tbl H' d rows ps)(fd:H d=none)(F!:∀p∈ps,H p=none):Tbl (since H H') d rows ps :=
 ⟨by rw[pA fd];exact h.top,h.nd,h.ap,h.len,λi p r e1 e2=>by rw[pA (F! p (RQ e1))];exact h.row i p r e1 e2⟩
end
theorem dQ{t:TS}{α:Type}[Rep α]{l:List α}(h:At K H₀ v l)(Pv:ZT)(h0:Pv 0 σ H)(hl:∀i σ' H',Pv i σ' H'->ag H₀ H')
  (hs:∀i c w σ' H',l[i]?=some c->At K H₀ w c->Pv i σ' H'->g w σ' H' λσ2 H2=>t { D with nx:=Pv (i+1),ct:=Pv (i+1),bk:=D.nx } σ2 H2) (hd:∀σ' H',Pv l.length σ' H'->D.nx σ' H') :
  gL K v H (eJ g t D σ):=by
 k_get;refine⟨p,rfl,⟨xs,(hl 0 σ H h0).seq hS⟩,o7 (K:=K) (a:=p) (xs:=xs) Pv h0 (λi σ' H' _ q=>(hl i σ' H' q).seq hS) (λi x σ' H' hx q=>?_) (λσ' H' q=>?_)⟩
 .obtain⟨c,hc,r⟩:=Paired.getL hP hx;exact hs i c x σ' H' hc r q
 .rw[hP.length]at q;exact hd σ' H' q
theorem fJ{c:TT}{t:TS}(W:ZT)(m:Nat)(h0:W m σ H)
  (hs:∀m σ' H',W m σ' H'->c σ' H' λb H1=>if b=true then ∃N:St->Hp->Prop,(∀σ2 H2,N σ2 H2->∃m',m' < m/\W m' σ2 H2)/\t { D with nx:=N,ct:=N,bk:=D.nx } σ' H1 else D.nx σ' H1):Hs c t D σ H:=⟨W,⟨m,h0⟩,hs⟩
def Jd(K:RM):List V->Hp->VK->Prop:=λxs H Q=>∃ (p:Addr) (bs:List Bool),xs=[.ref p]/\SqL K H p (bs.map V.bl)/\Q (.bl (bs.any id)) H
def Kj(K:RM):List V->Hp->VK->Prop:=λxs H Q=>∃ (p:Addr) (bs:List Bool),xs=[.ref p]/\SqL K H p (bs.map V.bl)/\Q (.bl (bs.all id)) H
theorem qQ:∀ {bs:List Bool} {ZV:Z8},Vals (bs.map V.bl) ZV->∀ (i:Nat) (v:Value),ZV[i]?=some v->∃b,bs[i]?=some b/\v=.bool b
 | [],_,.nil,i,v,e=>by simp at e
 | b :: bs,_,.cons r t,0,v,e=>by
  simp at e;subst e;exact⟨b,rfl,r⟩
 | b :: bs,_,.cons r t,i+1,v,e=>by
  obtain⟨c,h1,h2⟩:=qQ (bs:=bs) t i v (by simpa using e)
  exact⟨c,by simpa using h1,h2⟩
theorem E3(bs:List Bool):((RS bs.length).any λi=>(bs[i]?).getD false)=bs.any id:=by
 rw[UJ,WL,WL];constructor
 .rintro⟨i,hi,e⟩;have v!:=RU.mp hi;simp only[RL v!,Vx]at e;exact⟨_,S3 v!,e⟩
 .rintro⟨b,hb,e⟩;obtain⟨i,hi,rfl⟩:=WY hb;exact⟨i,RU.mpr hi,by simp only[RL hi,Vx];exact e⟩
theorem Ff(bs:List Bool):((RS bs.length).all λi=>(bs[i]?).getD true)=bs.all id:=by
 rw[UJ,SF,SF];constructor
 .intro h b hb;obtain⟨i,hi,rfl⟩:=WY hb;have:=h i (RU.mpr hi);simp only[RL hi,Vx]at this;l_out
 .intro h i hi;have v!:=RU.mp hi;simp only[RL v!,Vx];exact h _ (S3 v!)
theorem GV(hc:X.calm=true):cR X (.builtin "any") (Jd X.K):=by
 k_all;obtain⟨p,bs,rfl,hS,q⟩:=h;f_int;have hl:=pl.isList;have hlen:ZV.length=bs.length:=by have:=rv.length;simp at this;lia
 have ZW:p<s.heap.objs.size:=by obtain⟨_,e,_⟩:=hl;exact R7 e
 refine call_any_walk (Ve hl ?_);refine⟨s.heap.objs.size,[s.heap.objs.size,p],[s.heap.objs.size],ZV.toArray.size,_,_,λi=>(bs[i]?).getD false,rfl,YT (A:=X.A.in1) (I.ok.hd hc) _ p (Sa ZW) ZV.toArray,
  ⟨⟨_,Si _ rfl,rfl,rfl⟩,hl.push _⟩,λi v s' Q' E' hP hQ=>?_,λh' tk hk=>?_⟩
 .obtain⟨b,e,rfl⟩:=qQ rv i v (by simpa using hP)
  simp only[e,Vx]at hQ;exact Um hQ
 .have e:((RS ZV.toArray.size).any λi=>(bs[i]?).getD false)=bs.any id:=by
   rw[Se,hlen];exact E3 bs
  rw[e];exact⟨.bl _,H,I.kept (t':=tk) (λb x e=>hk b x (λhm=>by rw[RX.mp hm]at e;exact T9 _ (R7 e)) (RW _ e)),rfl,q⟩
theorem GD(hc:X.calm=true):cR X (.builtin "all") (Kj X.K):=by
 k_all;obtain⟨p,bs,rfl,hS,q⟩:=h;f_int;have hl:=pl.isList;have hlen:ZV.length=bs.length:=by have:=rv.length;simp at this;lia
 have ZW:p<s.heap.objs.size:=by obtain⟨_,e,_⟩:=hl;exact R7 e
 refine call_all_walk (Ve hl ?_);refine⟨s.heap.objs.size,[s.heap.objs.size,p],[s.heap.objs.size],ZV.toArray.size,_,_,λi=>(bs[i]?).getD true,rfl,YT (A:=X.A.in1) (I.ok.hd hc) _ p (Sa ZW) ZV.toArray,
  ⟨⟨_,Si _ rfl,rfl,rfl⟩,hl.push _⟩,λi v s' Q' E' hP hQ=>?_,λh' tk hk=>?_⟩
 .obtain⟨b,e,rfl⟩:=qQ rv i v (by simpa using hP)
  simp only[e,Vx]at hQ;exact Um hQ
 .have e:((RS ZV.toArray.size).all λi=>(bs[i]?).getD true)=bs.all id:=by
   rw[Se,hlen];exact Ff bs
  rw[e];exact⟨.bl _,H,I.kept (t':=tk) (λb x e=>hk b x (λhm=>by rw[RX.mp hm]at e;exact T9 _ (R7 e)) (RW _ e)),rfl,q⟩
theorem yG(K:RM)(hK:X.K=K)(hc:X.calm=true):cR X (.builtin "any") (Jd K):=by subst hK;exact GV hc
theorem xI(K:RM)(hK:X.K=K)(hc:X.calm=true):cR X (.builtin "all") (Kj K):=by subst hK;exact GD hc
theorem Ai(h:At K H v bs):∃p,v=.ref p/\SqL K H p (bs.map V.bl):=by
 k_get;refine⟨p,rfl,?_⟩;have e:xs=bs.map V.bl:=by
  clear hS
  induction hP with
  | nil=>rfl
  | cons r _ ih=>rw[S6,<- ih];exact congrArg (· :: _) r
 rw[<- e];exact hS
theorem Kr(h:At K H v bs)(q:Q (.bl (bs.any id)) H):Jd K [v] H Q:=by
 obtain⟨p,rfl,hS⟩:=Ai h;exact⟨p,bs,rfl,hS,q⟩
theorem G2(h:At K H v bs)(q:Q (.bl (bs.all id)) H):Kj K [v] H Q:=by
 obtain⟨p,rfl,hS⟩:=Ai h;exact⟨p,bs,rfl,hS,q⟩
theorem Rc{f:Int->V}{a:Int}(h:Q (f a) H):rU f (.int a) H Q:=⟨a,rfl,h⟩
theorem pE:∀ {ns:ZM} {ZV:Z8},Vals (ns.map V.int) ZV->WK ZV ns
 | [],_,.nil=>.nil
 | n :: ns,_,.cons r t=>by
  obtain⟨tk,e⟩:=(show ∃tk,_=U5 n tk from r);subst e;exact .cons n tk (pE t)
def Ho:V->List V->Hp->VK->Prop:=λx vs H Q=>∃ (l:Addr) (ns:ZM) (k:Int),x=.ref l/\vs=[.int k]/\H l=some (.lst (ns.map V.int))/\k∈ns/\Q (.int (ns.idxOf k:Nat)) H
theorem Iy :MtM X "list.index" Ho:=by
 walk_at "131";obtain⟨l,ns,k,rfl,rfl,hH,hk,q⟩:=h;cases rx;obtain⟨u,rfl,ru⟩:=rv.one;obtain⟨t,rfl⟩:=(show ∃t,u=U5 k t from ru);obtain⟨z,ZV,n,r,hl',e⟩:=I.p8 hH;have hi:=pE r;have hlen:=hi.length;have hj:ns.idxOf k<ns.length:=XH.mpr hk;have hz:ns.length<=SG:=by simpa using z
 rw[SH]at hz;refine V5 X3 ⟨_,e,rfl⟩ PySem.F.entry_list_index (PySem.F.args_list_index_2 _ _)
  (SeqAt.list_indexAt l ZV.toArray n none #[] (.int k t) (isInt k) (ns.idxOf k) (by simpa[hlen] using hj) (by lia) ?_ ?_) ⟨e,λy hy=>(eq_isInt k t hi y (by simpa using hy)).at _ _,⟨.int _,H,I.tok _,⟨_,rfl⟩,q⟩⟩
 .show isInt k ZV[ns.idxOf k]=true;rw[isInt_at k hi _ (by lia) hj]
  simpa using VD hj
 .intro j hjs ZW;show isInt k ZV[j]=false;rw[isInt_at k hi j (by simpa using hjs) (by lia)]
  exact ne_of_lt_idxOf ZW _
theorem Lc{r:AT}(h:H p=some (.lst (aw r)))(hk:r[j]?=some k)(hf:∀i,i<j->r[i]?≠some k)(q:Q (.int j) H):Ho (.ref p) [.int k] H Q:=by
 have hj:j<r.length:=(RN.mp hk).1;have e1:aw r=(r.map λ(n:Nat)=>(n:Int)).map V.int:=by
  unfold aw;rw[Ux];rfl
 have e2:(r.map λ(n:Nat)=>(n:Int)).idxOf (k:Int)=j:=by
  have hm:(k:Int)∈r.map λ(n:Nat)=>(n:Int):=R9.mpr ⟨k,RQ hk,rfl⟩;have ZW:=XH.mpr hm;have hat:=VD ZW;rw[RP]at ZW;have hat':r[(r.map λ(n:Nat)=>(n:Int)).idxOf (k:Int)]?=some k:=by
   rw[RL ZW];rw[List.getElem_map]at hat;exact congrArg some (X2 hat)
  rcases TN ((r.map λ(n:Nat)=>(n:Int)).idxOf (k:Int)) j with z|z|z
  .exact absurd hat' (hf _ z)
  .exact z
  .exfalso
   have:=ne_of_lt_idxOf z (by rw[RP];exact hj)
   rw[RL hj]at hk;have g!:=SI hk;simp[g!]at this
 refine⟨p,r.map λ(n:Nat)=>(n:Int),k,rfl,rfl,by rw[<- e1];exact h,R9.mpr ⟨k,RQ hk,rfl⟩,?_⟩
 rw[e2];exact q
theorem LF{tt:TT}{ta:TE}{β:Type}[Rep β](h:Tbl H d rows ps)(hz:rows.length<=100000)(acc:Nat->List β)(Sh:St->Prop)(ha0:acc 0=[])(N!:∀i,i<=rows.length->(acc i).length<=i)(h0:Sh (cD own fr σ))
  (turn:∀i c p σ' H' (d:Addr) (R:St->V->Hp->Prop) (R0:Z5),rows[i]?=some c->ag H H'->H' p=some (.lst (aw c))->Sh σ' ->
   (∀σ2 y b H5,Sh σ2->ag H' H5->At K (del H5 d) y b->acc (i+1)=acc i++[b]->R σ2 y H5)->(∀σ2 H5,Sh σ2->ag H' H5->acc (i+1)=acc i->R0 σ2 H5)->(∃ys,H' d=some (.lst ys)) ->
   g (.ref p) σ' H' λσ2 H3=>tt σ2 H3 λok H4=>if ok=true then ta σ2 H4 (R σ2) else R0 σ2 H4)
  (fin:∀d H',H d=none->ag H H'->(∃ys,H' d=some (.lst ys)/\Tb (Rep.is K (del H' d)) ys (acc rows.length))->Q (.ref d) H') :
  gL K (.ref d) H (fj own fr g tt ta σ Q):=by
 have hl:(ps.map V.ref).length=rows.length:=by rw[RP,h.len]
 refine⟨d,rfl,⟨_,SqL.of h.top⟩,v7 (J:=Itl K d) (n:=rows.length) (λi w H'=>∃p c,w=.ref p/\rows[i]?=some c/\H' p=some (.lst (aw c))) acc Sh (λi H' hi e=>⟨_,(ps.map V.ref)[i]'(by lia),e.seq (SqL.of h.top),RL (by lia)⟩) (λH' e=>⟨_,e.seq (SqL.of h.top),VG hl⟩)
  (λi H' x H2 hi e hy=>?_) hz ha0 N! h0 (λi w σ' H' d' R R0 hi e ⟨p,c,hw,hc,hp⟩=>by subst hw;exact turn i c p σ' H' d' R R0 hc e hp) fin⟩
 obtain⟨e1,e2⟩:=hy;have z:=e2 _ (e.seq (SqL.of h.top));rw[RY]at z;cases q:ps[i]? with
 | none=>rw[q]at z;cases z
 | some p =>
  rw[q]at z;refine⟨e1,p,rows[i],(SI z).symm,RL hi,e _ _ (h.row i p _ q (RL hi))⟩
def E8:Expr->Option Int
 | .Constant (.int i) _ _=>some i
 | _=>none
def uS:List Expr->Option (ZM)
 | []=>some []
 | e :: es=>match E8 e,uS es with
  | some i,some l=>some (i :: l)
  | _,_=>none
def NW:Expr->Option (ZM)
 | .List es _=>uS es
 | _=>none
def zX:List Expr->Option (List (ZM))
 | []=>some []
 | e :: es=>match NW e,zX es with
  | some i,some l=>some (i :: l)
  | _,_=>none
def sJ:List Int->TA
 | []=>nF
 | i :: l=>iX (tC (.int i)) (sJ l)
def vJ:List (ZM)->TA
 | []=>nF
 | r :: l=>iX (Bo (sJ r)) (vJ l)
variable {d p:Addr}{dsl osl:Array (ZS)}{ZV:ZO}{X:Cx}{base:Heap}{H:Hp}{dh:Z0}{bs:List (Str×Value)}{fp:ZL}{es:Z9}{ns':ZM}{l:AT}{N ps:ZN}{j k n:Nat}{pos:Pos}{K:RM}{s:RV}{A:S7}{P:Sj}{sp:Sp}{σ:St}{st:Stmt}{x y:Str}{mg:Z6}{Q:VK}{E:Value->RV->Prop}{w:World}
theorem ui{X:Cx}:∀ {es:Z9} (ns:ZM),uS es=some ns->PA X es (sJ ns)
 | [],ns,h=>by cases h;exact bT
 | e :: es,ns,h=>by
  unfold uS at h
  split at h
  .rename_i i l h1 h2
   cases h;cases e with
   | Constant c j pos =>
    cases c with
    | int k =>
     have hk:k=i:=by simpa[E8] using h1
     subst hk;exact xi ai (ui l h2) (bg rfl)
    | _=>simp[E8]at h1
   | _=>simp[E8]at h1
  .cases h
theorem Af{X:Cx}:∀ {es:Z9} (rs:List (ZM)),zX es=some rs->PA X es (vJ rs)
 | [],rs,h=>by cases h;exact bT
 | e :: es,rs,h=>by
  unfold zX at h
  split at h
  .rename_i i l h1 h2
   cases h;cases e with
   | List ls pos=>exact xi (bj (ui i h1)) (Af l h2) (bg rfl)
   | _=>simp[NW]at h1
  .cases h
@[irreducible] def Ah(es:Z9)(ns:ZM):Bool:=decide (uS es=some ns)
@[irreducible] def Aj(es:Z9)(rs:List (ZM)):Bool:=decide (zX es=some rs)
theorem MD(ns:ZM)(h:Ah es ns=true):PA X es (sJ ns):=ui ns (by unfold Ah at h;exact of_decide_eq_true h)
theorem Lb(rs:List (ZM))(h:Aj es rs=true):PA X es (vJ rs):=Af rs (by unfold Aj at h;exact of_decide_eq_true h)
structure IsP(p:Prop):Prop where
 out:p
theorem uy(ns:ZM)(h:Ah es ns=true):IsP (PA X es (sJ ns)):=⟨MD ns h⟩
theorem AI(rs:List (ZM))(h:Aj es rs=true):IsP (PA X es (vJ rs)):=⟨Lb rs h⟩
theorem oS:∀ (l:AT),WrA K (sJ (l.map λ(n:Nat)=>(n:Int))) l
 | []=>jj
 | n :: l=>wz (HN rfl) (oS l)
theorem vU:∀ (rs:AC),(∀r∈rs,r.length<=1000)->WrA K (vJ (rs.map λr=>r.map λ(n:Nat)=>(n:Int))) rs
 | [],_=>jj
 | r :: rs,h=>wz (Gv (oS r) (h r R4)) (vU rs λx hx=>h x (R3 _ hx))
theorem mJ:∀ {ZV:Z8} {ns:ZM},WK ZV ns->Vals (ns.map V.int) ZV
 | _,_,.nil=>.nil
 | _,_,.cons n t r=>.cons ⟨t,rfl⟩ (mJ r)
def wG(K:RM):List V->Hp->VK->Prop:=λxs H Q=>∃ (p:Addr) (ns:ZM),xs=[.ref p]/\SqL K H p (ns.map V.int)/\ns.length<64 /\
 ∀ (d:Addr) (ns':ZM),H d=none->ns'.Perm ns->ns'.Pairwise (·<=·)->Q (.ref d) (upd H d (.lst (ns'.map V.int)))
theorem AD :cR X (.builtin "sorted") (wG X.K):=by
 k_all;obtain⟨p,ns,rfl,hS,P!,q⟩:=h;f_int;have hi:=pE rv;have hlen:=hi.length;refine sorted_ints pl.isList hi (by lia) λout ns' a1 a2 a3=>?_
 obtain⟨c,hc⟩:=sortedAll_at s.heap ZV out;have hn:H (s.heap.objs.size+1)=none:=I.hok.fresh (T2 _);have hl':ns'.length=ns.length:=a2.length_eq;refine⟨.ref (s.heap.objs.size+1),_,I.laid (o:=.lst (ns'.map V.int)) (λb o e=>sortedAll_old e) (T2 _) ⟨?_,out.toList,c,mJ a1,?_⟩,rfl,q _ ns' hn a2 a3⟩
 .rw[RP];exact small (by lia)
 .simpa[seqObj] using hc
theorem sf(K:RM)(hK:X.K=K):cR X (.builtin "sorted") (wG K):=by subst hK;exact AD
section
variable {H':Hp}{v:V}
theorem rj(h:ns'.Perm (l.map λ(n:Nat)=>(n:Int))):∃l':AT,ns'=l'.map (λ(n:Nat)=>(n:Int))/\l'.Perm l:=by
 refine⟨ns'.map XI,?_,?_⟩
 .rw[Ux];have e:∀x∈ns',((λ(n:Nat)=>(n:Int)) ∘ XI) x=x:=λx hx=>by
   obtain⟨n,_,rfl⟩:=R9.mp (h.mem_iff.mp hx);rfl
  have:ns'.map ((λ(n:Nat)=>(n:Int)) ∘ XI)=ns'.map id:=TV e;rw[this,WX]
 .have:=h.map XI;rw[Ux]at this;have e:(XI ∘ λ(n:Nat)=>(n:Int))=id:=by funext n;rfl
  rw[e,WX]at this;l_out
theorem jb(l:AT):aw l=(l.map λ(n:Nat)=>(n:Int)).map V.int:=by
 unfold aw;rw[Ux];rfl
theorem BL(h:At K H v l)(hl:l.length<64)(q:∀ (d:Addr) (l':AT) (H':Hp),H d=none->ag H H'->l'.Perm l->l'.Pairwise (·<=·)->Gr K H' d l'->Q (.ref d) H'):wG K [v] H Q:=by
 obtain⟨p,rfl,hS⟩:=lN h;have j!:SqL K H p ((l.map λ(n:Nat)=>(n:Int)).map V.int):=by
  have e:=jb l;unfold aw at e;rw[<- e];exact hS
 refine⟨p,_,rfl,j!,by rw[RP];exact hl,λd ns' hd hp hs=>?_⟩
 obtain⟨l',rfl,hp'⟩:=rj hp;have A!:l'.Pairwise (·<=·):=by
  rw[Vi]at hs;exact hs.imp λz=>by lia
 rw[<- jb];exact q d l' _ hd (ar hd _) hp' A! ⟨_,aj,dG⟩
theorem HI(l:AT):(l.map λ(n:Nat)=>V.int n).all lD=true:=by
 rw[SF];intro x hx;obtain⟨n,_,rfl⟩:=R9.mp hx;rfl
theorem DG(x:Nat):∀l:AT,inV (.int x) (l.map λ(n:Nat)=>V.int n)=decide (x∈l)
 | []=>rfl
 | a :: l=>by
  have ih:=DG x l;rw[S6];simp only[inV]at ih ⊢;rw[Wd,ih];have e1:eqV (V.int a) (V.int x)=decide (x=a):=by
   show ((a:Int) == (x:Int))=decide (x=a);rw[UJ];simp;lia
  rw[e1,UJ];simp
theorem xa{x:Nat}(h:At K H v l)(q:Q (.bl (!decide (x∈l))) H):rIn K true (.int x) v H Q:=by
 obtain⟨p,rfl,hS⟩:=lN h;refine⟨p,_,rfl,.inl hS,rfl,HI l,?_⟩;rw[DG];exact q
end
theorem mX(K:RM)(hK:X.K=K):OpR X (compareOp .NotIn) (rIn K true):=by subst hK;exact Bk
theorem zZ{α:Type}[Rep α]{x y:V}{l r:List α}(hx:∃p xs,x=.ref p/\H p=some (.lst xs)/\Tb (Rep.is K H) xs l)(hy:∃p xs,y=.ref p/\H p=some (.lst xs)/\Tb (Rep.is K H) xs r)(hz:l.length+r.length<=100000)
  (q:∀d H',H d=none->ag H H'->Gr K H' d (l++r)->Q (.ref d) H'):JM x y H Q:=by
 obtain⟨p,xs,rfl,h1,r1⟩:=hx;obtain⟨p',ys,rfl,h2,r2⟩:=hy;have e1:=r1.length;have e2:=r2.length;have sm:∀ {d:Addr} {o:HO},H d=none->ag H (del (upd H d o) d):=λ{d o} hd b u z=>by
  have hb:b≠d:=au z hd;rw[bM hb,ak hb];exact z
 refine⟨p,p',xs,ys,rfl,rfl,h1,h2,by rw[SH];lia,λd hd=>q d _ hd (ar hd _) ⟨_,aj,Paired.app (Paired.bK r1 λ_ _ z=>Rep.mono (sm hd) z) (Paired.bK r2 λ_ _ z=>Rep.mono (sm hd) z)⟩⟩
section
variable {α β:Type}[Rep α][DecidableEq α][bf α][Rep β][DecidableEq β][bf β]
end
theorem fV{xs:Z7}{i:Nat}{x:V}(h:H p=some (.tup xs))(hx:xs[i]?=some x)(q:Q x H):Kg K (.ref p) (.int i) H Q:=⟨p,xs,_,x,rfl,rfl,SqT.of h,eU hx,q⟩
theorem Mn{a b:Nat}(h:H p=some (.tup [.int a,.int b])):At K H (.ref p) ((a,b):Nat×Nat):=⟨p,_,_,rfl,SqT.of h,rfl,rfl⟩
theorem xq{g:TG}{t:TS}{D:Ends}{ps:ZL}(Pv:ZT)(h0:Pv 0 σ H)(hl:∀i σ' H',Pv i σ' H'->H' d=some (.lst (ps.map V.ref)))
  (hs:∀i p σ' H',ps[i]?=some p->Pv i σ' H'->g (.ref p) σ' H' λσ2 H2=>t { D with nx:=Pv (i+1),ct:=Pv (i+1),bk:=D.nx } σ2 H2) (hd:∀σ' H',Pv ps.length σ' H'->D.nx σ' H') :
  gL K (.ref d) H (eJ g t D σ):=by
 refine⟨d,rfl,⟨_,SqL.of (hl 0 σ H h0)⟩,o7 (K:=K) (a:=d) (xs:=ps.map V.ref) Pv h0 (λi σ' H' _ q=>SqL.of (hl i σ' H' q)) (λi x σ' H' hx q=>?_) (λσ' H' q=>?_)⟩
 .rw[RY]at hx;cases e:ps[i]? with
  | none=>rw[e]at hx;cases hx
  | some p =>
   rw[e]at hx;have z!:x=V.ref p:=(SI hx).symm;subst z!;exact hs i p σ' H' e q
 .rw[RP]at q;exact hd σ' H' q
theorem BJ(K:RM)(hK:X.K=K){p1 p2:Pos}{i:Nat}(hc:X.calm=true)(hN:X.N.Nodup)(hi:X.N[i]?=some x)(hx:Loc X.env.scope x)(hj:X.N[j]?=some y)(hy:Loc X.env.scope y)
  (hf:X.fn x=true\/X.env.scope.names.lookup x=some .local:=by first|exact .inl rfl|exact .inr rfl|assumption) (hf':X.fn y=true\/X.env.scope.names.lookup y=some .local:=by first|exact .inl rfl|exact .inr rfl|assumption) :
  PG X (.Tuple [.Name x p1,.Name y p2] k pos) (BU K 2 (iU (dZ i) (iU (dZ j) xf))):=by
 subst hK;exact my hc (cv (oj hN hi hx hf) (cv (oj hN hj hy hf') iN))
theorem D0{α:Type}[Rep α]{v:V}{l:List α}(h:At K H v l)(q:∀p H',H p=none->ag H H'->Gr K H' p l->Q (.ref p) H'):zG K [v] H Q:=by
 k_get;refine⟨p,xs,rfl,.inl hS,λd hd=>q d _ hd (ar hd _) ⟨_,aj,Paired.bK hP λ_ _ z=>Rep.mono (λb o z=>?_) z⟩⟩;have hb:b≠d:=au z hd;rw[bM hb,ak hb];exact z
theorem bC{o:HO}(h:H p=some o)(hd:H d=none):p≠d:=λe=>by rw[e,hd]at h;cases h
section
variable {h':Heap}{t':Nat} 
end
theorem Lj{a b:Nat}(h:¬ a=b):@Ne Addr a b:=h
theorem Hh(n l l':Nat)(h1:l<n)(h2:l' < n):Xm (n+4) (n+2) (n+3) n (n+1) l l':=by
 constructor <;> (refine Lj ?_;lia)
section
variable {prog:Sj} 
theorem AH{it l:Addr}{ZV:ZO}(B':l≠it):∀ (n i:Nat) (s:RV) (Q:List Value->RV->Prop),s.heap.IsListIter it l i->s.heap.IsList l ZV->i+n<=ZV.size ->
  (∀h',h'.IsListIter it l (i+n)->VF it s.heap h'->Q ((ZV.toList.drop i).take n) { s with heap:=h' })->wpAny (model prog w) A (draw (.ref it) n) Q E s
 | 0,i,s,Q,hit,_,_,hQ=>by
  show wpAny _ _ (pure []) Q E s;exact R1 (by simpa using hQ s.heap hit (Heap.SameBut.refl ..))
 | n+1,i,s,Q,hit,hl,hle,hQ=>by
  have ZW:i<ZV.size:=by lia
  show wpAny _ _ (pyNext (.ref it) >>= _) Q E s;refine RO (Yg hit hl (x:=ZV[i]) (by simp[ZW]) λh1 hit1 Y!=>?_)
  refine RO (S2 (AH B' n (i+1) _ _ hit1 (hl.extBut Y!.extBut B') (by lia) λh2 hit2 r!=>R1 ?_))
  have hd:ZV.toList.drop i=ZV[i] :: ZV.toList.drop (i+1):=by simp[Va,ZW]
  have:=hQ h2 (by rw[show i+(n+1)=i+1+n by lia];exact hit2) (Y!.trans r!)
  rw[hd,List.take_succ_cons]at this;l_out
theorem Fc{env:Env}{x1}{l:Addr}{Q:Unit->RV->Prop}(hh:A.handled=none)(hl:s.heap.IsList l ZV)
  (hn:(assignEach es env).length=ZV.size) (hstar:(assignEach es env).findIdx? (·.1)=none)
  (h:∀h',Heap.ExtBut s.heap.objs.size s.heap h'->wpAny (model prog w) A (assignInOrder ((assignEach es env).map (·.2)) ZV.toList) Q E { s with heap:=h' }) :
  wpAny (model prog w) A (assign (.Tuple es x1 pos) env (.ref l)) Q E s:=by
 have ZW:l≠s.heap.objs.size:=by obtain⟨o,ho,_⟩:=hl;exact Sa (R7 ho)
 rw[assign_Tuple];refine RO (Wa ?_);unfold unpack;rw[hn,hstar];refine RO (S2 ?_);unfold unpackItems;refine RO ?_;unfold notIterableAtAll;refine RO (We hl.typeIs slot_list_iter.lookup ?_);refine R1 ?_;simp only[S5,if_false];refine RO (S2 (Ve hl ?_));have hl0:Heap.IsList (s.heap.push { cls:=.type "list_iterator",data:=.fields #[.ref l,.int 0 0] }) l ZV:=hl.at λo e=>RW _ e;refine RO (S2 (AH ZW ZV.size 0 _ _ ⟨_,Si _ rfl,rfl,rfl⟩ hl0 (by lia) λh1 hit1 Y!=>?_))
 have f':List.take ZV.size (List.drop 0 ZV.toList)=ZV.toList:=by
  rw[List.drop_zero];exact Sn (by simp)
 rw[f'];rw[if_neg (by simp)]
 have hl1:Heap.IsList h1 l ZV:=hl0.extBut Y!.extBut ZW;refine RO (S2 (Yq hh hit1 hl1 (by simp) λh2 he2=>?_))
 simp only[Option.isSome_none,S5,if_false];exact R1 (h h2 λb o hb e=>he2 b o hb (Y!.extBut b o hb (RW _ e)))
end
def Kw(K:RM)(n:Nat)(t:TGs):TG:=λv σ H Q=>∃a xs,v=.ref a/\SqL K H a xs/\xs.length=n/\t xs σ H Q
theorem Lu{t:TGs}(hc:X.calm=true)(h:PGs X es t)
  (hn:(assignEach es X.env).length=n:=by rfl) (X':(assignEach es X.env).findIdx? (·.1)=none:=by rfl):PG X (.Tuple es k pos) (Kw X.K n t):=by
 intro dh s σ H v u Q I r hw;obtain⟨a,xs,e1,hq,hl,hw⟩:=hw;subst e1;cases r;obtain⟨ZV,rv,p,_⟩:=I.list hq;have e:=rv.length;refine Fc (I.ok.hd hc) p.isList (by simp[hn,<- hl,e]) X' λh' hx=>?_
 have I1:Inv X dh σ H { s with heap:=h' }:=I.kept (t':=s.toks) λb o e=>hx b o (Sa (R7 e)) e;exact h dh _ σ H xs _ Q I1 (by simpa using rv) hw
structure eS(K:RM)(x qual:Str)(st:Stmt)(f:Addr)(fd:TC):Prop where
 ex:∃ (oc:Value) (od:ZR) (D:Addr) (kV doc pm:Value) (an:ZR) (cdv ct:Value) (osl:Array (ZS)) (dc:Value) (dd:ZR) (n:Nat) (dsl:Array (ZS)),
  fd=S1 x qual (bD st) (bo st) (ah st) (.ref D) kV doc pm an cdv ct/\K.lookup f=some ⟨oc,od,.func fd,osl⟩/\TJ K cdv qual=true/\K.lookup D=some ⟨dc,dd,.seq #[.none] n,dsl⟩
 kp:S8 K (.ref f)=true
section
variable {qual:Str}{f:Addr}{fd:TC} 
theorem eS.ok(F:eS K x qual st f fd)(S:av N ps (ah st))(len:∀vs H Q E,sp vs H Q E->vs.length=ps.length)
  (i!:∀ (cdv:Value) (A:S7) (outer:List Env) (s:RV) (H:Hp) (vs:Z7) (Q:VK) (E:XK),bP k (A.deeper (envOfC qual (ah st) s.heap.objs.size f cdv))->sp vs H Q E ->
   ∃t,PSs (pL CX0 P w K mg base N qual (ah st) f cdv A outer s H E).nox (bo st) t/\t { nx:=λ_ H'=>Q .non H',rt:=Q } (start N vs) H):aE P w K mg base CX0 (k+1) f fd ps sp:=by
 obtain⟨oc,od,D,kV,doc,pm,an,cdv,ct,osl,dc,dd,n,dsl,rfl,lk,hcd,_⟩:=F.ex;refine KQ lk hcd S len λA outer s H vs Q E hr hsp=>?_;obtain⟨t,h,q⟩:=i! cdv A outer s H vs Q E hr hsp;exact⟨t,h.nox,q⟩
theorem eS.to{args:Args}(F:eS K x qual st f fd)(KI:K.In s.heap)
  (h:∀ (D:Addr) (kV doc pm:Value) (an:ZR) (cdv ct:Value),∃k:Option (ZO)->Sem (List (Str×Value)),bindArgs (S1 x qual (bD st) (bo st) (ah st) (.ref D) kV doc pm an cdv ct) args=seqItems? (.ref D) >>= k/\k (some #[.none])=pure bs):Xv s fd args bs:=by
 obtain⟨oc,od,D,kV,doc,pm,an,cdv,ct,osl,dc,dd,n,dsl,rfl,lk,hcd,dl⟩:=F.ex;obtain⟨k,h1,h2⟩:=h D kV doc pm an cdv ct;exact BindsTo.of_defaults (fd:=S1 x qual (bD st) (bo st) (ah st) (.ref D) kV doc pm an cdv ct) (T:=D) rfl (KI _ _ dl) rfl h1 h2
theorem cQ{D:Addr}{oc dc:Value}{od an dd:ZR}{kV doc pm cdv ct:Value}(l:K.lookup f=some ⟨oc,od,.func (S1 x qual (bD st) (bo st) (ah st) (.ref D) kV doc pm an cdv ct),osl⟩)
  (d:K.lookup D=some ⟨dc,dd,.seq #[.none] n,dsl⟩) (c:TJ K cdv qual=true) (k:S8 K (.ref f)=true):eS K x qual st f (S1 x qual (bD st) (bo st) (ah st) (.ref D) kV doc pm an cdv ct) :=
 ⟨⟨oc,od,D,kV,doc,pm,an,cdv,ct,osl,dc,dd,n,dsl,rfl,l,c,d⟩,k⟩
end
def byName{α:Type}(k:Nat)(us ws:List α):List α:=if us.length=k/\ws.length=1 then us++ws else []
theorem EB{vs zs:Z7}{us ws:Z8}(r:Vals vs us)(rz:Vals zs ws):Vals (byName k vs zs) (byName k us ws):=by
 have h1:=r.length;have h2:=rz.length;unfold byName;rw[h1,h2]
 split
 .exact r.append rz
 .exact .nil
theorem lA{fd:TC}(hk:ps.length=k+1)(h:∀ (s:RV) (us:Z8),K.In s.heap->us.length=k->Xv s fd ⟨us,[]⟩ (ps.zip (us++[.none]))):Binds K fd ps [.none]:=λs us KI hl=>h s us KI (by
 rw[R8,hk]at hl;have:([Tq]:Z8).length=1:=rfl;lia)
theorem lr{fd:TC}(hk:ps.length=k+1)(h:∀ (s:RV) (us:Z8) (w:Value),K.In s.heap->us.length=k->Xv s fd ⟨us,[(y,w)]⟩ (ps.zip (us++[w]))):oQ K fd ps [y] (byName k) (byName k):=by
 refine⟨λs us ws KI hl=>?_,EB⟩;unfold byName at hl ⊢
 split at hl
 .rename_i c
  rw[if_pos c]
  match ws,c.2 with
  | [w],_=>exact h s us w KI c.1
 .rw[hk]at hl;cases hl
structure DfD(K:RM)(mg:Z6)(x:Str)(st:Stmt)(ps:ZN)(y:Str)(k:Nat) where
 f:Addr
 fd:TC
 fn:eS K x x st f fd
 bd:Binds K fd ps []
 bn:Binds K fd ps [.none]
 bk:oQ K fd ps [y] (byName k) (byName k)
 nm:mg x=some (.ref f)
theorem DfD.ok(d:DfD K mg x st ps y j)(S:av N ps (ah st))(len:∀vs H Q E,sp vs H Q E->vs.length=ps.length)
  (i!:∀ (cdv:Value) (A:S7) (outer:List Env) (s:RV) (H:Hp) (vs:Z7) (Q:VK) (E:XK),bP k (A.deeper (envOfC x (ah st) s.heap.objs.size d.f cdv))->sp vs H Q E ->
   ∃t,PSs (pL CX0 P w K mg base N x (ah st) d.f cdv A outer s H E).nox (bo st) t/\t { nx:=λ_ H'=>Q .non H',rt:=Q } (start N vs) H):aE P w K mg base CX0 (k+1) d.f d.fd ps sp :=
 d.fn.ok S len i!
section
variable {p kpos:Pos}{e a:Expr}{t:TA}{te:TE}
theorem zJ(d:DfD X.K X.mg x st ps y j)(G:aE X.prog X.w X.K X.mg X.base CX0 k d.f d.fd ps sp)(hr:bP k X.A)(hg:Gl X x)(ha:PA X (e :: es) t)(hn:isStar e=false:=by rfl)(f':es.all (λe=>!isStar e)=true:=by rfl)(t!:(x == ("__debug__" : Str))=false:=by decide) :
  PE X (.Call (.Name x p) (e :: es) [] pos) (pU sp [] E0 t):=DJ G hr hg d.nm d.fn.kp d.bd .nil lB ha t! (bg hn) (cM f')
end
end L2
set_option Elab.async false
set_option linter.all false
set_option maxRecDepth 100000
namespace L2
open PySem PySem.Spec PyProof.Rows
variable {C a dx:Addr}{CX:CXT}{X:Cx}{e value:Expr}{h h':Heap}{H H':Hp}{dh:Z0}{xs:List (List Key×Addr×Value)}{kvs:List (List Key×V)}{keys ks:List (Option Expr)}{fs:List (Str×V)}{trs:List (TE×TE)}{es rest values:Z9}{ps:ZN}{dvs:Z7}{gV:List V->List V->List V}{ds:Z8}{g:List Value->List Value->List Value}{kws:List Yv}{nm:Option Str}{o:ZQ}{apos pos pos' tpos:Pos}{s:RV}{A:S7}{P prog:Sj}{sp:Sp}{σ:St}{f x:Str}{mA:Z6}{t:TA}{fd:TC}{ta te tv:TE}{v y:V}{u:Value}{E Q:Value->RV->Prop}{w:World}
section
variable (P:Sj)(w:World)
end
section
variable {o:HO}
end
section
variable {x e:Addr}{o':HO}
end
section
variable {fs fs' ex ex':ZL}{H1 H2:Hp}{h1 h2:Heap}{x e:Addr}{o:HO}
end
section
variable {σ:List (ZQ)} 
end
section
variable {a b:Expr}{tb:TE} 
variable {tA tB':TT} 
end
section
variable {xs ys:Z7}
end
section
variable {st:Stmt}{rest:List Stmt}{t u:TS} 
end
section
variable {tg:Expr}
end
section
variable {a b c:Expr}{tb tc:TE} 
end
section
variable {K:RM}{x f:Addr}{name:Str}{v:Value}
end
section
variable {fs':List (Str×V)}
end
section
variable {o:Expr} 
end
section
variable {c:Value}{b:Bool}
end
section
variable {s':RV}
end
section
variable {k:Nat}{f:Addr}{E:XK}{m:Str}{p:Pos}{o:Expr} 
end
section
variable {k:Nat}{f:Addr}{ks:ZN}{E:XK}{m:Str}{p kpos:Pos}{o:Expr}{tk:TA} 
end
section
variable {p:Pos}{id T:String}{r:List V->Hp->VK->Prop}
end
section
variable {κ:Type}[DecidableEq κ]
def bq(kvs:List (κ×V))(k:κ):ZQ:=(kvs.find? λkv=>decide (kv.1=k)).map (·.2)
def putK(kvs:List (κ×V))(k:κ)(v:V):List (κ×V) :=
 if (kvs.any λkv=>decide (kv.1=k))=true then kvs.map (λkv=>if kv.1=k then (kv.1,v) else kv) else kvs++[(k,v)]
theorem de{p:κ×V}{r:List (κ×V)}{k:κ}(e:p.1=k):bq (p :: r) k=some p.2:=by simp[bq,Vj,e]
theorem b7{p:κ×V}{r:List (κ×V)}{k:κ}(e:¬ p.1=k):bq (p :: r) k=bq r k:=by simp[bq,Vj,e]
theorem mn(k:κ):∀kvs:List (κ×V),(kvs.any λkv=>decide (kv.1=k))=(bq kvs k).isSome
 | []=>rfl
 | p :: r=>by
  rw[Wd]
  by_cases e:p.1=k
  .simp only[de e,decide_eq_true e,Bool.true_or,Option.isSome_some]
  .rw[b7 e,decide_eq_false e,Bool.false_or];exact mn k r
theorem Ay(k j:κ)(y:V):∀kvs:List (κ×V),bq (kvs.map λkv=>if kv.1=k then (kv.1,y) else kv) j=(bq kvs j).map λx=>if j=k then y else x
 | []=>rfl
 | p :: r=>by
  have ih:=Ay k j y r;rw[S6]
  by_cases h:p.1=k
  .rw[if_pos h]
   by_cases e:p.1=j
   .rw[de (p:=(p.1,y)) e,de e,TQ,if_pos (e.symm.trans h)]
   .rw[b7 (p:=(p.1,y)) e,b7 e,ih]
  .rw[if_neg h]
   by_cases e:p.1=j
   .rw[de (p:=p) e,de e,TQ,if_neg (λz=>h (e.trans z))]
   .rw[b7 (p:=p) e,b7 e,ih]
theorem yB(k j:κ)(y:V):∀kvs:List (κ×V),bq kvs k=none->bq (kvs++[(k,y)]) j=if j=k then some y else bq kvs j
 | [],_=>by
  by_cases e:k=j
  .rw[if_pos e.symm];exact de (p:=(k,y)) e
  .rw[if_neg (λz=>e z.symm)];exact b7 (p:=(k,y)) e
 | p :: r,hn=>by
  rw[List.cons_append];have hk:¬ p.1=k:=λz=>by rw[de z]at hn;cases hn
  rw[b7 hk]at hn;have ih:=yB k j y r hn
  by_cases e:p.1=j
  .rw[de e,de e,if_neg (λz=>hk (e.trans z))]
  .rw[b7 e,b7 e,ih]
theorem BM(kvs:List (κ×V))(k j:κ)(y:V):bq (putK kvs k y) j=if j=k then some y else bq kvs j:=by
 unfold putK
 by_cases a:(kvs.any λkv=>decide (kv.1=k))=true
 .rw[if_pos a,Ay];rw[mn]at a
  by_cases e:j=k
  .obtain⟨x,hx⟩:=XF.mp a;rw[if_pos e,e,hx,TQ,if_pos rfl]
  .rw[if_neg e];cases bq kvs j with
   | none=>rfl
   | some x=>rw[TQ,if_neg e]
 .rw[if_neg a];refine yB k j y kvs ?_;rw[mn]at a;cases q:bq kvs k with
  | none=>rfl
  | some x=>rw[q]at a;exact(a rfl).elim
theorem gW(kvs:List (κ×V))(k:κ)(v:V):(putK kvs k v).length<=kvs.length+1:=by
 unfold putK
 split
 .rw[RP];lia
 .rw[R8,SU,Wf];lia
theorem qi{kvs:List (κ×V)}{k:κ}(v:V)(h:bq kvs k=none):putK kvs k v=kvs++[(k,v)]:=by
 unfold putK;rw[mn,h];exact if_neg (by decide)
theorem gf.kD{u:ZS}(r:gf o u):o.isSome=u.isSome:=by
 cases o with
 | none=>cases u with
  | none=>rfl
  | some _=>exact(show False from r).elim
 | some _=>cases u with
  | none=>exact(show False from r).elim
  | some _=>rfl
theorem KV.val{kvs:List (κ×V)}{vs:List (κ×Value)}(r:KV kvs vs)(k:κ):gf (bq kvs k) (valueAt vs k):=by
 unfold KV at r
 induction r with
 | nil=>exact VQ
 | @cons p q ps qs h t ih =>
  obtain⟨h1,h2⟩:=h
  by_cases e:p.1=k
  .have e':q.1=k:=h1.symm.trans e;have b:valueAt (q :: qs) k=some q.2:=by simp[valueAt,Vj,e']
   rw[de e,b];exact h2
  .have e':¬ q.1=k:=λz=>e (h1.trans z);have b:valueAt (q :: qs) k=valueAt qs k:=by simp[valueAt,Vj,e']
   rw[b7 e,b];exact ih
theorem KV.any{kvs:List (κ×V)}{vs:List (κ×Value)}(r:KV kvs vs)(k:κ):(kvs.any λkv=>decide (kv.1=k))=vs.any λkv=>decide (kv.1=k):=by
 unfold KV at r
 induction r with
 | nil=>rfl
 | cons h t ih=>rw[Wd,Wd,ih,h.1]
theorem KV.Ki{kvs:List (κ×V)}{vs:List (κ×Value)}(r:KV kvs vs)(k:κ)(ry:RelV y u) :
  KV (kvs.map λkv=>if kv.1=k then (kv.1,y) else kv) (vs.map λkv=>if kv.1=k then (kv.1,u) else kv):=by
 unfold KV at r ⊢
 induction r with
 | nil=>exact .nil
 | @cons p q ps qs h t ih =>
  rw[S6,S6];refine .cons ?_ ih;obtain⟨h1,h2⟩:=h
  by_cases e:p.1=k
  .rw[if_pos e,if_pos (h1.symm.trans e)];exact⟨h1,ry⟩
  .rw[if_neg e,if_neg (λz=>e (h1.trans z))];exact⟨h1,h2⟩
theorem KV.put{kvs:List (κ×V)}{vs:List (κ×Value)}(r:KV kvs vs)(k:κ)(ry:RelV y u):KV (putK kvs k y) (stored vs k u):=by
 unfold putK stored;rw[r.any k]
 by_cases e:(vs.any λkv=>decide (kv.1=k))=true
 .rw[if_pos e,if_pos e];exact r.Ki k ry
 .rw[if_neg e,if_neg e];exact Paired.snoc r ⟨rfl,ry⟩
theorem KV.length{kvs:List (κ×V)}{vs:List (κ×Value)}(r:KV kvs vs):kvs.length=vs.length:=WQ r
end
theorem mQ{k:Key}(r:RelV (kV k) u):(bY P w).is k u=true:=by
 cases k with
 | inl i=>obtain⟨t,e⟩:=(show ∃t,u=U5 i t from r);subst e;exact Cw P w i t
 | inr x=>obtain⟨t,e⟩:=(show ∃t,u=Zy x t from r);subst e;exact C4 P w x t
theorem ya{P:Sj}{w:World}:∀ {ks:List Key} {us:Z8},Vals (ks.map kV) us->ItemsAre (bY P w) ks us
 | [],_,r=>by rw[Zq]at r;cases r;exact .nil
 | k :: ks,_,r=>by
  rw[S6]at r;cases r with
  | cons h t=>exact .cons (mQ h) (ya t)
abbrev KT(H:Hp):List (List Key×V)->List (List Key×Addr×Value)->Prop:=Tb λp q=>p.1=q.1/\H q.2.1=some (.tup (p.1.map kV))/\RelV p.2 q.2.2
theorem KT.val(r:KT H kvs xs)(k:List Key):gf (bq kvs k) ((atKey xs k).map (·.2)):=by
 induction r with
 | nil=>exact VQ
 | @cons p q ps qs h t ih =>
  obtain⟨h1,_,h2⟩:=h
  by_cases e:p.1=k
  .have e':q.1=k:=h1.symm.trans e;have b:atKey (q :: qs) k=some q.2:=by simp[atKey,Vj,e']
   rw[de e,b];exact h2
  .have e':¬ q.1=k:=λz=>e (h1.trans z);have b:atKey (q :: qs) k=atKey qs k:=by simp[atKey,Vj,e']
   rw[b7 e,b];exact ih
theorem KT.Ki(r:KT H kvs xs)(k:List Key)(ry:RelV y u) :
  KT H (kvs.map λkv=>if kv.1=k then (kv.1,y) else kv) (xs.map (putAt k u)):=by
 induction r with
 | nil=>exact .nil
 | @cons p q ps qs h t ih =>
  rw[S6,S6];refine .cons ?_ ih;obtain⟨h1,h2,h3⟩:=h;unfold putAt
  by_cases e:p.1=k
  .rw[if_pos e,if_pos (h1.symm.trans e)];exact⟨h1,h2,ry⟩
  .rw[if_neg e,if_neg (λz=>e (h1.trans z))];exact⟨h1,h2,h3⟩
theorem KT.put(r:KT H kvs xs)(k:List Key){b:Addr}(hb:H b=some (.tup (k.map kV)))(ry:RelV y u) :
  KT H (putK kvs k y) (storedH xs k b u):=by
 have e:(kvs.any λkv=>decide (kv.1=k))=(atKey xs k).isSome:=by
  rw[mn,(r.val k).kD,XJ]
 unfold putK storedH;rw[e]
 by_cases q:(atKey xs k).isSome=true
 .rw[if_pos q,if_pos q];exact r.Ki k ry
 .rw[if_neg q,if_neg q];exact Paired.snoc r ⟨rfl,hb,ry⟩
theorem KT.keeps(r:KT H kvs xs)(ht:∀b ys,H b=some (.tup ys)->H' b=some (.tup ys)):KT H' kvs xs :=
 Paired.bK r λ_ _ z=>⟨z.1,ht _ _ z.2.1,z.2.2⟩
theorem KW{u:HO}(ok:HOk P w H h)(e:Rd H a u):cu P w H h a u:=e.ok ok
theorem vk{kvs:Z2}(ok:HOk P w H h)(e:Rd H a (.dK kvs)):kvs.length<=SG/\(a == sysModules)=false/\∃vs,KV kvs vs/\h.DictOf (bY P w) a vs :=
 show cu P w H h a (.dK kvs) from KW ok e
theorem zV{kvs:Z2}(ok:HOk P w H h)(e:H a=some (.dK kvs)):kvs.length<=SG/\(a == sysModules)=false/\∃vs,KV kvs vs/\h.DictOf (bY P w) a vs:=vk ok (.inl e)
theorem rq{ks:List Key}(ok:HOk P w H h)(e:H a=some (.tup (ks.map kV))):(tupleKind (bY P w)).is h ks a:=by
 obtain⟨_,ZV,r,o,h1,h2,n,h3⟩:=(show cu P w H h a (.tup (ks.map kV)) from ok a _ e);exact⟨o,ZV.toArray,n,h1,h2,h3,by simpa using ya r⟩
theorem vQ(ok:HOk P w H h)(e:Rd H a (.dT kvs)):kvs.length<=SG/\(a == sysModules)=false /\
  ∃xs,KT H kvs xs/\h.DictOfH (tupleKind (bY P w)) a xs:=by
 obtain⟨z,y,xs,r,o,es,ep,h1,h2,h3,h4,h5⟩:=(show cu P w H h a (.dT kvs) from KW ok e);refine⟨z,y,xs,r,o,es,ep,h1,h2,h3,h4,λx hx=>?_,h5⟩;have all:∀ {l:List (List Key×V)} {m:List (List Key×Addr×Value)},KT H l m->∀x∈m,(tupleKind (bY P w)).is h x.1 x.2.1:=by
  intro l m q
  induction q with
  | nil=>intro x hx;exact nomatch hx
  | @cons p q ps qs hq t ih =>
   intro x hx;rcases Sf.mp hx with e|hx
   .subst e;exact rq ok (by rw[<- hq.1];exact hq.2.1)
   .exact ih x hx
 exact all r x hx
theorem QG(ok:HOk P w H h)(e:H a=some (.dT kvs)):kvs.length<=SG/\(a == sysModules)=false /\
  ∃xs,KT H kvs xs/\h.DictOfH (tupleKind (bY P w)) a xs:=vQ ok (.inl e)
def iC(H:Hp)(a:Addr)(y:V)(r:ZQ):Prop :=
 (∃kvs k,Rd H a (.dK kvs)/\y=kV k/\r=bq kvs k)\/∃kvs k b,Rd H a (.dT kvs)/\y=.ref b/\H b=some (.tup (k.map kV))/\r=bq kvs k
def wk(H:Hp)(a:Addr)(y v:V)(H':Hp):Prop :=
 (∃kvs k,H a=some (.dK kvs)/\y=kV k/\kvs.length<SG/\H'=upd H a (.dK (putK kvs k v))) \/
 ∃kvs k b,H a=some (.dT kvs)/\y=.ref b/\H b=some (.tup (k.map kV))/\kvs.length<SG/\H'=upd H a (.dT (putK kvs k v))
theorem iC.k{H:Hp}{a:Addr}{kvs:Z2}{k:Key}(e:H a=some (.dK kvs)):iC H a (kV k) (bq kvs k):=.inl ⟨kvs,k,.inl e,rfl,rfl⟩
theorem wk.k{H:Hp}{a:Addr}{kvs:Z2}{k:Key}{v:V}(e:H a=some (.dK kvs))(hl:kvs.length<SG):wk H a (kV k) v (upd H a (.dK (putK kvs k v))):=.inl ⟨kvs,k,e,rfl,hl,rfl⟩
section
variable {r:Value} 
theorem Inv.big(I:Inv X dh σ H s):sysModules<s.heap.objs.size:=by
 have h:S4<s.heap.objs.size:=(I.mod.glob.keeps I.bk).lt;exact WI (by decide) h
theorem GS(hu:A.units+1<cLine)(I:Inv X dh σ H s)(g:iC H a y (some v))(ry:RelV y u)(h:∀w' s',Inv X dh σ H s'->RelV v w'->Q w' s') :
  wpAny (model X.prog X.w) A (getItem (.ref a) u) Q E s:=by
 walk_at "134"
 .subst ey;obtain⟨z,hd,vs,rel,dd⟩:=vk I.hok e;obtain⟨w',hw,rw'⟩:=gf.some_of (v:=v) (o:=valueAt vs k) (by rw[l];exact rel.val k)
  exact wpAny_getItem_of (mQ ry) dd.mapOf hw (h w' _ (I.tok _) rw')
 .walk_at "122";obtain⟨w',hw,rw'⟩:=gf.some_of (v:=v) (o:=(atKey xs k).map (·.2)) (by rw[l];exact rel.val k)
  obtain⟨p,hp,hp2⟩:=Tv.mp hw;refine wpAny_getItem_heap (Wg hu) (rq I.hok eb) dd hp ?_;rw[hp2];exact h w' _ (I.tok _) rw'
theorem Rn(hu:A.units+1<cLine)(I:Inv X dh σ H s)(g:iC H a y o)(ry:RelV y u)(h:∀s',Inv X dh σ H s'->Q (.bool o.isSome) s') :
  wpAny (model X.prog X.w) A (compareOp .In u (.ref a)) Q E s:=by
 walk_at "134"
 .subst ey;obtain⟨z,hd,vs,rel,dd⟩:=vk I.hok e;refine wpAny_in_of (mQ ry) hd dd.mapOf ?_;rw[<- (rel.val k).kD,<- l];exact h _ (I.tok _)
 .walk_at "122";refine wpAny_in_heap (Wg hu) (rq I.hok eb) hd dd ?_;have q:=(rel.val k).kD;rw[XJ]at q;rw[<- q,<- l];exact h _ (I.tok _)
theorem Mc(hu:A.units+1<cLine)(I:Inv X dh σ H s)(g:iC H a y o)(ry:RelV y u)(h:∀s',Inv X dh σ H s'->Q (.bool (!o.isSome)) s') :
  wpAny (model X.prog X.w) A (compareOp .NotIn u (.ref a)) Q E s:=by
 walk_at "134"
 .subst ey;obtain⟨z,hd,vs,rel,dd⟩:=vk I.hok e;refine wpAny_notIn_of (mQ ry) hd dd.mapOf ?_;rw[<- (rel.val k).kD,<- l];exact h _ (I.tok _)
 .walk_at "122";refine wpAny_notIn_heap (Wg hu) (rq I.hok eb) hd dd ?_;have q:=(rel.val k).kD;rw[XJ]at q;rw[<- q,<- l];exact h _ (I.tok _)
theorem xg{t':Nat}{ob:HO}(I:Inv X dh σ H s)(mu:Mut (H a))(hs:VF a s.heap h')(he:∃q,h'.get? a=some q)(new:cu X.prog X.w (upd H a ob) h' a ob) :
  Inv X dh σ (upd H a ob) { s with heap:=h',toks:=t' } :=
 I.write (x:=a) (e:=a) mu (.inl rfl) (λb q hb z=>(hs.2 b hb).trans z) he new
theorem uE{kvs:Z2}{vs:List (Key×Value)}(z:kvs.length<=SG)(hd:(a == sysModules)=false)(rel:KV kvs vs)(dd:h'.DictOf (bY P w) a vs) :
  cu P w H' h' a (.dK kvs):=⟨z,hd,vs,rel,dd⟩
theorem HJ{Q:Unit->RV->Prop}(hu:A.units+1<cLine)(I:Inv X dh σ H s)(g:wk H a y v H')(ry:RelV y u)(rv:RelV v r)(h:∀s',Inv X dh σ H' s'->Q () s') :
  wpAny (model X.prog X.w) A (setItem (.ref a) u r) Q E s:=by
 rcases g with ⟨kvs,k,e,ey,l,eH⟩|⟨kvs,k,b,e,ey,eb,l,eH⟩
 .subst ey eH;obtain⟨z,hd,vs,rel,dd⟩:=zV I.hok e;have hz:vs.length<=SG:=by rw[<- rel.length];exact z
  have hl:(putK kvs k v).length<=SG:=by have:=gW kvs k v;lia
  refine wpAny_setItem_pairs (hsz:=hz) (mQ ry) dd λh' dd' hs=>h _ ?_;have he:∃q,h'.get? a=some q:=let ⟨q,_,_,hq,_⟩:=dd';⟨q,hq⟩;exact xg I (by rw[e];exact VQ) hs he (uE hl hd (rel.put k rv) dd')
 .subst ey eH;cases(show u=SR b from ry);obtain⟨z,hd,xs,rel,dd⟩:=QG I.hok e;have hz:xs.length<=SG:=by rw[<- WQ rel];exact z
  have hl:(putK kvs k v).length<=SG:=by have:=gW kvs k v;lia
  refine wpAny_setItem_heap (hsz:=hz) (Wg hu) (rq I.hok eb) dd λh' dd' hs=>h _ ?_;obtain⟨q,es,ep,hq,h2,h3,h4,_,h5⟩:=dd';refine xg I (by rw[e];exact VQ) hs ⟨q,hq⟩ ⟨hl,hd,_,(rel.put k eb rv).keeps λc ys ec=>?_,q,es,ep,hq,h2,h3,h4,h5⟩
  rw[ak (QL ec e (λz=>nomatch z))];exact ec
end
section
variable {kvs:Z2}{k:Key} 
end
def Ji(i:Expr):Prop:=∀ov iv,subscripted i false ov iv=operate [ov,iv] (getItem ov iv)
theorem D6{env:Env}{slice:Expr}{T id:String} 
  (hl:typeLookup (.type T) "__getitem__" = pure (some (.builtin id))) (hs:Ji slice)
  (h:wpAny (model prog w) A (eval value env) (λo s₁=>wpAny (model prog w) A (eval slice env) (λi s₂=>s₂.TypeIs o T/\wpAny (model prog w) A (getItem o i) Q E s₂) E s₁) E s) :
  wpAny (model prog w) A (eval (.Subscript value slice pos) env) Q E s:=by
 refine Subscript_ (UD h (λo s₁ h₁=>UD h₁ (λi s₂ h₂=>?_) λ_ _ x=>x) λ_ _ x=>x);obtain⟨hT,h₂⟩:=h₂;unfold subscriptTail;refine RO ?_;rw[getitemInPython_of_ne hT.not_modules];refine RO (We hT hl ?_);have fin:wpAny (model prog w) A (subscripted slice false o i) (λr s₃=>wpAny (model prog w) A (letTemporaryGo value o r >>= λ_=>pure r) Q E s₃) E s₂:=by
  rw[hs o i];exact wpAny_operating (UD h₂ (λr s₃ h₃=>RO (wpAny_letTemporaryGo (R1 h₃))) λ_ _ x=>x)
 first
  | exact R1 (RO fin)
  | exact RO (R1 (RO fin))
  | exact RO fin
theorem De(I:Inv X dh σ H s)(g:iC H a y o):s.TypeIs (.ref a) "dict":=by
 rcases g with ⟨kvs,k,e,_,_⟩|⟨kvs,k,b,e,_,_,_⟩
 .obtain⟨_,_,vs,_,dd⟩:=vk I.hok e;exact dd.typeIs
 .obtain⟨_,_,xs,_,dd⟩:=vQ I.hok e;exact dd.typeIs
def KY(td ty:TE):TE:=λσ H Q=>td σ H λx H1=>ty σ H1 λy H2=>∃a v,x=.ref a/\iC H2 a y (some v)/\Q v H2
def NM(ty td:TE):TE:=λσ H Q=>ty σ H λy H1=>td σ H1 λx H2=>∃a o,x=.ref a/\iC H2 a y o/\Q (.bl o.isSome) H2
def Ds(ty td:TE):TE:=λσ H Q=>ty σ H λy H1=>td σ H1 λx H2=>∃a o,x=.ref a/\iC H2 a y o/\Q (.bl (!o.isSome)) H2
def K3(td ty tv:TE):TS:=λD σ H=>tv σ H λv H1=>td σ H1 λx H2=>ty σ H2 λy H3=>∃a H4,x=.ref a/\wk H3 a y v H4/\D.nx σ H4
section
variable {o i:Expr}{td ty:TE}
theorem dC(hu:X.A.units+1<cLine)(ho:PE X o td)(hi:PE X i ty)(hs:Ji i):PE X (.Subscript o i pos) (KY td ty):=by
 f_are;refine D6 Xw.lookup hs (thn (ho dh s σ H _ I h) λu s1 ⟨x,H1,I1,rx,q1⟩=>thn (hi dh s1 σ H1 _ I1 q1) λiv s2 ⟨y,H2,I2,ry,a,v,ex,g,q2⟩=>?_);walk_at "135";exact⟨De I2 g,GS hu I2 g ry λw' s3 I3 rw'=>⟨v,H2,I3,rw',q2⟩⟩
theorem NG(hu:X.A.units+1<cLine)(hi:PE X i ty)(ho:PE X o td):PC X .In i o (NM ty td):=by
 f_are;refine thn (hi dh s σ H _ I h) λiv s1 ⟨y,H1,I1,ry,q1⟩=>thn (ho dh s1 σ H1 _ I1 q1) λu s2 ⟨x,H2,I2,rx,a,ov,ex,g,q2⟩=>?_;walk_at "135";exact Rn hu I2 g ry λs3 I3=>⟨.bl ov.isSome,H2,I3,rfl,q2⟩
theorem qZ(hu:X.A.units+1<cLine)(hi:PE X i ty)(ho:PE X o td):PC X .NotIn i o (Ds ty td):=by
 f_are;refine thn (hi dh s σ H _ I h) λiv s1 ⟨y,H1,I1,ry,q1⟩=>thn (ho dh s1 σ H1 _ I1 q1) λu s2 ⟨x,H2,I2,rx,a,ov,ex,g,q2⟩=>?_;walk_at "135";exact Mc hu I2 g ry λs3 I3=>⟨.bl (!ov.isSome),H2,I3,rfl,q2⟩
theorem lG(hu:X.A.units+1<cLine)(ho:PE X o td)(hi:PE X i ty)(hv:PE X value tv)(hs:swapsWith value (some (.Subscript o i pos')) pos.line X.env=pure false) :
  PS X (.Assign [.Subscript o i pos'] value pos) (K3 td ty tv):=by
 l_idx;refine wpAny_Assign_Subscript (thn (hv dh s σ H _ I h) λr s1 ⟨v,H1,I1,rv,q1⟩=>thn (ho dh s1 σ H1 _ I1 q1) λu s2 ⟨x,H2,I2,rx,q2⟩=>thn (hi dh s2 σ H2 _ I2 q2) λiv s3 ⟨y,H3,I3,ry,a,H4,ex,g,q3⟩=>?_) hs;walk_at "135";exact HJ hu I3 g ry rv λs4 I4=>⟨σ,H4,I4,q3⟩
end
theorem BR(h:Heap)(hb:sysModules<h.objs.size):cu P w H (h.push { cls:=.type "dict",data:=.dict #[] }) h.objs.size (.dK []) :=
 ⟨SO _,beq_eq_false_iff_ne.mpr (UA (Sa hb)),[],.nil,Heap.DictOf.new h⟩
def GC:TE:=λ_ H Q=>∀p,H p=none->Q (.ref p) (upd H p (.dK []))
theorem l6:PE X (.Dict [] [] pos) GC:=λdh s σ H Q I h =>
 wpAny_Dict_empty ⟨.ref s.heap.objs.size,_,I.laid (a:=s.heap.objs.size) (o:=.dK []) (t':=s.toks) (λ_ _ q=>RW _ q) (R6 _) (BR s.heap I.big),rfl,h _ (I.hok.fresh (R6 _))⟩
def Bn:List (TE×TE)->St->Hp->(List (V×V)->Hp->Prop)->Prop
 | [],_,H,Q=>Q [] H
 | (tk,tv) :: r,σ,H,Q=>tk σ H λx H1=>tv σ H1 λy H2=>Bn r σ H2 λps H3=>Q ((x,y) :: ps) H3
abbrev VV:List (V×V)->List (Value×Value)->Prop:=Tb λp q=>RelV p.1 q.1/\RelV p.2 q.2
def PPs(X:Cx)(pos:Pos)(keys:List (Option Expr))(values:Z9)(trs:List (TE×TE)):Prop :=
 ∀ (dh:Z0) (s:RV) (σ:St) (H:Hp) (Q:List (V×V)->Hp->Prop),Inv X dh σ H s->Bn trs σ H Q ->
  wpAny (model X.prog X.w) X.A (evalPairs (pairTrees keys values X.env pos)) (λvs s'=>∃ps H',Inv X dh σ H' s'/\VV ps vs/\Q ps H') X.xe s
theorem Mu :PPs X pos [] [] []:=λdh s σ H Q I h=>pairTrees_nil_walk ⟨[],H,I,.nil,h⟩
theorem JW{k v:Expr}{vs:Z9}{tk:TE}(hk:PE X k tk)(hv:PE X v tv)(hr:PPs X pos ks vs trs) :
  PPs X pos (some k :: ks) (v :: vs) ((tk,tv) :: trs):=λdh s σ H Q I h =>
 pairTrees_cons_walk (thn (hk dh s σ H _ I h) λu s1 ⟨x,H1,I1,rx,q1⟩=>thn (hv dh s1 σ H1 _ I1 q1) λw2 s2 ⟨y,H2,I2,ry,q2⟩ =>
  thn (hr dh s2 σ H2 _ I2 q2) λws s3 ⟨ps,H3,I3,rel,q3⟩=>⟨(x,y) :: ps,H3,I3,.cons ⟨rx,ry⟩ rel,q3⟩)
def gR(kvs more:Z2):Z2:=more.foldl (λacc kv=>putK acc kv.1 kv.2) kvs
theorem KV.merge:∀ {more:Z2} {rs:List (Key×Value)} {kvs:Z2} {vs:List (Key×Value)},KV more rs->KV kvs vs->KV (gR kvs more) (merged vs rs):=by
 intro more rs kvs vs r;unfold KV at r
 induction r generalizing kvs vs with
 | nil=>intro q;exact q
 | @cons p q ps qs h t ih =>
  intro r0;have e:KV (putK kvs p.1 p.2) (stored vs q.1 q.2):=by
   have:=r0.put p.1 h.2;rw[<- h.1];l_out
  exact ih e
theorem qz:∀ (more kvs:Z2),(gR kvs more).length<=kvs.length+more.length
 | [],kvs=>by show kvs.length<=kvs.length+0;lia
 | p :: r,kvs=>by
  have h1:=qz r (putK kvs p.1 p.2);have h2:=gW kvs p.1 p.2;show (gR (putK kvs p.1 p.2) r).length<=_;rw[SU];lia
theorem uU{P:Sj}{w:World}:∀ {kvs:Z2} {ws:List (Value×Value)},VV (kvs.map λkv=>(kV kv.1,kv.2)) ws->∃rs,Carries (bY P w) ws rs/\KV kvs rs
 | [],_,r=>by rw[Zq]at r;cases r;exact⟨[],VQ,.nil⟩
 | p :: kvs,_,r=>by
  rw[S6]at r;cases r with
  | @cons a b as bs h t =>
   obtain⟨rs,c,q⟩:=uU (P:=P) (w:=w) t;obtain⟨b1,b2⟩:=b;exact⟨(p.1,b2) :: rs,⟨mQ h.1,rfl,c⟩,.cons ⟨rfl,h.2⟩ q⟩
def KS(trs:List (TE×TE)):TE:=λσ H Q=>∀p,H p=none->Bn trs σ (upd H p (.dK [])) λps H2=>H2 p=some (.dK [])/\∃kvs:Z2,ps=kvs.map (λkv=>(kV kv.1,kv.2))/\kvs.length<=15/\Q (.ref p) (upd H2 p (.dK (gR [] kvs)))
theorem LI(h:PPs X pos keys values trs)(f':keys.all (·.isSome)=true)(hl:keys.length=values.length)(h0:keys≠[])
  (h15:keys.length<=15):PE X (.Dict keys values pos) (KS trs):=by
 intro dh s σ H Q I q;have hn:=I.hok.fresh (R6 s.heap.objs.size);have I1:=I.laid (a:=s.heap.objs.size) (o:=.dK []) (h':=s.heap.push { cls:=.type "dict",data:=.dict #[] }) (t':=s.toks) (λ_ _ q=>RW _ q) (R6 _) (BR s.heap I.big);refine wpAny_Dict_walk (knd:=bY X.prog X.w) f' hl h0 h15 (thn (h dh _ σ _ _ I1 (q _ hn)) λws s2 ⟨ps,H2,I2,rel,e,kvs,ep,lk,q2⟩=>?_);subst ep;obtain⟨rs,c,rk⟩:=uU (P:=X.prog) (w:=X.w) rel;obtain⟨z,hd,vs0,r0,dd⟩:=zV I2.hok e;cases r0;refine⟨rs,c,dd,λh' dd' hs=>⟨.ref s.heap.objs.size,_,?_,rfl,q2⟩⟩;have hz:(gR [] kvs).length<=SG:=by
  have h1:=qz kvs [];rw[Wf]at h1;rw[SH];lia
 have he:∃q,h'.get? s.heap.objs.size=some q:=let ⟨q,_,_,hq,_⟩:=dd';⟨q,hq⟩;exact xg I2 (by rw[e];exact VQ) hs he (uE hz hd (rk.merge .nil) dd')
section
variable {d:V}{r:Value} 
end
section
variable {o f:Expr}{d5:Pos}{td ty tx:TE}
end
section
variable {kvs:Z2} 
end
end L2
namespace Att
open PySem PySem.W PySem.Calls PyProof.Rows
section
variable {prog:Sj}{w:World}{A:S7}{E:Value->RV->Prop}{s:RV}{K:Frag}
end
end Att
namespace L2
open PySem PySem.Spec PyProof.Rows
variable {C I a d globals p:Addr}{G:Array WC->Array WC->Prop}{X:Cx}{D:Ends}{e tg:Expr}{H:Hp}{dh:Z0}{kvs:Z2}{vs:List (Key×Value)}{L:AC}{cl:List (Str×Addr)}{fp ps wr:ZL}{es ifs:Z9}{F:AT}{N own:ZN}{xs:Z7}{us:Z8}{ep f i k n:Nat}{P:Nat->Value->Prop}{pos:Pos}{K:RM}{s:RV}{A:S7}{sc scope:Scope}{pl:Sem Bool}{prog:Sj}{sp:Sp}{st:Stmt}{m mg:Z6}{ta td tl ty:TE}{g:TG}{t:TS}{tt:TT}{v:V}{Q:VK}{u:Value}{RR:Value->Addr->Ys->RV->Prop}{E:Value->RV->Prop}{w:World}{R:Ys->RV->Prop}
section
variable {P:Sj}{base:Heap}
end
section
variable {κ:Type}[DecidableEq κ]
theorem sM:∀ {l:List κ} {k:κ},l.Nodup->¬ k∈l->(l++[k]).Nodup
 | [],k,_,_=>by simp
 | a :: r,k,h,hk=>by
  obtain⟨h1,h2⟩:=SS.mp h;show (a :: (r++[k])).Nodup;refine SS.mpr ⟨λm=>?_,sM h2 λm=>hk (Sf.mpr (Or.inr m))⟩;rcases R5.mp m with q|q
  .exact h1 q
  .exact hk (Sf.mpr (VW (RX.mp q).symm))
end
section
variable {σ:St}{fr:AT}
theorem tX{J:It}(W:Addr->Nat->St->Hp->List V->Prop)(hz:n<=100000)
  (hgo:∀d i σ' H' ys,i<n->W d i σ' H' ys->J.go i H') (X':∀d σ' H' ys,W d n σ' H' ys->J.stop n H')
  (N!:∀d i σ' H' ys,i<=n->W d i σ' H' ys->ys.length<=i) (h0:∀d,H d=none->W d 0 (cD own fr σ) (upd H d (.lst [])) [])
  (turn:∀d i σ' H' ys x H2 (R:St->V->Hp->Prop) (R0:Z5),H d=none->i<n->W d i σ' H' ys->H' d=some (.lst ys)->J.yld i H' x H2 ->
   (∀σ2 y H5,H5 d=some (.lst ys)->W d (i+1) σ2 (upd H5 d (.lst (ys++[y]))) (ys++[y])->R σ2 y H5)->(∀σ2 H5,H5 d=some (.lst ys)->W d (i+1) σ2 H5 ys->R0 σ2 H5) ->
   g x σ' H2 λσ2 H3=>tt σ2 H3 λok H4=>if ok=true then ta σ2 H4 (R σ2) else R0 σ2 H4)
  (fin:∀d σ' H' ys,H d=none->H' d=some (.lst ys)->W d n σ' H' ys->Q (.ref d) H'):fj own fr g tt ta σ Q J H:=by
 intro d hd;refine⟨λi m σ' H'=>m=n - i/\i<=n/\∃ys,H' d=some (.lst ys)/\W d i σ' H' ys,⟨n,rfl,SO _,[],aj,h0 d hd⟩,?_⟩;rintro i m σ' H' ⟨rfl,hi,ys,h!,w⟩
 by_cases ZW:i<n
 .refine .inr ⟨hgo d i σ' H' ys ZW w,λx H2 hx=>turn d i σ' H' ys x H2 _ _ hd ZW w h! hx (λσ2 y H5 h1 h2=>?_) (λσ2 H5 h1 h2=>?_)⟩
  .have hl:=N! d i σ' H' ys hi w;exact⟨ys,h1,Ti (show ys.length<=100000 by lia) (by rw[SH];decide),n - (i+1),by lia,rfl,ZW,_,aj,h2⟩
  .exact⟨n - (i+1),by lia,rfl,ZW,ys,h1,h2⟩
 .have e:i=n:=by lia
  subst e;exact .inl ⟨X' d σ' H' ys w,fin d σ' H' ys hd h! w⟩
theorem FJ{a:Int}(e:a=(n:Int))(hz:n<=100000)(W:Addr->Nat->St->Hp->List V->Prop)
  (N!:∀d i σ' H' ys,i<=n->W d i σ' H' ys->ys.length<=i) (h0:∀d,H d=none->W d 0 (cD own fr σ) (upd H d (.lst [])) [])
  (turn:∀d i σ' H' ys (R:St->V->Hp->Prop) (R0:Z5),H d=none->i<n->W d i σ' H' ys->H' d=some (.lst ys) ->
   (∀σ2 y H5,H5 d=some (.lst ys)->W d (i+1) σ2 (upd H5 d (.lst (ys++[y]))) (ys++[y])->R σ2 y H5)->(∀σ2 H5,H5 d=some (.lst ys)->W d (i+1) σ2 H5 ys->R0 σ2 H5) ->
   g (.int i) σ' H' λσ2 H3=>tt σ2 H3 λok H4=>if ok=true then ta σ2 H4 (R σ2) else R0 σ2 H4)
  (fin:∀d σ' H' ys,H d=none->H' d=some (.lst ys)->W d n σ' H' ys->Q (.ref d) H'):uw [.int a] H (fj own fr g tt ta σ Q):=by
 subst e;refine⟨n,rfl,by lia,by lia,?_⟩
 have z:((n:Int)).toNat=n:=by lia
 show fj own fr g tt ta σ Q (Itr 0 (n:Int).toNat) H;rw[z];refine tX (n:=n) W hz (λd i σ' H' ys hi _=>hi) (λd σ' H' ys _=>R6 n) N! h0 (λd i σ' H' ys x H2 R R0 hd hi w h! hy=>?_) fin;obtain⟨e1,e2⟩:=hy;subst e1 e2;rw[Zr];exact turn d i σ' _ ys R R0 hd hi w h!
theorem ff(hz:xs.length<=100000)(W:Addr->Nat->St->Hp->List V->Prop)(hw:∀d i σ' H' ys,W d i σ' H' ys->SqL K H' p xs)(hS:SqL K H p xs)
  (N!:∀d i σ' H' ys,i<=xs.length->W d i σ' H' ys->ys.length<=i) (h0:∀d,H d=none->W d 0 (cD own fr σ) (upd H d (.lst [])) [])
  (turn:∀d i x σ' H' ys (R:St->V->Hp->Prop) (R0:Z5),H d=none->xs[i]?=some x->W d i σ' H' ys->H' d=some (.lst ys) ->
   (∀σ2 y H5,H5 d=some (.lst ys)->W d (i+1) σ2 (upd H5 d (.lst (ys++[y]))) (ys++[y])->R σ2 y H5)->(∀σ2 H5,H5 d=some (.lst ys)->W d (i+1) σ2 H5 ys->R0 σ2 H5) ->
   g x σ' H' λσ2 H3=>tt σ2 H3 λok H4=>if ok=true then ta σ2 H4 (R σ2) else R0 σ2 H4)
  (fin:∀d σ' H' ys,H d=none->H' d=some (.lst ys)->W d xs.length σ' H' ys->Q (.ref d) H'):gL K (.ref p) H (fj own fr g tt ta σ Q):=by
 refine⟨p,rfl,⟨xs,hS⟩,tX (J:=Itl K p) (n:=xs.length) W hz (λd i σ' H' ys hi w=>⟨xs,xs[i],hw d i σ' H' ys w,by simp[hi]⟩) (λd σ' H' ys w=>⟨xs,hw d _ σ' H' ys w,R6 _⟩) N! h0 (λd i σ' H' ys x H2 R R0 hd hi w h! hy=>?_) fin⟩
 obtain⟨e1,e2⟩:=hy;subst e1;exact turn d i x σ' _ ys R R0 hd (e2 xs (hw d i σ' _ ys w)) w h!
theorem HE{ia ib:Nat}(hz:xs.length<=100000)(W:Addr->Nat->St->Hp->List V->Prop)(hw:∀d i σ' H' ys,W d i σ' H' ys->SqL K H' p xs)(hS:SqL K H p xs)
  (N!:∀d i σ' H' ys,i<=xs.length->W d i σ' H' ys->ys.length<=i) (h0:∀d,H d=none->W d 0 (cD own fr σ) (upd H d (.lst [])) [])
  (turn:∀d i x σ' H' H2 ys (R:St->V->Hp->Prop) (R0:Z5),H d=none->xs[i]?=some x->W d i σ' H' ys->H' d=some (.lst ys)->ag H' H2 ->
   (∀σ2 y H5,H5 d=some (.lst ys)->W d (i+1) σ2 (upd H5 d (.lst (ys++[y]))) (ys++[y])->R σ2 y H5)->(∀σ2 H5,H5 d=some (.lst ys)->W d (i+1) σ2 H5 ys->R0 σ2 H5) ->
   tt ((σ'.set ia (some (.int i))).set ib (some x)) H2 λok H4=>if ok=true then ta ((σ'.set ia (some (.int i))).set ib (some x)) H4 (R ((σ'.set ia (some (.int i))).set ib (some x))) else R0 ((σ'.set ia (some (.int i))).set ib (some x)) H4)
  (fin:∀d σ' H' ys,H d=none->H' d=some (.lst ys)->W d xs.length σ' H' ys->Q (.ref d) H'):vW K [.ref p] H (fj own fr (BU K 2 (iU (dZ ia) (iU (dZ ib) xf))) tt ta σ Q):=by
 refine⟨p,xs,rfl,hS,tX (J:=Ite K p) (n:=xs.length) W hz (λd i σ' H' ys hi w=>⟨xs,xs[i],hw d i σ' H' ys w,by simp[hi]⟩) (λd σ' H' ys w=>⟨xs,hw d _ σ' H' ys w,R6 _⟩) N! h0 (λd i σ' H' ys x H2 R R0 hd hi w h! hy hR a!=>?_) fin⟩
 obtain⟨q,x',rfl,hq,rfl,e2⟩:=hy;have hx:=e2 xs (hw d i σ' H' ys w);refine⟨q,[.int i,x'],rfl,SqT.of aj,rfl,⟨_,_,rfl,⟨_,_,rfl,⟨rfl,?_⟩⟩⟩⟩;exact turn d i x' σ' H' _ ys R R0 hd hx w h! (ar hq _) hR a!
end
theorem Tbl.nil :Tbl (upd H d (.lst [])) d [] []:=⟨aj,VX,by simp,rfl,λi p r e=>by simp at e⟩
theorem Tbl.snoc{H5:Hp}{s:AT}(h:Tbl H d L ps)(hs:ag H H5)(hp:H5 p=some (.lst (aw s)))(hn:p∉ps)(hd:p≠d) :
  Tbl (upd H5 d (.lst (ps.map V.ref++[.ref p]))) d (L++[s]) (ps++[p]):=by
 refine⟨?_,?_,?_,?_,λi q r e1 e2=>?_⟩
 .rw[aj,SQ];rfl
 .exact sM h.nd hn
 .intro z;rcases R5.mp z with z|z
  .exact h.ap z
  .exact hd (RX.mp z).symm
 .rw[R8,R8,h.len];rfl
 .have hl:=h.len;rcases Sb i ps.length with z|z
  .rw[Sz z]at e1;rw[Sz (by lia)]at e2
   have hq:q≠d:=λc=>h.ap (c ▸ RQ e1);rw[ak hq];exact hs _ _ (h.row i q r e1 e2)
  .rw[SE z]at e1;rw[SE (by lia)]at e2
   have i0:i - ps.length=0:=by
    rcases Tc (i - ps.length) with c|c
    .exact c
    .rw[Sm (by simp;lia)]at e1;cases e1
   rw[i0]at e1;rw[show i - L.length=0 by lia]at e2
   cases e1;cases e2;rw[ak hd];exact hp
section
variable {σ:St}{tv:TE}
def nk(k:Nat):Key:=XZ (k:Int)
def Kn(x y:V)(H:Hp)(Q:VK):Prop:=∃a v,x=.ref a/\iC H a y (some v)/\Q v H
def Na(y x:V)(H:Hp)(Q:VK):Prop:=∃a o,x=.ref a/\iC H a y o/\Q (.bl o.isSome) H
def D1(y x:V)(H:Hp)(Q:VK):Prop:=∃a o,x=.ref a/\iC H a y o/\Q (.bl (!o.isSome)) H
def K5(x y v:V)(H:Hp)(D:Hp->Prop):Prop:=∃a H4,x=.ref a/\wk H a y v H4/\D H4
theorem dB(h:td σ H λx H1=>ty σ H1 λy H2=>Kn x y H2 Q):KY td ty σ H Q:=h
theorem Oe(h:ty σ H λy H1=>td σ H1 λx H2=>Na y x H2 Q):NM ty td σ H Q:=h
theorem rf(h:ty σ H λy H1=>td σ H1 λx H2=>D1 y x H2 Q):Ds ty td σ H Q:=h
theorem lM(h:tv σ H λv H1=>td σ H1 λx H2=>ty σ H2 λy H3=>K5 x y v H3 (D.nx σ)):K3 td ty tv D σ H:=h
theorem dR(h:H a=some (.dK kvs))(hv:bq kvs (nk k)=some v)(q:Q v H):Kn (.ref a) (.int k) H Q :=
 ⟨a,v,rfl,by rw[<- hv];exact iC.k (k:=nk k) h,q⟩
theorem um(h:H a=some (.dK kvs))(q:Q (.bl (!(bq kvs (nk k)).isSome)) H):D1 (.int k) (.ref a) H Q :=
 ⟨a,_,rfl,iC.k (k:=nk k) h,q⟩
theorem Pn(h:H a=some (.dK kvs))(q:Q (.bl ((bq kvs (nk k)).isSome)) H):Na (.int k) (.ref a) H Q :=
 ⟨a,_,rfl,iC.k (k:=nk k) h,q⟩
theorem oE{D:Hp->Prop}(h:H a=some (.dK kvs))(hl:kvs.length<=100000)(q:D (upd H a (.dK (putK kvs (nk k) v)))):K5 (.ref a) (.int k) v H D :=
 ⟨a,_,rfl,wk.k (k:=nk k) h (Ti hl (by rw[SH];decide)),q⟩
theorem rO(h:∀p,H p=none->Q (.ref p) (upd H p (.dK []))):GC σ H Q:=h
theorem L5{tk:TE}(h:∀p,H p=none->tk σ (upd H p (.dK [])) λx H1=>tv σ H1 λy H2=>H2 p=some (.dK [])/\∃kvs:Z2,[(x,y)]=kvs.map (λkv=>(kV kv.1,kv.2))/\kvs.length<=15/\Q (.ref p) (upd H2 p (.dK (gR [] kvs)))):KS [(tk,tv)] σ H Q:=h
theorem gj{a b:Nat}(h:nk a=nk b):a=b:=X2 (XZ.inj h)
def dJ(F:AT)(ps:ZL):Z2:=(F.zip ps).map λx=>(nk x.1,V.ref x.2)
theorem BP :(dJ F ps).length<=F.length:=by
 unfold dJ;rw[RP,WZ];lia
theorem q9:∀ {F:AT} {ps:ZL} {f:Nat},f∉F->bq (dJ F ps) (nk f)=none
 | [],_,_,_=>rfl
 | _ :: _,[],_,_=>rfl
 | a :: F,p :: ps,f,h=>by
  have h1:¬ nk a=nk f:=λz=>h (by rw[gj z];exact R4)
  show bq ((nk a,V.ref p) :: dJ F ps) (nk f)=none;rw[b7 h1];exact q9 λz=>h (R3 _ z)
theorem jG:∀ {F:AT} {ps:ZL} {j f:Nat} {p:Addr},F.Nodup->F[j]?=some f->ps[j]?=some p->bq (dJ F ps) (nk f)=some (.ref p)
 | [],_,_,_,_,_,h,_=>by simp at h
 | _ :: _,[],_,_,_,_,_,h=>by simp at h
 | a :: F,q :: ps,0,f,p,_,h1,h2=>by
  cases h1;cases h2;exact de rfl
 | a :: F,q :: ps,j+1,f,p,nd,h1,h2=>by
  have h1':F[j]?=some f:=h1;have h2':ps[j]?=some p:=h2;obtain⟨n1,n2⟩:=SS.mp nd;have h3:¬ nk a=nk f:=λz=>n1 (by rw[gj z];exact RQ h1')
  show bq ((nk a,V.ref q) :: dJ F ps) (nk f)=_;rw[b7 h3];exact jG n2 h1' h2'
theorem Lv(nd:F.Nodup)(hl:ps.length=F.length):(bq (dJ F ps) (nk f)).isSome=decide (f∈F):=by
 by_cases h:f∈F
 .obtain⟨j,hj⟩:=Sk h;have Q!:j<ps.length:=by rw[hl];exact(RN.mp hj).1
  rw[jG nd hj (RL Q!),decide_eq_true h];rfl
 .rw[q9 h,decide_eq_false h];rfl
theorem yk(hl:ps.length=F.length)(h:f∉F):putK (dJ F ps) (nk f) (.ref p)=dJ (F++[f]) (ps++[p]):=by
 rw[qi _ (q9 h)];unfold dJ;rw[List.zip_append hl.symm,SQ];rfl
end
theorem El:typeLookup (.type "list_reverseiterator") "__len__" = pure none:=by rw[W2,VN];kernel_rfl
theorem JK:typeLookup (.type "list_reverseiterator") "__length_hint__" = pure (some (.builtin "list_reverseiterator.__length_hint__")):=by rw[W2,VN];kernel_rfl
section
variable {St:Nat->RV->Prop}
theorem Er(W:WalksS prog w A.in1 I fp wr G n P St)(hT:∀i s,St i s->s.TypeIs (.ref I) "list_reverseiterator")(S:Addr)(res:Value)(c₀:Nat)(X':St 0 s)(hSf:S∉fp)(hI:I∈fp)
  (hS:s.heap.get? S=some { cls:=.type "list",data:=.seq #[] c₀ })
  (hR:∀s' N' c',Moved (S :: wr) G s s'->s'.heap.get? S=some { cls:=.type "list",dict:=none,data:=.seq N' c',slots:=#[] }->ZJ P N' n->R (.ok (.ret res)) s') (hn:n<=SG) :
  wpAny (model prog w) A.in1 (TR (.ref S) (.ref I) res)
   (λfin s'=>match fin with | .done f=>R (.ok f) s' | .again c'=>c'.quiet=true/\codeAny (model prog w) A c' R s') (λe s'=>R (.error e) s') s:=by
 have hSI:S≠I:=λe=>hSf (e ▸ hI);have h1:Vk (.ref S) (.ref I)=false:=by simp[Vk,hSI]
 unfold TR;refine RO (V6 (hT 0 _ X') ?_);rw[if_neg (by rw[h1];decide)]
 refine RO (W.self 0 _ _ _ X' ?_);refine RO (S2 ?_);unfold W3;refine RO (We (hT 0 _ X') El ?_);show wpAny _ A.in1 (specialOf (SR I) (V7 "__length_hint__") >>= _) _ _ _;refine RO (We (hT 0 _ X') JK ?_);generalize hid:("list_reverseiterator.__length_hint__" : String)=id0
 wp_delta
 rw[show splitId id0=some ("list_reverseiterator","__length_hint__") from by subst hid;decide +kernel]
 subst hid;refine RO (WM (b:=true) (hT 0 _ X') (by rw[YZ];kernel_rfl) ?_)
 refine R1 ?_;rw[if_neg (by decide)]
 refine R1 ⟨Uc Y6 _,YW W hn _ hSf _ n 0 _ _ _ rfl (SO _) X' hS (ItemsOf.nil P) λs' N' c' hm j! l!=>?_⟩;exact hR s' N' c' hm j! l!
end
section
variable {St:Nat->RV->Prop}
theorem yX(W:WalksS prog w A.in1 I fp wr G n P St)(hT:∀i s,St i s->s.TypeIs (.ref I) "list_reverseiterator")(S:Addr)(X':St 0 s)(hSf:S∉fp)(hI:I∈fp)
  (hS:s.heap.get? S=some { cls:=.type "list",data:=.seq #[] })
  (hR:∀s' N' c',Moved (S :: wr) G s s'->s'.heap.get? S=some { cls:=.type "list",dict:=none,data:=.seq N' c',slots:=#[] }->ZJ P N' n->R (.ok (.ret .none)) s') (hn:n<=SG) :
  wpAny (model prog w) A.in1 (Vb.«list.__init__» ⟨[.ref S,.ref I],[]⟩)
   (λfin s'=>match fin with | .done f=>R (.ok f) s' | .again c'=>c'.quiet=true/\codeAny (model prog w) A c' R s') (λe s'=>R (.error e) s') s:=by
 show wpAny _ A.in1 (do let old <- Yk (.ref S);Builtin.List.listUpdate (.ref S) (λ_=>#[]);letGo old.toList.reverse;TR (.ref S) (.ref I) .none) _ _ s;refine RO ?_;unfold Yk;refine RO (Vy hS rfl (R1 ?_));show wpAny _ A.in1 (updateSeq S (λ_=>#[]) >>= λ_=>letGo (#[]:ZO).toList.reverse >>= λ_=>TR (.ref S) (.ref I) .none) _ _ s;refine RO (VO hS rfl ?_);have hS₂:=T3 (SK (λ_=>(#[]:ZO))) hS rfl;have oth:∀b o,b≠S->s.heap.get? b=some o->(s.heap.update S (SK (λ_=>(#[]:ZO)))).get? b=some o :=
  λb o hb e=>(Tu _ _ (UA hb)).trans e
 refine RO (W5 ?_);refine Er W hT S .none _ (W.frame 0 s _ s.toks X' (R6 _) λb hb o e=>oth b o (λh=>hSf (h ▸ hb)) e) hSf hI hS₂ (λs' N' c' hm j! l!=>?_) hn;exact hR s' N' c' (Moved.trans W.gtrans ((Moved.refl W.grefl).then_heap (R6 _) λb o hb e=>oth b o (λh=>hb (h ▸ R4)) e) hm) j! l!
theorem zd{Q:Value->RV->Prop}(W:WalksS prog w A.in1.in1 I fp wr G n P St)(hT:∀i s,St i s->s.TypeIs (.ref I) "list_reverseiterator")(X':St 0 s)(hfp:∀b∈fp,b<s.heap.objs.size)(hI:I∈fp)
  (hQ:∀s' N' c',Moved (s.heap.objs.size :: wr) G { s with heap:=s.heap.push { cls:=.type "list",data:=.seq #[] } } s' ->
   s'.heap.get? s.heap.objs.size=some { cls:=.type "list",dict:=none,data:=.seq N' c',slots:=#[] }->ZJ P N' n->Q (.ref s.heap.objs.size) s') (hn:n<=SG) :
  wpAny (model prog w) A (call (.type "list") [.ref I]) Q E s:=by
 have hSf:s.heap.objs.size∉fp:=λhm=>T9 _ (hfp _ hm);refine callType_codes (Q₁:=λobj s₁=>obj=.ref s.heap.objs.size/\s₁={ s with heap:=s.heap.push { cls:=.type "list",data:=.seq #[] } }) F.called_list (F.typeCall_list_1 _) F.entry_list_init
  (code_list_new _ ⟨rfl,rfl⟩) λobj s₁ h₁=>?_
 obtain⟨rfl,rfl⟩:=h₁;have hS:(s.heap.push { cls:=.type "list",data:=.seq #[] }).get? s.heap.objs.size=some { cls:=.type "list",data:=.seq #[] }:=Si _ rfl;refine⟨⟨_,hS,rfl⟩,F.args_list_init_2 _ _,yX W hT _ (W.frame 0 s _ s.toks X' (R6 _) λb _ o e=>RW _ e) hSf hI hS (λs' N' c' hm j! l!=>?_) hn⟩;exact⟨rfl,hQ s' N' c' hm j! l!⟩
end
theorem Bs:∀ {xs:Z7} {us:Z8},xs.length=us.length->(∀ (i:Nat) (x:V) (u:Value),xs[i]?=some x->us[i]?=some u->RelV x u)->Vals xs us
 | [],[],_,_=>.nil
 | x :: xs,u :: us,h,k=>.cons (k 0 x u rfl rfl) (Bs (by simpa using h) λi a b e1 e2=>k (i+1) a b e1 e2)
 | [],_ :: _,h,_=>by simp at h
 | _ :: _,[],h,_=>by simp at h
theorem Vals.getL(r:Vals xs us){x:V}(hx:xs[i]?=some x)(hu:us[i]?=some u):RelV x u:=by
 obtain⟨u',hu',ru⟩:=r.get hx;rw[hu]at hu';cases hu';exact ru
def Cc(K:RM)(ta:TA):TE:=λσ H Q=>ta σ H λvs H1=>∃a xs,vs=[.ref a]/\SqL K H1 a xs/\∀d,H1 d=none->Q (.ref d) (upd H1 d (.lst xs.reverse))
theorem ET(K:RM)(hK:X.K=K)(hc:X.calm=true){ta:TA}{p p2 pos2:Pos}(hg1:Gl X "list")(hm1:X.mg "list" = none)(hg2:Gl X "reversed")(hm2:X.mg "reversed" = none)(ha:PA X [e] ta)(hn:isStar e=false:=by rfl) :
  PE X (.Call (.Name "list" p) [.Call (.Name "reversed" p2) [e] [] pos2] [] pos) (Cc K ta):=by
 subst hK;f_are;refine Call_ (gU I hg1 hm1 boot_list (Ts ?_ (bg rfl) (cM rfl)));rw[bg rfl];show wpAny _ _ (spliced ((false,eval (.Call (.Name "reversed" p2) [e] [] pos2) X.env) :: backTo pos (Ta [] X.env))) _ _ s;refine Wb ?_;refine Call_ (gU I hg2 hm2 boot_reversed (Ts (thn (ha pos2 dh s σ H _ I h) λus s1 ⟨vs,H1,I1,r1,q1⟩=>?_) (bg hn) (cM rfl)));obtain⟨a,xs,ev,hS,q⟩:=q1;subst ev;obtain⟨u,rfl,ru⟩:=vals1 r1;cases(show u=SR a from ru);obtain⟨ZV,rv,pl,hz⟩:=I1.list hS;have hl:=rv.length;refine call_reversed_list pl.isList ?_;refine Wv ?_;have lta:a<s1.heap.objs.size:=by obtain⟨_,z,_⟩:=pl.isList;exact R7 z
 have hh:X.A.in1.in1.handled=none:=by simpa using I.ok.hd hc
 refine zd (I:=s1.heap.objs.size) ((Walks.listRev hh s1.heap.objs.size a (Sa lta) ZV.toArray).toS) (λi s' st=>st.2.1.typeIs) ⟨SO _,⟨_,Si _ rfl,rfl,by simp[revObj]⟩,pl.isList.push _⟩ (λb hb=>?_) (by simp) (λs' acc c hm j! l!=>?_) (by rw[Se,<- hl];exact hz)
 .have A':b=s1.heap.objs.size\/b=a:=by simpa using hb
  rw[TY];rcases A' with rfl|rfl
  .exact Ui _
  .exact Td lta
 .obtain⟨h',g',d',tk',os'⟩:=s';have eg:g'=s1.gens:=hm.gens;have ed:d'=s1.drawn:=hm.drawn;have eo:os'=s1.os:=hm.os;subst eg ed eo;rw[TY]at j! hm ⊢;refine⟨.ref (s1.heap.objs.size+1),upd H1 (s1.heap.objs.size+1) (.lst xs.reverse),I1.laid (a:=s1.heap.objs.size+1) (o:=.lst xs.reverse) (λb o e=>?_) (T2 _) ⟨?_,acc.toList,c,?_,?_⟩,rfl,q _ (I1.hok.fresh (T2 _))⟩
  .have ZW:=R7 e;refine hm.heap b o (λz=>?_) (RW _ (RW _ e));have z':b=s1.heap.objs.size+1\/b=s1.heap.objs.size:=by simpa using z
   rcases z' with z' | z'
   .rw[z']at ZW;exact absurd ZW (Nat.not_lt.mpr (T2 _))
   .rw[z']at ZW;exact absurd ZW (T9 _)
  .rw[W6];exact hz
  .refine Bs ?_ λi x u e1 e2=>?_
   .rw[W6,hl]
    simpa using l!.1.symm
   .have e2':acc[i]?=some u:=by rw[<- Tg];exact e2
    have z:=l!.2 i u e2';have hi:i<xs.length:=by
     have:=(RN.mp e1).1;rw[W6]at this;l_out
    rw[List.getElem?_reverse hi]at e1;have z2:ZV[xs.length - 1 - i]?=some u:=by
     rw[hl]
     simpa using z
    exact rv.getL e1 z2
  .simpa using j!
def DE(P:Sj)(w:World)(a:Addr)(kvs:Z2)(ep:Nat):HO:=.ext λh=>kvs.length<=SG/\(a == sysModules)=false/\∃vs,KV kvs vs/\h.DictAt (bY P w) a vs ep
section
variable {σ:St} 
theorem vC(I:Inv X dh σ H s)(e:H a=some (DE X.prog X.w a kvs ep)):kvs.length<=SG/\(a == sysModules)=false/\∃vs,KV kvs vs/\s.heap.DictAt (bY X.prog X.w) a vs ep :=
 (show cu X.prog X.w H s.heap a (DE X.prog X.w a kvs ep) from I.hok a _ e).1
theorem Inv.hold(I:Inv X dh σ H s)(e:H a=some (.dK kvs)):∃ep,Inv X dh σ (upd H a (DE X.prog X.w a kvs ep)) s:=by
 obtain⟨z,hd,vs,rel,dd⟩:=zV I.hok e;obtain⟨ep,da⟩:=dd.dictAt;refine⟨ep,?_⟩;obtain⟨o,es,ho,r⟩:=id da;exact I.write (x:=a) (e:=a) (h':=s.heap) (t':=s.toks) (by rw[e];exact VQ) (.inl rfl) (λ_ _ _ q=>q) ⟨o,ho⟩ ⟨⟨z,hd,vs,rel,da⟩,⟨o,ho⟩,λh1 h2 ⟨q1,q2,vs',q3,q4⟩ k=>⟨q1,q2,vs',q3,q4.at' λo' e'=>k o' e'⟩⟩
theorem Inv.release(I:Inv X dh σ H s)(e:H a=some (DE X.prog X.w a kvs ep)):Inv X dh σ (upd H a (.dK kvs)) s:=by
 obtain⟨z,hd,vs,rel,da⟩:=vC I e;obtain⟨o,es,ho,r⟩:=id da;exact I.write (x:=a) (e:=a) (h':=s.heap) (t':=s.toks) (by rw[e];exact VQ) (.inl rfl) (λ_ _ _ q=>q) ⟨o,ho⟩ (uE z hd rel da.dictOf)
end
def Q0(P:Sj)(w:World)(i:Nat)(t:TS):TS:=λD σ H=>∃a kvs,σ[i]?=some (some (.ref a))/\H a=some (.dK kvs)/\∀ep,t D σ (upd H a (DE P w a kvs ep))
def PZ(P:Sj)(w:World)(i:Nat)(t:TS):TS:=λD σ H=>∃a kvs ep,σ[i]?=some (some (.ref a))/\H a=some (DE P w a kvs ep)/\t D σ (upd H a (.dK kvs))
theorem Mz(P:Sj)(w:World)(i:Nat)(hP:X.prog=P)(hw:X.w=w)(h:PS X st t):PS X st (Q0 P w i t):=by
 subst hP hw;intro dh s σ H D I q;obtain⟨a,kvs,_,e,q⟩:=q;obtain⟨ep,I'⟩:=I.hold e;exact h dh s σ _ D I' (q ep)
theorem LG(P:Sj)(w:World)(i:Nat)(hP:X.prog=P)(hw:X.w=w)(h:PS X st t):PS X st (PZ P w i t):=by
 subst hP hw;intro dh s σ H D I q;obtain⟨a,kvs,ep,_,e,q⟩:=q;exact h dh s σ _ D (I.release e) q
def Itd(P:Sj)(w:World)(a:Addr)(kvs:Z2)(ep:Nat):It :=
 ⟨λi H=>H a=some (DE P w a kvs ep)/\i<kvs.length,λi H x H'=>H'=H/\∃kv,kvs[i]?=some kv/\x=kV kv.1,λi H=>H a=some (DE P w a kvs ep)/\kvs.length<=i⟩
theorem Ee{P:Sj}{k:Key}(h:(bY P w).is k u=true):RelV (kV k) u:=by
 rcases cW h with ⟨i,t,rfl,rfl⟩|⟨x,t,rfl,rfl⟩
 .exact⟨t,rfl⟩
 .exact⟨t,rfl⟩
theorem KV.get(r:KV kvs vs){p:Key×V}(h:kvs[i]?=some p):∃q,vs[i]?=some q/\p.1=q.1/\RelV p.2 q.2:=by
 unfold KV at r
 induction r generalizing i with
 | nil=>simp at h
 | @cons a b as bs hab t ih =>
  cases i with
  | zero=>cases h;exact⟨b,rfl,hab⟩
  | succ i=>exact ih h
theorem Gq{P:Sj}(a it:Addr)(kvs:Z2)(ep:Nat):Turn P w K tg (Itd P w a kvs ep) [it] it (λi h=>h.IsKeyIter it a i kvs.length ep) where
 mem:=by simp
 obj:=λi h st b hb=>by
  have e:b=it:=by simpa using hb
  subst e;obtain⟨o,e,c,d⟩:=st;exact⟨o,e,λv z=>by rw[d]at z;cases z⟩
 keep:=λi h h' st k=>st.at λo e=>k it (by simp) o e
 item:=by
  f_tup;obtain⟨hH,hi⟩:=hg;obtain⟨z,hd,vs,rel,da⟩:=vC I hH;k_exc
  obtain⟨q,hq,e1,r1⟩:=rel.get (RL hi);rw[rel.length]at st;refine wpAny_pyNext_dict_item st da (k:=q.1) (v:=q.2) hq λkey h' hk M! sb=>?_;have I1:Inv X dh σ H { s with heap:=h' }:=I.turned (t':=s.toks) (λb o hb e=>(sb.2 b hb).trans e) f0 f1 f3 f4 f5;obtain⟨o,e,c,d⟩:=id M!;refine⟨key,rfl,EZ (s:={ s with heap:=h' }) e c d (by decide) ⟨kV kvs[i].1,H,I1,?_,⟨rfl,kvs[i],RL hi,rfl⟩,?_,λb hb=>(hf b hb).1⟩⟩
  .rw[e1];exact Ee hk
  .rw[rel.length];exact M!
 done:=by
  f_tup;obtain⟨hH,hi⟩:=hg;obtain⟨z,hd,vs,rel,da⟩:=vC I hH;k_exc
  have hl:=rel.length;rw[hl]at st;exact wpAny_pyNext_dict_end (I.ok.hd hc) st da (Sm (by lia)) λh' eb=>⟨rfl,I.turned (t':=s.toks) (λb o hb e=>eb b o hb e) f0 f1 f3 f4 f5⟩
 self:=λ_ _ _ _ _ st h=>wpAny_pyIter_keyiter st h
def E2(P:Sj)(w:World)(x:V)(H:Hp)(R:It->Hp->Prop):Prop:=∃a kvs ep,x=.ref a/\H a=some (DE P w a kvs ep)/\R (Itd P w a kvs ep) H
def K0(P:Sj)(w:World)(tl:TE):TI:=λσ H R=>tl σ H λx H1=>E2 P w x H1 R
theorem MB(P:Sj)(w:World)(hP:X.prog=P)(hw:X.w=w){l:Expr}(hl:PE X l tl):PI X tg l (K0 P w tl):=by
 subst hP hw;intro dh s σ H R I h;refine thn (hl dh s σ H _ I h) λv s1 ⟨x,H1,I1,r1,q1⟩=>?_;obtain⟨a,kvs,ep,e,hH,q⟩:=q1;subst e;cases r1;obtain⟨z,hd,vs,rel,da⟩:=vC I1 hH;have hl:=rel.length;refine wpAny_pyIter_dict hd da ?_;refine⟨s1.heap.objs.size,[s1.heap.objs.size],_,_,H1,rfl,I1.kept (t':=s1.toks) λb o e=>RW _ e,Gq a _ kvs ep,⟨_,Si _ rfl,rfl,by rw[hl];rfl⟩,λb hb=>?_,q⟩
 have e:b=s1.heap.objs.size:=by simpa using hb
 subst e;walk_at "138"
def Bq(P:Sj)(w:World)(x y:V)(H:Hp)(Q:VK):Prop:=∃a kvs ep k v,x=.ref a/\H a=some (DE P w a kvs ep)/\y=kV k/\bq kvs k=some v/\Q v H
def Gf(P:Sj)(w:World)(td ty:TE):TE:=λσ H Q=>td σ H λx H1=>ty σ H1 λy H2=>Bq P w x y H2 Q
theorem IH(P:Sj)(w:World)(hP:X.prog=P)(hw:X.w=w){o i:Expr}(ho:PE X o td)(hi:PE X i ty)(hs:Ji i):PE X (.Subscript o i pos) (Gf P w td ty):=by
 subst hP hw;f_are;refine D6 Xw.lookup hs (thn (ho dh s σ H _ I h) λu s1 ⟨x,H1,I1,rx,q1⟩=>thn (hi dh s1 σ H1 _ I1 q1) λiv s2 ⟨y,H2,I2,ry,a,kvs,ep,k,v,ex,hH,ey,hv,q2⟩=>?_);subst ex ey;obtain rfl:u=SR a:=rx;obtain⟨z,hd,vs,rel,da⟩:=vC I2 hH;obtain⟨w',hw,rw'⟩:=gf.some_of (v:=v) (o:=valueAt vs k) (by rw[<- hv];exact rel.val k)
 exact⟨da.dictOf.typeIs,wpAny_getItem_of (mQ ry) da.dictOf.mapOf hw ⟨v,H2,I2.tok _,rw',q2⟩⟩
section
variable {P:Sj}{σ:St}{ta:TA} 
theorem Mg{R:It->Hp->Prop}(h:tl σ H λx H1=>E2 P w x H1 R):K0 P w tl σ H R:=h
theorem JB(h:td σ H λx H1=>ty σ H1 λy H2=>Bq P w x y H2 Q):Gf P w td ty σ H Q:=h
theorem LX(h:H a=some (DE P w a kvs ep))(hv:bq kvs (nk k)=some v)(q:Q v H):Bq P w (.ref a) (.int k) H Q:=⟨a,kvs,ep,nk k,v,rfl,h,rfl,hv,q⟩
theorem GI(h:ta σ H λvs H1=>∃a xs,vs=[.ref a]/\SqL K H1 a xs/\∀d,H1 d=none->Q (.ref d) (upd H1 d (.lst xs.reverse))):Cc K ta σ H Q:=h
theorem vZ(h:H a=some (DE P w a kvs ep))(Pv:ZT)(h0:Pv 0 σ H)(hl:∀i σ' H',Pv i σ' H'->H' a=some (DE P w a kvs ep))
  (hs:∀i p σ' H',kvs[i]?=some p->Pv i σ' H'->g (kV p.1) σ' H' λσ2 H2=>t { D with nx:=Pv (i+1),ct:=Pv (i+1),bk:=D.nx } σ2 H2) (hd:∀σ' H',Pv kvs.length σ' H'->D.nx σ' H'):E2 P w (.ref a) H (eJ g t D σ):=by
 refine⟨a,kvs,ep,rfl,h,λi m σ' H'=>m=kvs.length - i/\i<=kvs.length/\Pv i σ' H',⟨kvs.length,by simp,SO _,h0⟩,?_⟩
 rintro i m σ' H' ⟨rfl,hi,p0⟩;have q:=hl i σ' H' p0
 by_cases ZW:i<kvs.length
 .refine .inr ⟨⟨q,ZW⟩,Pv (i+1),λσ2 H2 p'=>⟨kvs.length - (i+1),by lia,rfl,ZW,p'⟩,λz H2 yl=>?_⟩
  obtain⟨rfl,kv,hkv,rfl⟩:=yl;exact hs i kv σ' H2 hkv p0
 .have e:i=kvs.length:=by lia
  subst e;exact .inl ⟨⟨q,R6 _⟩,hd σ' H' p0⟩
end
section
variable {CX:CXT}{f:Addr}{fd:TC}{ps:ZN}{m:Str}{apos:Pos}{o:Expr}{t:TA}
theorem p7(he:PE X o ta)(c:Cls X.K C)(hm:Meth X.K C m f)(F:aE X.prog X.w X.K X.mg X.base CX0 k f fd ps sp)(hr:bP k X.A)(hb:Binds X.K fd ps [])(ha:PA X (e :: es) t)
  (hn:isStar e=false:=by rfl) (f':es.all (λe=>!isStar e)=true:=by rfl)
  (ht:eval (.Call (.Attribute o m apos) (e :: es) [] pos) X.env=(do
   let ov <- eval o X.env
   standAt apos.atName
   let (f,first) <- holding [ov] (getMethod ov m pl)
   callWith pos f first (backTo pos (Ta (e :: es) X.env)) (backToKw pos (keywordEach [] X.env))):=by rfl) :
  PE X (.Call (.Attribute o m apos) (e :: es) [] pos) (Ft C m sp [] E0 ta t):=Mh he c hm F hr hb .nil lB ha (bg hn) (cM f') ht
end
section
variable {σ:St} 
theorem vL{m:Str}{E:XK}{t:TA}(h:ta σ H λx H1=>∃a dx fs,x=.ref a/\H1 a=some (.ins C dx fs)/\fs.lookup m=none/\t σ H1 λvs H2=>sp (x :: (vs++[])) H2 Q E):Ft C m sp [] E ta t σ H Q:=h
theorem OS{a b:Int}(h:0<b)(q:Q (.int (a % b)) H):rI (λ_ j=>0<j) (λi j=>.int (i % j)) (.int a) (.int b) H Q:=⟨a,b,rfl,rfl,h,q⟩
end
def FA(vs:Z7)(H:Hp)(R:It->Hp->Prop):Prop:=∃i j:Int,vs=[.int i,.int j]/\(-(2 ^ 62)<=i/\i<2 ^ 62/\-(2 ^ 62)<=j/\j<2 ^ 62)/\R (Itr i (j - i).toNat) H
theorem Fn{a b:Expr}{ta:TA}{p:Pos}(hg:Gl X "range")(hm:X.mg "range" = none)(ha:PA X [a,b] ta)(hn:isStar a=false:=by rfl)(hn2:isStar b=false:=by rfl):PI X tg (.Call (.Name "range" p) [a,b] [] pos) (Ez ta) :=
 G1 hg hm ha (by rw[bg hn,bg hn2];rfl) (by rw[bg hn2];rfl)
section
variable {σ:St}{tA:TA}{fr:AT}
theorem Lz{R:It->Hp->Prop}(h:tA σ H λvs H1=>FA vs H1 R):Ez tA σ H R:=h
theorem rD{a b:Int}{lo:Nat}(e:a=(lo:Int))(e2:b=((lo+n:Nat):Int))(hn:lo+n<=1000000)(Pv:ZT)(h0:Pv 0 σ H)
  (hs:∀i σ' H',i<n->Pv i σ' H'->g (.int ((lo+i:Nat):Int)) σ' H' λσ2 H2=>t { D with nx:=Pv (i+1),ct:=Pv (i+1),bk:=D.nx } σ2 H2) (hd:∀σ' H',Pv n σ' H'->D.nx σ' H'):FA [.int a,.int b] H (eJ g t D σ):=by
 subst e e2;refine⟨lo,_,rfl,⟨by lia,by lia,by lia,by lia⟩,?_⟩
 have z:(((lo+n:Nat):Int) - (lo:Int)).toNat=n:=by lia
 rw[z];refine⟨λi m σ' H'=>m=n - i/\i<=n/\Pv i σ' H',⟨n,rfl,SO _,h0⟩,?_⟩;rintro i m σ' H' ⟨rfl,hi,p⟩
 by_cases ZW:i<n
 .refine .inr ⟨ZW,Pv (i+1),λσ2 H2 p'=>⟨n - (i+1),by lia,rfl,ZW,p'⟩,λx H2 y=>?_⟩
  obtain⟨rfl,rfl⟩:=y;have q:=hs i σ' H2 ZW p;rw[show (((lo+i:Nat):Int))=(lo:Int)+(i:Int) by push_cast;rfl]at q
  exact q
 .have e:i=n:=by lia
  subst e;exact .inl ⟨R6 i,hd σ' H' p⟩
end
theorem cb:∀ (names:List (Str×VC)) (n:Nat) (acc:List (Str×Addr)),cellsFrom n names acc=cellsFrom n names []++acc
 | [],_,_=>rfl
 | (x,k) :: r,n,acc=>by
  unfold cellsFrom
  split
  .rw[cb r (n+1) ((x,n) :: acc),cb r (n+1) [(x,n)],Vf];rfl
  .exact cb r n acc
theorem ig:∀ (names:List (Str×VC)) (n:Nat) (x:Str),(x,Ub)∈names->∃c,(cellsFrom n names []).lookup x=some c
 | (y,k) :: r,n,x,h=>by
  unfold cellsFrom;rcases Sf.mp h with e|h
  .cases e;rw[if_pos (show (Ub == Ub)=true from rfl),cb,U7];cases q:(cellsFrom (n+1) r []).lookup y with
   | some c=>exact⟨c,rfl⟩
   | none=>exact⟨n,by simp⟩
  .split
   .obtain⟨c,hc⟩:=ig r (n+1) x h;rw[cb,U7,hc];exact⟨c,rfl⟩
   .exact ig r n x h
theorem kI:∀ (names:List (Str×VC)) (n:Nat) (x:Str) (c:Addr),(x,c)∈cellsFrom n names []->(x,Ub)∈names
 | [],_,_,_,h=>by simp[cellsFrom]at h
 | (y,k) :: r,n,x,c,h=>by
  unfold cellsFrom at h
  split at h
  .rename_i hk
   rw[cb]at h;rcases R5.mp h with z|z
   .exact R3 _ (kI r (n+1) x c z)
   .have z':=RX.mp z;cases z';have:k=Ub:=by simpa using hk
    rw[this];exact R4
  .exact R3 _ (kI r n x c h)
theorem sU{M:Model}{qual:Str}{env:Env}{Q:Env->RV->Prop}
  (h:Q (newEnv scope s.heap.objs.size globals (cellsFrom (s.heap.objs.size+1) scope.names cl) qual none .none (some env) builtinsNs) { s with heap:=pushCells (s.heap.push { cls:=.type "dict",data:=.dict #[] }) scope.names }) :
  wpAny M A (newFunctionEnv scope globals cl [] qual none .none (some env)) Q E s:=by
 simp only[newFunctionEnv,Option.isSome_some,if_true];refine RO (wpAny_alloc ?_);refine RO (wpAny_layCells _ (λname kind cells=>by cases hkc:kind == Ub <;> simp[hkc]) _ _ _ _ ?_)
 rw[show ({ s with heap:=s.heap.push { cls:=.type "dict",data:=.dict #[] } }:RV).heap.objs.size=s.heap.objs.size+1 from TY ..];exact RO (R1 (R1 h))
def cp(X:Cx)(scope:Scope)(own:ZN)(fr:AT)(C:Addr)(s₂:RV)(H₂:Hp)(fp:ZL):Cx :=
 { X with N:=pR own fr X.N,s₀:=s₂,H₀:=H₂,env:=compEnvC scope (cellsFrom (C+1) scope.names (eV X.env scope.names [])) C X.env,outer:=X.stack,ex:=fp,fn:=λx=>decide ((x,Ub)∈scope.names),pn:=[],xe:=λ_ _=>False }
structure aJ(sc:Scope)(N:ZN)(scope:Scope)(own:ZN)(fr:AT):Prop where
 kind:scope.kind=.function
 cf0:∀y∈scope.names,y.2=.cell->(y.1,Ua)∉scope.names
 names:∀y∈scope.names,y.2=.local->scope.names.lookup y.1=some .local
 free:∀y∈scope.names,y.2=.free->sc.names.lookup y.1=some .cell\/sc.names.lookup y.1=some .free
 fr0:∀i∈fr,(N[i]?.bind λx=>scope.names.lookup x)=some .free
 nd:(pR own fr N).Nodup
theorem aJ.cf{fr:AT}(S:aJ sc N scope own fr)(x:Str)(h:(x,Ub)∈scope.names):(x,Ua)∉scope.names:=S.cf0 _ h rfl
theorem aJ.fr{sc:Scope}{N:ZN}{scope:Scope}{own:ZN}{fr:AT}(S:aJ sc N scope own fr):∀i∈fr,∃x,N[i]?=some x/\scope.names.lookup x=some .free:=λi hi=>by
 have q:=S.fr0 i hi;cases e:N[i]? with
 | none=>rw[e]at q;cases q
 | some x=>rw[e]at q;exact⟨x,rfl,q⟩
section
variable {fr:AT}{σ:St}{H₂:Hp}{s₂:RV}{D:Addr}{h₁:Heap}{tk:Nat}
theorem aJ.cells(S:aJ X.env.scope X.N scope own fr)(ok:X.Ok):∀x∈scope.names,x.2=.free->∃c,X.env.cells.lookup x.1=some c:=λx hx hf=>ok.has x.1 (S.free x hx hf)
theorem Hj(S:aJ X.env.scope X.N scope own fr)(I:Inv X dh σ H₂ s₂)(f2:∀b∈fp,nJ X dh H₂ b)(fo:∀b∈fp,b<s₂.heap.objs.size)
  (hC:s₂.heap.objs.size<=C) (hD:s₂.heap.objs.size<=D) (hDC:D≠C) (hDC':D<C) (old:∀b o,s₂.heap.get? b=some o->h₁.get? b=some o) (hns:h₁.Ns C m) (new:∃n,h₁.get? D=some { cls:=.type "list",data:=.seq #[] n }) (okc:CellsOk h₁ (C+1) (cellsFrom (C+1) scope.names [])) :
  Inv (cp X scope own fr C s₂ H₂ fp) [] (cD own fr σ) (upd H₂ D (.lst [])) { s₂ with heap:=h₁,toks:=tk }:=by
 have hk:=S.cells I.ok;have sub:=Ao (env:=X.env) scope.names [] hk (λx c e=>by cases e)
 have fl:∀x c,(eV X.env scope.names []).lookup x=some c->∃v,s₂.heap.IsCell c v:=λx c e=>I.cell x c (sub x c e);have two:∀x c,(cellsFrom (C+1) scope.names (eV X.env scope.names [])).lookup x=some c->((cellsFrom (C+1) scope.names []).lookup x=some c)\/(eV X.env scope.names []).lookup x=some c:=λx c e=>by
  rw[cb,U7]at e;cases q:(cellsFrom (C+1) scope.names []).lookup x with
  | none=>rw[q]at e;exact .inr e
  | some c'=>rw[q]at e;exact .inl e
 have nw:∀x c,(cellsFrom (C+1) scope.names []).lookup x=some c->h₁.IsCell c none/\C+1<=c:=λx c e=>okc.empty x c (Tt e);have ge:∀x c,(cellsFrom (C+1) scope.names []).lookup x=some c->s₂.heap.objs.size<=c:=λx c e=>SA hC (Uw (nw x c e).2);have olt:∀x c,(eV X.env scope.names []).lookup x=some c->c<s₂.heap.objs.size:=λx c e=>by
  obtain⟨v,o,z1,_⟩:=fl x c e;exact R7 z1
 have okX:(cp X scope own fr C s₂ H₂ fp).Ok:=by
  refine⟨I.ok.mod,S.kind,I.ok.glob,I.ok.blt,hC,λx y c e1 e2=>?_,λx hx=>?_,λx c hf e=>?_,I.ok.hd,I.ok.frames,.inl rfl,λb hb=>⟨?_,λx c e z=>?_⟩,
   I.bs,SA I.ok.bsz I.sz,λb o e hb=>?_,λb hb=>?_,I.stack,I.DS⟩
  .rcases two x c e1 with z1|z1 <;> rcases two y c e2 with z2|z2
   .exact name_of_addr okc.apart (Tt z1) (Tt z2)
   .exact absurd (Ti (ge x c z1) (olt y c z2)) (T9 _)
   .exact absurd (Ti (ge y c z2) (olt x c z1)) (T9 _)
   .exact I.ok.inj x y c (sub x c z1) (sub y c z2)
  .show ∃c,(cellsFrom (C+1) scope.names (eV X.env scope.names [])).lookup x=some c;rw[cb,U7];cases q:(cellsFrom (C+1) scope.names []).lookup x with
   | some c'=>exact⟨c',rfl⟩
   | none =>
    rcases qA hx with z|z
    .exact tU _ _ _ z
    .obtain⟨c,hc⟩:=ig scope.names (C+1) x z;rw[q]at hc;cases hc
  .rcases two x c e with z|z
   .exact ge x c z
   .exfalso
    have hf':(x,Ub)∈scope.names:=of_decide_eq_true hf;have e':(cellsFrom (C+1) scope.names (eV X.env scope.names [])).lookup x=some c:=e;obtain⟨c',q!⟩:=ig scope.names (C+1) x hf';rw[cb,U7,q!]at e';cases e';exact absurd (Ti (ge x _ q!) (olt x _ z)) (T9 _)
  .exact Sa (Su (fo b hb) hC)
  .rcases two x c e with y|y
   .exact absurd (Ti (ge x c y) (z ▸ fo b hb)) (T9 _)
   .exact(f2 b hb).2.2.2.2.1 x c (sub x c y) z
  .obtain⟨_,_,_,f3,_⟩:=f2 b hb;rcases f3 with z|z
   .exact I.ok.tQ b o e z
   .exact absurd (Su (R7 (I.ok.bs b o e).1) z) (T9 _)
  .obtain⟨_,f1,f2',_⟩:=f2 b hb;intro z;rcases Sf.mp (I.BZ b z) with q|q
   .exact f1 q
   .exact f2' q
 have frH:∀a,s₂.heap.objs.size<=a->H₂ a=none:=λa h=>I.hok.fresh h;refine⟨okX,rfl,I.bare,Un.laid old hD (frH D hD),⟨m,hns,λi x v e1 e2 e3=>?_⟩,λx c e=>?_,?_,λx c e=>?_,λp hp=>absurd (show p∈([]:Z0) from hp) (by simp),I.hok.laid old hD ?_,?_⟩
 .obtain⟨j,hi,hj,hv⟩:=FT e2;have hx:X.N[j]?=some x:=by
   obtain⟨y,hy,_⟩:=S.fr j (RQ hj);have e1':(pR own fr X.N)[i]?=some x:=e1;unfold pR at e1';rw[SE hi,RY,hj]at e1';have e1'':(X.N[j]?).getD ("" : Str)=x:=by simpa using e1'
   rw[hy]at e1'' ⊢;exact congrArg some e1''
  obtain⟨y,hy,y!⟩:=S.fr j (RQ hj);rw[hx]at hy;cases hy;have hkind:X.env.kindOf x=some .cell\/X.env.kindOf x=some .free:=S.free _ (Tt y!) rfl;obtain⟨mo,hno,hlo⟩:=I.loc;obtain⟨u,r,l⟩:=hlo j x v hx hv (hkind.elim (λz=>.inr (.inl z)) λz=>.inr (.inr z));refine⟨u,r,.inr ⟨rS y!,?_⟩⟩;obtain⟨c,hc⟩:=tU (env:=X.env) scope.names [] x (Tt y!);have hno:(cellsFrom (C+1) scope.names []).lookup x=none:=by
   cases q:(cellsFrom (C+1) scope.names []).lookup x with
   | none=>rfl
   | some c'=>exact absurd (Tt y!) (S.cf x (kI scope.names (C+1) x c' (Tt q)))
  refine⟨c,by show (cellsFrom (C+1) scope.names (eV X.env scope.names [])).lookup x=some c;rw[cb,U7,hno];exact hc,?_⟩
  have q!:=sub x c hc;rcases l with ⟨k,_⟩|⟨_,c',e,o,z1,z2⟩
  .rcases hkind with z|z
   .rw[k]at z;cases z
   .rw[k]at z;cases z
  .rw[q!]at e;cases e;exact⟨o,old _ _ z1,z2⟩
 .rcases two x c e with y|y
  .exact⟨none,(nw x c y).1⟩
  .obtain⟨v,o,z1,z2⟩:=fl x c y;exact⟨v,o,old _ _ z1,z2⟩
 .show (upd H₂ D (.lst [])) C=none;rw[ak (UA hDC)];exact frH C hC
 .rcases two x c e with y|y
  .rw[ak (show c≠D from UI (WI hDC' (nw x c y).2))];exact frH c (ge x c y)
  .obtain⟨v,o,z1,z2⟩:=fl x c y;rw[ak (Sa (Su (R7 z1) hD))];exact I.gG x c (sub x c y)
 .obtain⟨n,e⟩:=new;exact⟨SO _,[],n,.nil,e⟩
 .show (cD own fr σ).length=(pR own fr X.N).length;simp[cD,pR]
end
section
variable {elt iter:Expr}{fr:AT}{wi:TI}{te:TE}
theorem uI{σ:St}(hc:X.calm=true)(S:aJ X.env.scope X.N scope own fr)(hi:PI X tg iter wi)
  (hb:∀C s₂ H₂ fp,PG (cp X scope own fr C s₂ H₂ fp) tg g/\PIf (cp X scope own fr C s₂ H₂ fp) ifs tt/\PE (cp X scope own fr C s₂ H₂ fp) elt te)
  (I:Inv X dh σ H s) (h:zQ own fr wi g tt te σ H Q)
  (hRR:∀D C s' H' m',Inv X dh σ H' s'->Q (.ref D) H'->nJ X dh H' C->s'.heap.Ns C m'->RR (.ref D) C (.ok .next) s') :
  wpAny (model X.prog X.w) X.A (eval iter X.env) (λv s₁=>wpAny (model X.prog X.w) X.A (pyIter v) (λit s₂=>wpAny (model X.prog X.w) X.A (newList []) (λacc s₃ =>
   wpAny (model X.prog X.w) X.A (newFunctionEnv scope X.env.globals (eV X.env scope.names []) [] X.env.qual none .none (some X.env)) (λcenv s₄ =>
    codeAny (model X.prog X.w) X.A (.compStart (.ListComp elt [⟨tg,iter,ifs,0⟩] scope pos) 0 it acc { cenv with scope:=relabel scope X.env }) (RR acc cenv.locals) s₄) X.xe s₃) X.xe s₂) X.xe s₁) X.xe s:=by
 refine thn (hi dh s σ H _ I h) λv s1 h1=>thn h1 λitv s2 h2=>?_;obtain⟨it,fp,tn,J,H2,e,I2,T,st2,f2,hq⟩:=h2;subst e;refine UE (sU ?_);o_src;have hD:=I2.hok.fresh (R6 s2.heap.objs.size);obtain⟨W,⟨m0,w0⟩,turn⟩:=hq s2.heap.objs.size hD;generalize hH2:s2.heap.push { cls:=.type "list",dict:=none,data:=.seq ([]:Z8).toArray }=G at ⊢;have hG:G.objs.size=s2.heap.objs.size+1:=by rw[<- hH2,TY]
 have hDC:s2.heap.objs.size≠G.objs.size:=by rw[hG];exact Sa (Ui _)
 have hC:s2.heap.objs.size<=G.objs.size:=by rw[hG];exact T2 _
 have old:∀b o,s2.heap.get? b=some o->(pushCells (G.push { cls:=.type "dict",data:=.dict #[] }) scope.names).get? b=some o:=λb o e =>
  YA _ _ b o (RW _ (hH2 ▸ RW _ e))
 have new:(pushCells (G.push { cls:=.type "dict",data:=.dict #[] }) scope.names).get? s2.heap.objs.size=some { cls:=.type "list",data:=.seq #[] 0 } :=
  YA _ _ _ _ (RW _ (hH2 ▸ Si _ rfl))
 have hns₁:(pushCells (G.push { cls:=.type "dict",data:=.dict #[] }) scope.names).Ns G.objs.size (λ_=>none):=(Heap.Ns.new G (.type "dict")).keeps (YA _ _);have okc:=cellsFrom_ok scope.names (G.push { cls:=.type "dict",data:=.dict #[] }) (G.objs.size+1) [] ⟨λ_ _ hm=>(nomatch hm),XG⟩ (by rw[TY];exact R6 _)
 rw[TY]at okc;generalize hh1:pushCells (G.push { cls:=.type "dict",data:=.dict #[] }) scope.names=h₁ at old new hns₁ okc ⊢;have fo:∀b∈fp,b<s2.heap.objs.size:=λb A'=>let ⟨o,e,_⟩:=T.obj 0 _ st2 b A';R7 e;have I4:Inv (cp X scope own fr G.objs.size s2 H2 fp) [] (cD own fr σ) (upd H2 s2.heap.objs.size (.lst [])) { s2 with heap:=h₁ } :=
  Hj (tk:=s2.toks) S I2 f2 fo hC (R6 _) hDC (by rw[hG];exact Ui _) old hns₁ ⟨_,new⟩ okc
 obtain⟨hg,ht,he⟩:=hb G.objs.size s2 H2 fp;have fpX:∀ {H':Hp},(∀b∈fp,H' b=none)->∀b∈fp,nJ (cp X scope own fr G.objs.size s2 H2 fp) [] H' b:=λ{H'} hn b A'=>by
  refine⟨hn b A',Sa (Su (fo b A') hC),I4.ok.uf b A',.inl A',(I4.ok.exf b A').2,λp hp=>absurd (show p∈([]:Z0) from hp) (by simp)⟩
 have fr0:∀b∈fp,(upd H2 s2.heap.objs.size (.lst [])) b=none:=λb A'=>by
  rw[ak (Sa (fo b A'))];exact(f2 b A').1
 have tn0:tn 0 h₁:=T.keep _ _ _ st2 λb A' o e=>old b o e;have loop:codeAny (model X.prog X.w) X.A (.compLoop (.ListComp elt [⟨tg,iter,ifs,0⟩] scope pos) 0 (.ref it) (.ref s2.heap.objs.size) (compEnvC scope (cellsFrom (G.objs.size+1) scope.names (eV X.env scope.names [])) G.objs.size X.env))
   (RR (.ref s2.heap.objs.size) G.objs.size) { s2 with heap:=h₁ }:=by
  refine GQ (λn s'=>∃i σ' H',Inv (cp X scope own fr G.objs.size s2 H2 fp) [] σ' H' s'/\tn i s'.heap/\(∀b∈fp,H' b=none)/\W i n σ' H') ?_ m0 ⟨0,_,_,I4,tn0,fr0,w0⟩;rintro n s3 ⟨i,σ3,H3,I3,st3,fr3,w3⟩;have nfp:∀ {H':Hp} {s':RV} {σ':St} {pl:Z0},Inv (cp X scope own fr G.objs.size s2 H2 fp) pl σ' H' s'->pl=oM fp s'.heap->True:=λ_ _=>trivial;rcases turn i n σ3 H3 w3 with ⟨stop,qn⟩|⟨go,step⟩
  .refine thn (T.done (cp X scope own fr G.objs.size s2 H2 fp) rfl rfl rfl hc i [] s3 σ3 H3 (λ_ _=>False) I3 (fpX fr3) st3 stop) λr s4 ⟨hr,I5⟩=>?_;subst hr;have IX:Inv X dh σ H3 s4:=I2.Pz (ch:=fp) I5.os I5.base I5.hok I5.bare λb A'=>let ⟨_,f1,_,f3,f4,f5⟩:=f2 b A';⟨f3,f1,f4,f5⟩;obtain⟨m',hn',_⟩:=I5.loc;exact hRR _ _ _ _ m' IX qn (I2.xk hC I5.free) hn'
  .refine thn (T.item (cp X scope own fr G.objs.size s2 H2 fp) rfl rfl rfl hc i [] s3 σ3 H3 (λ_ _=>False) I3 (fpX fr3) st3 go) λr s4 ⟨u,hr,h4⟩=>?_;subst hr;refine thn h4 λ_ s5 ⟨x,H5,I5,r5,y5,st5,fr5⟩=>?_;have I5':=I5.pinned (fpX fr5) (T.obj _ _ st5);refine thn (hg _ s5 σ3 H5 x u _ I5' r5 (step x H5 y5)) λ_ s6 ⟨σ6,H6,I6,q6⟩=>?_;have again:∀ {s7:RV} {σ7:St} {H7:Hp} {m':Nat},Inv (cp X scope own fr G.objs.size s2 H2 fp) ([]++oM fp s5.heap) σ7 H7 s7->m' < n->W (i+1) m' σ7 H7 ->
     ∃m,m<n/\∃i σ' H',Inv (cp X scope own fr G.objs.size s2 H2 fp) [] σ' H' s7/\tn i s7.heap/\(∀b∈fp,H' b=none)/\W i m σ' H':=λ{s7 σ7 H7 m'} I7 hm w7=>by
    refine⟨m',hm,i+1,σ7,H7,I7.pK,T.keep _ _ _ st5 λb A' o e=>(I7.pin (b,o) (SJ _ (SJ _ (lu A' e)))).1,λb A'=>?_,w7⟩;obtain⟨o,e,d⟩:=T.obj _ _ st5 b A';exact(I7.pin (b,o) (SJ _ (SJ _ (lu A' e)))).2.1
   refine thn (ht _ s6 σ6 H6 _ I6 q6) λok s7 ⟨H7,I7,q7⟩=>?_;cases ok with
   | false =>
    rw[if_neg So]at q7 ⊢;obtain⟨m',hm,w7⟩:=q7;exact again I7 hm w7
   | true =>
    rw[if_pos rfl]at q7 ⊢;refine thn (he _ s7 σ6 H7 _ I7 q7) λy s8 ⟨yv,H8,I8,r8,q8⟩=>?_;obtain⟨ys,hy,hl,m',hm,w8⟩:=q8;refine thn (xU _ s8 σ6 H8 (.ref s2.heap.objs.size) [yv] _ [y] (λ_ H9=>H9=upd H8 s2.heap.objs.size (.lst (ys++[yv]))) I8 rfl (.cons r8 .nil) ⟨_,ys,yv,rfl,rfl,hy,hl,rfl⟩) λ_ s9 ⟨_,H9,I9,_,e9⟩=>?_;subst e9;exact again I9 hm w8
 exact codeAny_compStart_list loop (T.self X.A 0 _ _ _ tn0 loop)
theorem bA(hc:X.calm=true)(S:aJ X.env.scope X.N scope own fr)(hi:PI X tg iter wi)
  (hb:∀C s₂ H₂ fp,PG (cp X scope own fr C s₂ H₂ fp) tg g/\PIf (cp X scope own fr C s₂ H₂ fp) ifs tt/\PE (cp X scope own fr C s₂ H₂ fp) elt te)
  (hs:∀x,foldedSetIterable iter X.env x=pure x:=by intro _;rfl):PE X (.ListComp elt [⟨tg,iter,ifs,0⟩] scope pos) (zQ own fr wi g tt te):=by
 f_are;rw[eval_ListComp];refine XM (use:=none) rfl hs (D8 (S.cells I.ok)) S.kind S.names ?_;refine uI (RR:=λacc C=>compPost (model X.prog X.w) X.A X.xe none (EP X dh σ Q) acc C) hc S hi hb I h ?_;intro D C s' H' m' I' q f hn;obtain⟨f0,f1,f2,f3,f4,f5⟩:=f;exact⟨m',hn,λh' sb=>⟨.ref D,H',I'.turned (t':=s'.toks) (λb o hb e=>(sb.2 b hb).trans e) f0 f1 f3 f4 f5,rfl,q⟩⟩
end
section
variable {σ:St}{fr:AT}
end
end L2
namespace L2
section
variable {α:Type}{us:List α}
theorem len0(h:us.length=0):us=[]:=Ud.mp h
theorem AW{n:Nat}(h:us.length=n+1):∃a r,us=a :: r/\r.length=n:=by
 cases us with
 | nil=>simp at h
 | cons a r=>exact⟨a,r,rfl,by simpa using h⟩
theorem Et(h:us.length=1):∃a,us=[a]:=by
 obtain⟨a,r,rfl,h2⟩:=AW h;obtain rfl:=len0 h2;exact⟨a,rfl⟩
theorem Ad(h:us.length=2):∃a b,us=[a,b]:=by
 obtain⟨a,r,rfl,h2⟩:=AW h;obtain⟨b,rfl⟩:=Et h2;exact⟨a,b,rfl⟩
theorem Ck(h:us.length=3):∃a b c,us=[a,b,c]:=by
 obtain⟨a,r,rfl,h2⟩:=AW h;obtain⟨b,c,rfl⟩:=Ad h2;exact⟨a,b,c,rfl⟩
theorem Bt(h:us.length=4):∃a b c d,us=[a,b,c,d]:=by
 obtain⟨a,r,rfl,h2⟩:=AW h;obtain⟨b,c,d,rfl⟩:=Ck h2;exact⟨a,b,c,d,rfl⟩
theorem OB(h:us.length=5):∃a b c d e,us=[a,b,c,d,e]:=by
 obtain⟨a,r,rfl,h2⟩:=AW h;obtain⟨b,c,d,e,rfl⟩:=Bt h2;exact⟨a,b,c,d,e,rfl⟩
end
end L2
namespace L2
open PySem PySem.Spec PyProof.Rows
section
variable {M:Model}{A:S7}{E:Value->RV->Prop}{s:RV}{base:Heap}{env:Env}{outer:List Env}{L x T C:Addr}{d:ZR}{fl:Value}{Q:Unit->RV->Prop}
end
section
variable {X:Cx}{dh:Z0}{σ:St}{H H':Hp}{s s':RV}{x T C:Addr}{d:ZR}{fl:Value}{ts:ZL}{h':Heap}{E:XK}{e:Value}
end
section
variable {P:Sj}{w:World}{K:RM}{mg:Z6}{base:Heap}{N:ZN}{qual:Str}{scope:Scope}{f:Addr}{cd:Value}{A:S7}{outer:List Env}{s:RV}{H:Hp}{E:XK}
end
section
variable {X:Cx}{E:XK}{C:Addr}{x:Str}{np d5 pos:Pos}{e:Expr}{es:Z9}{ta:TA}
end
section
variable {X:Cx}{pos:Pos}
end
section
variable {X:Cx}{dh:Z0}{σ:St}{H:Hp}{s:RV}{x T C:Addr}{ts:ZL}
end
section
variable {X:Cx}{dh:Z0}{σ:St}{H:Hp}{s:RV}{e:Value}
section
variable {x T C B:Addr}{d:ZR}{cn:Str}{np:Pos}{b:Bool}
end
end
section
variable {X:Cx}{x:Str}{st:Stmt}{ps:ZN}{k:Nat}{sp:Sp}{p pos:Pos}{e:Expr}{es:Z9}{t:TA}{E:XK}
end
section
variable {K:RM}{B C:Addr}{i:Nat}{tb t u:TXs}{ts:TS}{D:Ends}{σ:St}{H:Hp}{c:TT}{te:TXe}{sp:Sp}{ta:TA}{Q:VK}{Ex:St->Hp->Addr->Option Addr->Prop}{Eh:Hp->Addr->Option Addr->Prop}{E:XK}{th:TH}
end
section
open PySem.Calls PySem.Builtin PySem.Builtin.ObjectAttr PySem.Builtin.Getset_descriptor
variable {prog:Sj}{w:World}{A:S7}{E:Value->RV->Prop}{K:RM}{x C:Addr}{di:ZR}{h:Heap}{g:Array WC}{d:Drawn}{t:Nat}{os:OsState}
end
section
variable {K:RM}{H:Hp}{Q:VK}{x C D:Addr}{d:ZR}{b:Bool}
end
section
variable {M:Model}{A:S7}{E:Value->RV->Prop}{s:RV}{base:Heap}{env:Env}{l:List Env}{L x T C:Addr}{d:ZR}
end
section
variable {X:Cx}{dh:Z0}{σ:St}{H:Hp}{s s':RV}{x T C:Addr}{d:ZR}{ts:ZL}{h':Heap}{E:XK}{e:Value}{fl:Value}
end
section
variable {P:Sj}{w:World}{K:RM}{mg:Z6}{base:Heap}{N:ZN}{qual:Str}{scope:Scope}{f:Addr}{cd:Value}{A:S7}{outer:List Env}{s:RV}{H:Hp}{E:XK}
end
section
variable {X:Cx}{pos:Pos}
end
section
variable {σ:St}{H:Hp}{Q:VK}{D:Ends}{Ex:St->Hp->Addr->Option Addr->Prop}{Eh:Hp->Addr->Option Addr->Prop}
end
end L2
namespace L2
def Back(U N:Z5):Prop:=∀σ' H',U σ' H'->N σ' H'
theorem bL{U N:Z5}{σ:St}{H:Hp}(h:Back U N)(q:U σ H):N σ H:=h σ H q
end L2
namespace L2
open PySem PySem.Spec PyProof.Rows
structure Ek(K:RM)(C:Addr)(m:Str)(f:Addr):Prop where
 ga:PySem.W.specialIn K (.ref C) "__getattribute__" = some (some (.builtin "type.__getattribute__"))
 rd:PySem.W.readsIn K C (.type "type")=true
 fc:PySem.W.findCls K (.ref C) (.type "type") m=some (.val (.ref f))
 kp:S8 K (.ref f)=true
section
variable {X:Cx}{k:Nat}{f C:Addr}{fd:TC}{ps:ZN}{sp:Sp}{x m:Str}{p pos apos:Pos}{e:Expr}{es:Z9}{t:TA}
theorem Ih{pl:Sem Bool}(hg:Gl X x)(hm:X.mg x=some (.ref C))(hc:Ek X.K C m f)(F:aE X.prog X.w X.K X.mg X.base CX0 k f fd ps sp)(hr:bP k X.A)(hb:Binds X.K fd ps [])(ha:PA X (e :: es) t)
  (hn:isStar e=false:=by rfl) (f':es.all (λe=>!isStar e)=true:=by rfl) (t!:(x == ("__debug__" : Str))=false:=by decide)
  (ht:eval (.Call (.Attribute (.Name x p) m apos) (e :: es) [] pos) X.env=(do
   let ov <- eval (.Name x p) X.env
   standAt apos.atName
   let (f,first) <- holding [ov] (getMethod ov m pl)
   callWith pos f first (backTo pos (Ta (e :: es) X.env)) (backToKw pos (keywordEach [] X.env))):=by rfl) :
  PE X (.Call (.Attribute (.Name x p) m apos) (e :: es) [] pos) (pU sp [] E0 t):=by
 f_are;refine Yu (pl:=pl) (oa I hg hm ?_ t!) ht;refine PySem.W.method_cls I.kIn hc.ga (PySem.W.cls_value I.kIn hc.rd hc.fc rfl ?_);refine Wc (first:=[]) (h₀:=X.base) I.ok.mod.kin hc.kp (thn (ha pos dh _ σ H _ (I.tok (s.toks+1)) h) λus s2 ⟨vs,H2,I2,r,q2⟩=>⟨I2.kIn,?_⟩) (bg hn) (cM f');exact ve F hr hb .nil lB I2 r q2
end
section
variable {X:Cx}{k:Nat}{f C:Addr}{fd:TC}{ps ks:ZN}{sp:Sp}{x:Str}{p pos kpos:Pos}{e a:Expr}{es:Z9}{kws:List Yv}{t tk:TA}{te:TE}{g:List Value->List Value->List Value}{gV:List V->List V->List V}
end
section
variable {X:Cx}{dh:Z0}{σ:St}{H:Hp}{s:RV}{A:S7}{α β:Type}[Rep α][DecidableEq α][bf α][Rep β][DecidableEq β][bf β]
end
end L2
namespace PySem
open Sem (wp)
theorem Ml:typeLookup (.type "zip") "__getattr__" = pure none:=am_miss_of_fast (by kernel_rfl)
theorem L3:typeLookup (.type "zip") "keys" = pure none:=am_miss_of_fast (by kernel_rfl)
theorem JG:entryFor table "zip.__getattribute__" = some Vb.«object.__getattribute__» :=
 Y0 (id':="object.__getattribute__") (by kernel_rfl) (by trivial) (by trivial) (by kernel_rfl)
theorem Ja(z:Addr)(fs:Array Value)(u:Tok) :
  Meets (Vb.«object.__getattribute__» ⟨[.ref z,.str "keys" u],[]⟩) (λA R s=>s.heap.get? z=some { cls:=.type "zip",dict:=none,data:=.fields fs,slots:=#[] }/\raisesAttr (.ref z) "keys" A R s) :=
 Meets.of_wp λprog w A R s hs=>by
  obtain⟨hp,g,d,tk,os⟩:=s;obtain⟨hx,hA,hs⟩:=hs;have hT:(⟨hp,g,d,tk,os⟩:RV).TypeIs (.ref z) "zip":=⟨_,hx,rfl⟩;have hk:=L3;unfold Vb.«object.__getattribute__»
  repeat (any_goals (first|assumption|wp_step))
  exact wpAny_raiseAttrError hA hs (attrMsg_fits (by trivial) (by trivial))
section
variable {prog:Sj}{w:World}{A:S7}{E:Value->RV->Prop}{s:RV}
theorem Cr{z:Addr}{fs:Array Value}{Q:Option Value->RV->Prop}(hx:s.heap.get? z=some { cls:=.type "zip",dict:=none,data:=.fields fs,slots:=#[] })(hA:A.handled=none)
  (h:∀h' tk,(∀b o,s.heap.get? b=some o->h'.get? b=some o)->Q none { s with heap:=h',toks:=tk }):wpAny (model prog w) A (getAttr? (.ref z) "keys") Q E s:=by
 obtain⟨hp,g,d,tk,os⟩:=s;have hT:∀tk',(⟨hp,g,d,tk',os⟩:RV).TypeIs (.ref z) "zip":=λ_=>⟨_,hx,rfl⟩;have f1:=sub_AttributeError;have f3:=Wh.lookup;have f4:=Wh.bind (.ref z);have f5:=Ml;unfold getAttr? getAttrBy? getAttrBy
 repeat (any_goals (first|assumption|exact hT _|((with_reducible show wpAny _ _ (call (Value.builtin "zip.__getattribute__") _ _) _ _ _);refine V5 Wh (hT _) JG (F.args_zip_getattribute_2 _ _) (Ja z fs _) ⟨hx,hA,λh' tk' e hn=>?_⟩)|wp_step))
 obtain⟨t',u',he⟩:=hn.there;show wpAny _ _ (getattributeRaised _ _ _ _ _ _ _) _ _ _;unfold getattributeRaised
 repeat (any_goals (first|assumption|wp_step))
 exact h _ _ hn.keeps
end
end PySem
namespace PySem
open Sem (wp)
section
variable {prog:Sj}{w:World}{A:S7}{E:Value->RV->Prop}{s:RV}
abbrev gC(h:Heap)(z TI TO T:Addr)(b:Bool):Prop:=h.get? z=some { cls:=.type "zip",dict:=none,data:=.fields #[rawInt T,.bool b,.bool false,.ref TI,.ref TO],slots:=#[] }
theorem xM{z TI TO T:Addr}{b:Bool}{oT:Obj}{Q:Bool->RV->Prop}(gz:gC s.heap z TI TO T b)(gT:s.heap.get? T=some oT)
  (h:∀h',gC h' z TI TO T true->VF z s.heap h'->Q false { s with heap:=h' }):wpAny (model prog w) A (Ul (.ref z)) Q E s:=by
 unfold Ul;refine RO (W7 gz rfl (x:=rawInt T) rfl ?_);have al:∀ {R:Option Obj->RV->Prop},R (some oT) s->wpAny (model prog w) A (loadIfAlive ((T:Int).toNat)) R E s:=λ{R} r=>by
  intro Γ q hΓ;show R (s.heap.get? ((T:Int).toNat)) s;rw[show ((T:Int).toNat)=T from TZ T,gT];exact r
 refine RO (al ?_);rw[if_neg (λz=>nomatch z)];refine RO (W7 gz rfl (x:=.bool b) rfl ?_);cases b with
 | true =>
  rw[if_neg (by decide)]
  exact R1 (h _ gz ⟨rfl,λ_ _=>rfl⟩)
 | false =>
  rw[if_pos (by decide)]
  exact RO (Wi gz (by simp) λh1 gz1 Y!=>R1 (h h1 gz1 Y!))
theorem yO{z TI TO T i1 i2 l1 l2:Addr}{k1 k2:Nat}{xs ys:Array Value}{x y:Value}{b:Bool}{oT:Obj}{Q:Value->RV->Prop}(D:Xm z TI TO i1 i2 l1 l2)
  (gz:gC s.heap z TI TO T b) (gT:s.heap.get? T=some oT) (gI:Zt s.heap TI (.ref i1) (.ref i2))
  (g1:s.heap.IsListIter i1 l1 k1) (g2:s.heap.IsListIter i2 l2 k2) (gl1:s.heap.IsList l1 xs) (gl2:s.heap.IsList l2 ys) (gx:xs[k1]?=some x) (gy:ys[k2]?=some y)
  (hQ:∀h',gC h' z TI TO T true->h'.IsListIter i1 l1 (k1+1)->h'.IsListIter i2 l2 (k2+1)->Zt h' s.heap.objs.size x y ->
   (∀c o,c≠z->c≠i1->c≠i2->s.heap.get? c=some o->h'.get? c=some o)->Q (.ref s.heap.objs.size) { s with heap:=h' }) :
  wpAny (model prog w) A (Vb.«zip.__next__» ⟨[.ref z],[]⟩) (λfin s'=>∃v,fin=.done (.ret v)/\Q v s') E s:=by
 show wpAny _ _ (field (.ref z) 2 >>= _) _ _ _;refine RO (W7 gz rfl (x:=.bool false) rfl ?_);show wpAny _ _ (field (.ref z) 3 >>= _) _ _ _;refine RO (W7 gz rfl (x:=.ref TI) rfl ?_);refine RO (Vy gI rfl ?_);show wpAny _ _ (Ul (.ref z) >>= _) _ _ _;refine RO (xM gz gT λh1 gz1 Y!=>?_);simp only[S5,if_false,Xn,Yz,List.forIn_nil];refine RO (RO (RO (S2 ?_)));show wpAny _ _ (VY (.ref i1) >>= _) _ _ _;refine RO (Yl (g1.extBut Y!.extBut D.i1z) (gl1.extBut Y!.extBut D.l1z) gx λh2 g12 r!=>R1 (R1 ?_));refine RO (RO (S2 ?_));show wpAny _ _ (VY (.ref i2) >>= _) _ _ _;refine RO (Yl ((g2.extBut Y!.extBut D.i2z).extBut r!.extBut D.i12.symm) ((gl2.extBut Y!.extBut D.l2z).extBut r!.extBut D.l2i1) gy λh3 g23 hs3=>R1 (R1 (R1 ?_)));refine RO (Y1 (R1 ⟨_,rfl,?_⟩) (show 2<=SG by decide))
 have e1:h1.objs.size=s.heap.objs.size:=Y!.1;have e2:h2.objs.size=h1.objs.size:=r!.1;have e3:h3.objs.size=h2.objs.size:=hs3.1;have ez:h3.objs.size=s.heap.objs.size:=e3.trans (e2.trans e1);have up:∀c o,c≠z->c≠i1->c≠i2->s.heap.get? c=some o->h3.get? c=some o:=λc o n1 n2 n3 q=>hs3.extBut _ _ n3 (r!.extBut _ _ n2 (Y!.extBut _ _ n1 q));have q:=hQ (h3.push { cls:=.type "tuple",data:=.seq #[x,y] }) (RW _ (hs3.extBut _ _ D.i2z.symm (r!.extBut _ _ D.i1z.symm gz1))) ((g12.extBut hs3.extBut D.i12).at λo e=>RW _ e) (g23.at λo e=>RW _ e)
  (by rw[<- ez];exact Si _ rfl) λc o n1 n2 n3 q=>RW _ (up c o n1 n2 n3 q)
 rw[<- ez]at q;exact q
theorem Hl{z TI TO T i1 i2 l1 l2:Addr}{k1 k2:Nat}{xs ys:Array Value}{x y:Value}{b:Bool}{oT:Obj}{Q:Option Value->RV->Prop}(D:Xm z TI TO i1 i2 l1 l2)
  (gz:gC s.heap z TI TO T b) (gT:s.heap.get? T=some oT) (gI:Zt s.heap TI (.ref i1) (.ref i2))
  (g1:s.heap.IsListIter i1 l1 k1) (g2:s.heap.IsListIter i2 l2 k2) (gl1:s.heap.IsList l1 xs) (gl2:s.heap.IsList l2 ys) (gx:xs[k1]?=some x) (gy:ys[k2]?=some y)
  (hQ:∀h',gC h' z TI TO T true->h'.IsListIter i1 l1 (k1+1)->h'.IsListIter i2 l2 (k2+1)->Zt h' s.heap.objs.size x y ->
   (∀c o,c≠z->c≠i1->c≠i2->s.heap.get? c=some o->h'.get? c=some o)->Q (some (.ref s.heap.objs.size)) { s with heap:=h' }) :
  wpAny (model prog w) A (pyNext (.ref z)) Q E s:=by
 have tz:s.TypeIs (.ref z) "zip":=⟨_,gz,rfl⟩;unfold pyNext;refine RO (WR (Vv (name:=V7 "__next__") tz W8 (Uy W8 tz F.entry_zip_next ?_ (F.args_zip_next_1 _))));exact yO D gz gT gI g1 g2 gl1 gl2 gx gy λh' a1 a2 a3 a4 a5=>R1 (hQ h' a1 a2 a3 a4 a5)
theorem AN{z TI TO T i1 i2 l1 l2:Addr}{k1:Nat}{xs:Array Value}{b:Bool}{oT:Obj}{Q:Fin->RV->Prop}(hh:A.handled=none)(D:Xm z TI TO i1 i2 l1 l2)
  (gz:gC s.heap z TI TO T b) (gT:s.heap.get? T=some oT) (gI:Zt s.heap TI (.ref i1) (.ref i2))
  (g1:s.heap.IsListIter i1 l1 k1) (gl1:s.heap.IsList l1 xs) (gx:xs[k1]?=none)
  (hE:∀h' e,(∀c o,c≠z->c≠i1->c≠i2->s.heap.get? c=some o->h'.get? c=some o)->(∃o,h'.get? e=some o/\o.cls=.type "StopIteration")->E (.ref e) { s with heap:=h' }) :
  wpAny (model prog w) A (Vb.«zip.__next__» ⟨[.ref z],[]⟩) Q E s:=by
 show wpAny _ _ (field (.ref z) 2 >>= _) _ _ _;refine RO (W7 gz rfl (x:=.bool false) rfl ?_);show wpAny _ _ (field (.ref z) 3 >>= _) _ _ _;refine RO (W7 gz rfl (x:=.ref TI) rfl ?_);refine RO (Vy gI rfl ?_);show wpAny _ _ (Ul (.ref z) >>= _) _ _ _;refine RO (xM gz gT λh1 gz1 Y!=>?_);simp only[S5,if_false,Xn,Yz,List.forIn_nil];refine RO (RO (RO (S2 ?_)));show wpAny _ _ (VY (.ref i1) >>= _) _ _ _;exact RO (wpAny_nextOf_list_end hh (g1.extBut Y!.extBut D.i1z) (gl1.extBut Y!.extBut D.l1z) gx λh2 e r! he=>hE h2 e (λc o n1 n2 n3 q=>r! _ _ n2 (Y!.extBut _ _ n1 q)) he)
theorem Iu{z TI TO T i1 i2 l1 l2:Addr}{k1:Nat}{xs:Array Value}{b:Bool}{oT:Obj}{Q:Option Value->RV->Prop}(hh:A.handled=none)(D:Xm z TI TO i1 i2 l1 l2)
  (gz:gC s.heap z TI TO T b) (gT:s.heap.get? T=some oT) (gI:Zt s.heap TI (.ref i1) (.ref i2))
  (g1:s.heap.IsListIter i1 l1 k1) (gl1:s.heap.IsList l1 xs) (gx:xs[k1]?=none)
  (hQ:∀h',(∀c o,c≠z->c≠i1->c≠i2->s.heap.get? c=some o->h'.get? c=some o)->Q none { s with heap:=h' }):wpAny (model prog w) A (pyNext (.ref z)) Q E s:=by
 have tz:s.TypeIs (.ref z) "zip":=⟨_,gz,rfl⟩;unfold pyNext;refine RO (WR (Vv (name:=V7 "__next__") tz W8 (Uy W8 tz F.entry_zip_next (AN hh D gz gT gI g1 gl1 gx λh' e hk he=>?_) (F.args_zip_next_1 _))));obtain⟨o,ho,hc⟩:=he;exact RO (WM (T:="StopIteration") (b:=true) ⟨o,ho,hc⟩ isSubtype_stop (R1 (hQ _ hk)))
end
end PySem
namespace PySem
open Sem (wp)
theorem Ap:entryFor table "dict.update.loop" = some Vb.«dict.update.loop»:=entryFor_of_tree (by kernel_rfl)
theorem pM:plainId "dict.update.loop" = true:=by trivial
structure lj(h:Heap)(z TI TO i1 i2 l1 l2:Addr)(i:Nat)(xs ys:Array Value):Prop where
 own:(IsZip h z TI TO .none/\∃a b,Zt h TO a b)\/∃ (T:Addr) (b:Bool) (oT:Obj),gC h z TI TO T b/\h.get? T=some oT/\T≠z/\T≠i1/\T≠i2
 ins:Zt h TI (.ref i1) (.ref i2)
 it1:h.IsListIter i1 l1 i
 it2:h.IsListIter i2 l2 i
 ls1:h.IsList l1 xs
 ls2:h.IsList l2 ys
theorem lj.keep{h h':Heap}{z TI TO i1 i2 l1 l2 d:Addr}{i:Nat}{xs ys:Array Value}(Z:lj h z TI TO i1 i2 l1 l2 i xs ys)(nz:z≠d)(nI:TI≠d)(nO:TO≠d)(n1:i1≠d)(n2:i2≠d)(n3:l1≠d)(n4:l2≠d)
  (k:∀c o,c≠d->h.get? c=some o->h'.get? c=some o) (hd:∃o,h'.get? d=some o):lj h' z TI TO i1 i2 l1 l2 i xs ys where
 own:=by
  walk_at "130"
  .exact .inl ⟨k _ _ nz gz,a,b,k _ _ nO gO⟩
  .by_cases e:T=d
   .obtain⟨o,ho⟩:=hd;exact .inr ⟨T,b,o,k _ _ nz gz,by rw[e];exact ho,t1,t2,t3⟩
   .exact .inr ⟨T,b,oT,k _ _ nz gz,k _ _ e gT,t1,t2,t3⟩
 ins:=k _ _ nI Z.ins
 it1:=Z.it1.at λo q=>k _ o n1 q
 it2:=Z.it2.at λo q=>k _ o n2 q
 ls1:=Z.ls1.at λo q=>k _ o n3 q
 ls2:=Z.ls2.at λo q=>k _ o n4 q
section
variable {prog:Sj}{w:World}{A:S7}{E:Value->RV->Prop}{s:RV}{z TI TO i1 i2 l1 l2:Addr}{xs ys:Array Value}
theorem EI{i:Nat}{x y:Value}{Q:Option Value->RV->Prop}(D:Xm z TI TO i1 i2 l1 l2)(Z:lj s.heap z TI TO i1 i2 l1 l2 i xs ys)(gx:xs[i]?=some x)(gy:ys[i]?=some y)
  (hQ:∀h',lj h' z TI TO i1 i2 l1 l2 (i+1) xs ys->Zt h' s.heap.objs.size x y->(∀c o,c≠z->c≠TO->c≠i1->c≠i2->s.heap.get? c=some o->h'.get? c=some o)->Q (some (.ref s.heap.objs.size)) { s with heap:=h' }) :
  wpAny (model prog w) A (pyNext (.ref z)) Q E s:=by
 have lt:∀ {c:Addr} {o:Obj},s.heap.get? c=some o->s.heap.objs.size≠c:=λe=>UI (R7 e);walk_at "130"
 .refine wpAny_pyNext_zip_item D gz Z.ins gO Z.it1 Z.it2 Z.ls1 Z.ls2 gx gy λh' a1 a2 a3 a4 a5 a6 hk=>hQ h' ⟨.inr ⟨s.heap.objs.size,false,_,a1,a5,lt gz,?_,?_⟩,hk _ _ D.TIz D.TITO D.TIi1 D.TIi2 Z.ins,a3,a4,Z.ls1.at λo e=>hk _ o D.l1z D.l1TO D.l1i1 D.l1i2 e,Z.ls2.at λo e=>hk _ o D.l2z D.l2TO D.l2i1 D.l2i2 e⟩ a5 hk
  .obtain⟨_,e,_⟩:=Z.it1;exact lt e
  .obtain⟨_,e,_⟩:=Z.it2;exact lt e
 .exact Hl D gz gT Z.ins Z.it1 Z.it2 Z.ls1 Z.ls2 gx gy λh' a1 a2 a3 a4 hk=>hQ h' ⟨.inr ⟨T,true,oT,a1,hk _ _ t1 t2 t3 gT,t1,t2,t3⟩,hk _ _ D.TIz D.TIi1 D.TIi2 Z.ins,a2,a3,Z.ls1.at λo e=>hk _ o D.l1z D.l1i1 D.l1i2 e,Z.ls2.at λo e=>hk _ o D.l2z D.l2i1 D.l2i2 e⟩ a4 λc o c1 _ c3 c4 e=>hk c o c1 c3 c4 e
theorem HP{i:Nat}{Q:Option Value->RV->Prop}(hh:A.handled=none)(D:Xm z TI TO i1 i2 l1 l2)(Z:lj s.heap z TI TO i1 i2 l1 l2 i xs ys)(gx:xs[i]?=none)
  (hQ:∀h',(∀c o,c≠z->c≠TO->c≠i1->c≠i2->s.heap.get? c=some o->h'.get? c=some o)->Q none { s with heap:=h' }):wpAny (model prog w) A (pyNext (.ref z)) Q E s:=by
 walk_at "130"
 .exact wpAny_pyNext_zip_end hh D gz Z.ins gO Z.it1 Z.it2 Z.ls1 Z.ls2 (.inl gx) λh' hk=>hQ h' hk
 .exact Iu hh D gz gT Z.ins Z.it1 Z.ls1 gx λh' hk=>hQ h' λc o c1 _ c3 c4 e=>hk c o c1 c3 c4 e
end
section
variable {prog:Sj}{w:World}{A:S7}{E:Value->RV->Prop}{Kk:Type}[DecidableEq Kk]{knd:KeyKind prog w Kk}{d z TI TO i1 i2 l1 l2:Addr}{xs ys:Array Value}{kvs:List (Kk×Value)}
theorem Mf{R:Ys->RV->Prop}(hh:A.handled=none)(D:Xm z TI TO i1 i2 l1 l2)(nz:z≠d)(nI:TI≠d)(nO:TO≠d)(n1:i1≠d)(n2:i2≠d)(n3:l1≠d)(n4:l2≠d)(hl:kvs.length=xs.size)(hz:kvs.length<=SG)
  (hkv:∀ (i:Nat) (k:Kk) (v:Value),kvs[i]?=some (k,v)->∃x,xs[i]?=some x/\knd.is k x=true/\ys[i]?=some v) :
  ∀ (m i:Nat) (j:Int) (s:RV),kvs.length - i=m->i<=kvs.length->lj s.heap z TI TO i1 i2 l1 l2 i xs ys->s.heap.DictOf knd d (merged [] (kvs.take i)) ->
   (∀h' t',h'.DictOf knd d (merged [] kvs)->(∀c o,c≠d->c≠z->c≠TO->c≠i1->c≠i2->s.heap.get? c=some o->h'.get? c=some o)->R (.ok (.ret .none)) { s with heap:=h',toks:=t' }) ->
   codeAny (model prog w) A (.builtin "dict.update.loop" ⟨[.ref d,.ref z,rawInt j,.none],[]⟩) R s:=by
 intro m
 induction m with
 | zero =>
  intro i j s hm hi Z hd hR;have e:i=kvs.length:=by lia
  subst e;rw[SV]at hd;refine TF Ap ?_;rw[S9 pM _];show wpAny _ A.in1 (pyNext (.ref z) >>= _) _ _ s;refine RO (HP (by simpa using hh) D Z (UC (by lia)) λh' hk=>?_)
  show wpAny _ A.in1 (Builtin.Dict.addKeywords d [] >>= _) _ _ _;refine RO (R1 (R1 (hR h' s.toks ?_ λc o _ c1 c2 c3 c4 q=>hk c o c1 c2 c3 c4 q)));obtain⟨o,es,ep,ho,rest⟩:=hd;exact⟨o,es,ep,hk _ _ nz.symm nO.symm n1.symm n2.symm ho,rest⟩
 | succ m ih =>
  intro i j s hm hi Z hd hR;have ZW:i<kvs.length:=by lia
  obtain⟨⟨k,v⟩,hg⟩:∃p,kvs[i]?=some p:=⟨_,RL ZW⟩;obtain⟨x,gx,kx,gy⟩:=hkv i k v hg;refine TF Ap ?_;rw[S9 pM _];show wpAny _ A.in1 (pyNext (.ref z) >>= _) _ _ s;refine RO (EI D Z gx gy λh1 Z1 gp hk=>?_);show wpAny _ A.in1 (holding [SR s.heap.objs.size] _ >>= _) _ _ _;refine RO (S2 ?_);refine RO (WD ?_);unfold Builtin.Dict.pairItems;refine RO (V6 (T:="tuple") ⟨_,gp,rfl⟩ ?_);rw[if_pos (by decide)]
  refine RO (Vy gp rfl (R1 ?_));show wpAny _ A.in1 (holding [x,v] (dictSet d x v)) _ _ _;refine S2 ?_;have hd1:h1.DictOf knd d (merged [] (kvs.take i)):=by
   obtain⟨o,es,ep,ho,rest⟩:=hd;exact⟨o,es,ep,hk _ _ nz.symm nO.symm n1.symm n2.symm ho,rest⟩
  have ml:=merged_length_le ([]:List (Kk×Value)) (kvs.take i);have tl:(kvs.take i).length<=i:=List.length_take_le ..;refine wpAny_dictSet_pairs (s:={ s with heap:=h1 }) (hsz:=by rw[Wf,To]at ml;lia) kx hd1 λh2 hd2 r!=>?_
  rw[<- merged_take_succ [] kvs i (k,v) hg]at hd2;have he:∃o,h2.get? d=some o:=let ⟨o,_,_,ho,_⟩:=hd2;⟨o,ho⟩;refine R1 ⟨Uc pM _,ih (i+1) (j+1) _ (by lia) ZW (Z1.keep nz nI nO n1 n2 n3 n4 (λc o c1 q=>(r!.2 c c1).trans q) he) hd2 λh3 t3 hd3 hk3=>?_⟩
  exact hR h3 t3 hd3 λc o c0 c1 c2 c3 c4 q=>hk3 c o c0 c1 c2 c3 c4 ((r!.2 c c0).trans (hk c o c1 c2 c3 c4 q))
theorem zf{s:RV}{Q:Value->RV->Prop}(hh:A.handled=none)(D:Xm z TI TO i1 i2 l1 l2)(gz:IsZip s.heap z TI TO .none)(Z:lj s.heap z TI TO i1 i2 l1 l2 0 xs ys)(hl:kvs.length=xs.size)(hz:kvs.length<=SG)
  (hkv:∀ (i:Nat) (k:Kk) (v:Value),kvs[i]?=some (k,v)->∃x,xs[i]?=some x/\knd.is k x=true/\ys[i]?=some v) (nd:(kvs.map (·.1)).Nodup) (gO:∃o,s.heap.get? TO=some o)
  (h:∀h' t',h'.DictOf knd s.heap.objs.size kvs->(∀c o,c≠z->c≠TO->c≠i1->c≠i2->s.heap.get? c=some o->h'.get? c=some o)->Q (.ref s.heap.objs.size) { s with heap:=h',toks:=t' }) :
  wpAny (model prog w) A (call (.type "dict") [.ref z]) Q E s:=by
 refine callType_codes (Q₁:=λobj s₁=>obj=.ref s.heap.objs.size/\s₁={ s with heap:=s.heap.push { cls:=.type "dict",data:=.dict #[] } }) F.kt_called_dict (F.kt_typeCall_dict_1 _) F.entry_dict_init (kt_code_dict_new _ ⟨rfl,rfl⟩) ?_;rintro obj s₁ ⟨rfl,rfl⟩;have anew:(s.heap.push { cls:=.type "dict",data:=.dict #[] }).DictOf knd s.heap.objs.size []:=Heap.DictOf.new s.heap;have lt:∀ {c:Addr} {o:Obj},s.heap.get? c=some o->c≠s.heap.objs.size:=λe=>Sa (R7 e);have gz1:IsZip (s.heap.push { cls:=.type "dict",data:=.dict #[] }) z TI TO .none:=RW _ gz;have nz:=lt gz;have nI:=lt Z.ins;have nO:TO≠s.heap.objs.size:=let ⟨_,e⟩:=gO;lt e;have n1:i1≠s.heap.objs.size:=let ⟨_,e,_⟩:=Z.it1;lt e;have n2:i2≠s.heap.objs.size:=let ⟨_,e,_⟩:=Z.it2;lt e;have n3:l1≠s.heap.objs.size:=let ⟨_,e,_⟩:=Z.ls1;lt e;have n4:l2≠s.heap.objs.size:=let ⟨_,e,_⟩:=Z.ls2;lt e;refine⟨anew.typeIs,F.args_dict_init_2 _ _,?_⟩;unfold Vb.«dict.__init__»;refine RO ?_;unfold Builtin.Dict.selfAndRest;refine RO (wpAny_notOrdered_dict anew.typeIs ?_);show wpAny _ _ (pure (s.heap.objs.size,[SR z])) _ _ _;refine R1 ?_;show wpAny _ _ (X4 "dict.__init__" s.heap.objs.size (.ref z) [] .none) _ _ _;unfold X4;refine RO (V6 (T:="zip") ⟨_,gz1,rfl⟩ ?_);rw[if_pos (by decide)]
 refine RO (Cr gz1 (by simpa using hh) λh1 t1 k1=>?_)
 rw[if_pos (show (none:Option Value).isNone=true from rfl)];refine RO (YR ?_);refine RO (wpAny_pyIter_zip (k1 _ _ gz1) ?_);have up:∀c o,s.heap.get? c=some o->h1.get? c=some o:=λc o e=>k1 c o (RW _ e);have anew1:h1.DictOf knd s.heap.objs.size []:=by
  obtain⟨o,es,ep,ho,rest⟩:=anew;exact⟨o,es,ep,k1 _ _ ho,rest⟩
 have Z1:lj h1 z TI TO i1 i2 l1 l2 0 xs ys:=Z.keep nz nI nO n1 n2 n3 n4 (λc o _ e=>up c o e) (let ⟨o,_,_,ho,_⟩:=anew1;⟨o,ho⟩);refine R1 ⟨Uc pM _,Mf (by simpa using hh) D nz nI nO n1 n2 n3 n4 hl hz hkv kvs.length 0 0 _ rfl (SO _) Z1 anew1 λh' t' ZZ g!=>?_⟩
 rw[merged_nil_of_nodup kvs nd]at ZZ;exact⟨rfl,h h' t' ZZ λc o c1 c2 c3 c4 e=>g! c o (lt e) c1 c2 c3 c4 (up c o e)⟩
end
end PySem
namespace L2
open PySem PySem.Spec PyProof.Rows
theorem Ic:∀ {ks:List Key} {ys:Z7} {us:Z8},Vals ys us->KV (ks.zip ys) (ks.zip us)
 | [],_,_,_=>by
  rw[List.zip_nil_left,List.zip_nil_left];exact Paired.nil
 | _ :: _,_,_,.nil=>Paired.nil
 | _ :: _,_,_,.cons r rr=>Paired.cons ⟨rfl,r⟩ (Ic rr)
def AU(K:RM)(vs:Z7)(H:Hp)(Q:VK):Prop:=∃ (a b:Addr) (ks:List Key) (ys:Z7),vs=[.ref a,.ref b]/\SqL K H a (ks.map kV)/\SqL K H b ys/\ks.length=ys.length/\ks.Nodup/\∀d,H d=none->Q (.ref d) (upd H d (.dK (ks.zip ys)))
def BX(K:RM)(ta:TA):TE:=λσ H Q=>ta σ H λvs H1=>AU K vs H1 Q
theorem j9{K:RM}{ta:TA}{σ:St}{H:Hp}{Q:VK}(h:ta σ H λvs H1=>AU K vs H1 Q):BX K ta σ H Q:=h
theorem js{X:Cx}(K:RM)(hK:X.K=K)(hc:X.calm=true){a b:Expr}{ta:TA}{p p2 pos pos2:Pos}(hg1:Gl X "dict")(hm1:X.mg "dict" = none)(hg2:Gl X "zip")(hm2:X.mg "zip" = none)(ha:PA X [a,b] ta)(hn:isStar a=false:=by rfl)(hn2:isStar b=false:=by rfl) :
  PE X (.Call (.Name "dict" p) [.Call (.Name "zip" p2) [a,b] [] pos2] [] pos) (BX K ta):=by
 subst hK;f_are;refine Call_ (gU I hg1 hm1 PyProof.Rows.boot_dict (Ts ?_ (bg rfl) (cM rfl)));rw[bg rfl];show wpAny _ _ (spliced ((false,eval (.Call (.Name "zip" p2) [a,b] [] pos2) X.env) :: backTo pos (Ta [] X.env))) _ _ s;refine Wb ?_;refine Call_ (gU I hg2 hm2 boot_zip (Ts (thn (ha pos2 dh s σ H _ I h) λus s1 ⟨vs,H1,I1,r1,q1⟩=>?_) (bg hn) (cM (by simp[hn2]))))
 obtain⟨l,l',ks,ys,e,hS,hS2,hlen,hnd,q⟩:=q1;subst e;cases r1 with
 | cons r rr =>
  cases rr with
  | cons r2 rr2 =>
   cases rr2;cases(show _=SR l from r);cases(show _=SR l' from r2);obtain⟨ZV,rv,pl,hz1⟩:=I1.list hS;obtain⟨ZY,rv2,pl2,hz2⟩:=I1.list hS2;have e1:=rv.length;have e2:=rv2.length;rw[RP]at e1 hz1;have zl:(ks.zip ZY).length=ks.length:=by rw[WZ];lia
   have zv:(ks.zip ys).length=ks.length:=by rw[WZ];lia
   have lt1:l<s1.heap.objs.size:=by obtain⟨_,z,_⟩:=pl.isList;exact R7 z
   have lt2:l' < s1.heap.objs.size:=by obtain⟨_,z,_⟩:=pl2.isList;exact R7 z
   refine call_zip_2 pl.isList pl2.isList λh' gz gI gO g1 g2 gs hk=>?_;refine Wv ?_;refine zf (knd:=bY X.prog X.w) (kvs:=ks.zip ZY) (s:={ s1 with heap:=h' }) (I.ok.hd hc) (Hh _ _ _ lt1 lt2) gz ⟨.inl ⟨gz,_,_,gO⟩,gI,g1,g2,pl.isList.at λo e=>hk _ o e,pl2.isList.at λo e=>hk _ o e⟩ (by rw[zl];simpa using e1) (by rw[zl];exact hz1) (λi k v e=>?_) ?_ ⟨_,gO⟩ λh2 t2 hd hk2=>?_
   .obtain⟨z1,z2⟩:=Xx.mp e;obtain⟨u,hu,ru⟩:=rv.get (show (ks.map kV)[i]?=some (kV k) by rw[RY,z1];rfl)
    exact⟨u,by simpa using hu,mQ ru,by simpa using z2⟩
   .rw[List.map_fst_zip (by lia)]
    exact hnd
   .have gs':h'.objs.size=s1.heap.objs.size+5:=gs;have hp:s1.heap.objs.size<=h'.objs.size:=by rw[gs'];exact V2 _ _
    refine⟨.ref h'.objs.size,upd H1 h'.objs.size (.dK (ks.zip ys)),I1.laid (a:=h'.objs.size) (o:=.dK (ks.zip ys)) (λb o e=>?_) hp (uE (by rw[zv];exact hz1) (beq_eq_false_iff_ne.mpr (UA (Sa (Su I1.big hp)))) (Ic rv2) hd),rfl,q _ (I1.hok.fresh hp)⟩
    have lb:=R7 e;exact hk2 b o (Sa (Su lb (V2 _ _))) (Sa (Su lb (V2 _ _))) (Sa lb) (Sa (Su lb (V2 _ _))) (hk b o e)
def cY(R M:AT):Z2:=(R.map nk).zip (aw M)
theorem gm:∀ {F M:AT} {j f c:Nat},F.Nodup->F[j]?=some f->M[j]?=some c->bq (cY F M) (nk f)=some (.int c)
 | [],_,_,_,_,_,h,_=>by simp at h
 | _ :: _,[],_,_,_,_,_,h=>by simp at h
 | a :: F,q :: M,0,f,c,_,h1,h2=>by
  cases h1;cases h2;exact de rfl
 | a :: F,q :: M,j+1,f,c,nd,h1,h2=>by
  have h1':F[j]?=some f:=h1;have h2':M[j]?=some c:=h2;obtain⟨n1,n2⟩:=SS.mp nd;have h3:¬ nk a=nk f:=λz=>n1 (by rw[gj z];exact RQ h1')
  show bq ((nk a,V.int q) :: cY F M) (nk f)=_;rw[b7 h3];exact gm n2 h1' h2'
theorem BC:∀ {R:AT},R.Nodup->(R.map nk).Nodup
 | [],_=>VX
 | a :: R,h=>by
  obtain⟨h1,h2⟩:=SS.mp h;refine SS.mpr ⟨λz=>?_,BC h2⟩;obtain⟨b,hb,e⟩:=R9.mp z;exact h1 (by rw[<- gj e];exact hb)
theorem LA(R:AT):(R.map nk).map kV=aw R:=by
 unfold aw;rw[Ux];rfl
theorem AE{K:RM}{H:Hp}{Q:VK}{x y:V}{R M:AT}(hR:At K H x R)(hM:At K H y M)(e:R.length=M.length)(nd:R.Nodup)(q:∀d,H d=none->Q (.ref d) (upd H d (.dK (cY R M)))):AU K [x,y] H Q:=by
 obtain⟨p,rfl,h1⟩:=lN hR;obtain⟨p2,rfl,h2⟩:=lN hM;exact⟨p,p2,R.map nk,aw M,rfl,by rw[LA];exact h1,h2,by unfold aw;rw[RP,RP];exact e,BC nd,q⟩
section
variable {X:Cx}{k:Nat}{f:Addr}{Cs:Addr->Prop}{fd:TC}{ps:ZN}{sp:Sp}{m:Str}{pos apos:Pos}{e o:Expr}{es:Z9}{ta:TE}{t:TA}
end
section
variable {X:Cx}
end
end L2
namespace L2
open PySem
variable {es:Z4}{owner:Array (Option Nat)}{xs:ZP}{ks:AT}{h j mask:Nat}{t:Uq}
theorem ua{xs:ZP}{j:Nat}(hs:xs.toList.Pairwise (· < ·)):∀ (fuel lo hi:Nat),hi - lo<=fuel->lo<=hi->hi<=xs.size->(∀ (i y:Nat),i<lo->xs[i]?=some y->y<j)->(∀ (i y:Nat),hi<=i->xs[i]?=some y->j<=y) ->
  Wx xs j fuel lo hi<=xs.size/\(∀ (i y:Nat),i<Wx xs j fuel lo hi->xs[i]?=some y->y<j)/\∀ (i y:Nat),Wx xs j fuel lo hi<=i->xs[i]?=some y->j<=y
 | 0,lo,hi,h1,h2,h3,h4,h5=>by
  have e:lo=hi:=by lia
  subst e;exact⟨h3,h4,h5⟩
 | fuel+1,lo,hi,h1,h2,h3,h4,h5=>by
  unfold Wx
  by_cases c:lo<hi
  .rw[if_pos c];have hm:(lo+hi) / 2<xs.size:=by lia
   have get:=SW hm;have mono:∀ (a b x y:Nat),a<b->xs[a]?=some x->xs[b]?=some y->x<y:=λa b x y hab ha hb=>by
    rw[<- Tg]at ha hb;obtain⟨ha1,rfl⟩:=RN.mp ha;obtain⟨hb1,rfl⟩:=RN.mp hb;exact SX.mp hs a b ha1 hb1 hab
   o_src;have gd:xs.getD ((lo+hi) / 2) j=xs[(lo+hi) / 2]:=by simp[Array.getD,hm]
   rw[gd]
   by_cases d:xs[(lo+hi) / 2]<j
   .rw[if_pos d];refine ua hs fuel _ _ (by lia) (by lia) h3 (λi y v! hy=>?_) h5
    rcases Sb i ((lo+hi) / 2) with z|z
    .exact WI (mono _ _ _ _ z hy get) d
    .have:i=(lo+hi) / 2:=by lia
     subst this;rw[get]at hy;cases hy;exact d
   .rw[if_neg d];refine ua hs fuel _ _ (by lia) (by lia) (by lia) h4 λi y v! hy=>?_
    rcases Sb ((lo+hi) / 2) i with z|z
    .exact SA (Ya d) (Uw (mono _ _ _ _ z get hy))
    .have:i=(lo+hi) / 2:=by lia
     subst this;rw[get]at hy;cases hy;exact Ya d
  .rw[if_neg c];have e:lo=hi:=by lia
   subst e;exact⟨h3,h4,h5⟩
theorem vc(hs:xs.toList.Pairwise (· < ·))(j:Nat):Tf xs j<=xs.size/\(∀ (i y:Nat),i<Tf xs j->xs[i]?=some y->y<j)/\∀ (i y:Nat),Tf xs j<=i->xs[i]?=some y->j<=y :=
 ua hs _ _ _ (by lia) (SO _) (R6 _) (λi y h=>absurd h (Vl _)) λi y h hy=>by
  have:=(Xg.mp hy).1;lia
theorem Jk(hs:xs.toList.Pairwise (· < ·))(hj:j∉xs.toList):(Vm xs (Tf xs j) j).toList.Pairwise (· < ·):=by
 obtain⟨h1,h2,h3⟩:=vc hs j;rw[Vn];have a:∀y∈xs.toList.take (Tf xs j),y<j:=λy hy=>by
  obtain⟨i,hi⟩:=Sk hy;have ZW:i<Tf xs j:=by
   have:=(RN.mp hi).1;rw[Sd]at this;lia
  rw[Th ZW,Tg]at hi;exact h2 i y ZW hi
 have b:∀y∈xs.toList.drop (Tf xs j),j<y:=λy hy=>by
  obtain⟨i,hi⟩:=Sk hy;rw[Xo,Tg]at hi;have c:=h3 _ y (V2 _ i) hi;have:y≠j:=λe=>hj (by rw[<- e];exact WO hy)
  lia
 rw[YX];refine⟨hs.sublist (List.take_sublist _ _),?_,λx hx y hy=>?_⟩
 .rw[Ug];exact⟨b,hs.sublist (List.drop_sublist _ _)⟩
 .rcases Sf.mp hy with rfl|hy
  .exact a x hx
  .exact WI (a x hx) (b y hy)
theorem Fe(hs:t.place.toList.Pairwise (· < ·))(hd:t.dummies=#[])(hj:j∉t.place.toList):t.slot j=.empty:=by
 unfold SetTable.slot;have:(t.place[Tf t.place j]? == some j)=false:=by
  rw[beq_eq_false_iff_ne];intro e;rw[<- Tg]at e;exact hj (RQ e)
 rw[hd];simp only[this];rfl
theorem HX{u:Uq}(hm:t.mask=u.mask)(hp:t.place=u.place)(hd:t.dummies=u.dummies)(h:Int):t.freeSlot h=u.freeSlot h:=by
 have hs:∀j,t.slot j=u.slot j:=λj=>by unfold SetTable.slot;rw[hp,hd]
 have ha:∀p,t.advance p=u.advance p:=λp=>by unfold SetTable.advance;rw[hm]
 have go:∀ (f:Nat) (p:SetTable.Probe),Wy t (λ_=>h+1) h f p=Wy u (λ_=>h+1) h f p:=λf=>by
  induction f with
  | zero=>intro p;rfl
  | succ f ih =>
   intro p;unfold Wy;rw[hs,ha,ih];simp only[ha,ih]
 unfold SetTable.freeSlot ZG Y7;rw[hm,go]
def subs:Nat->Nat->AC
 | 0,_=>[[]]
 | n+1,k=>subs n (k+1)++(subs n (k+1)).map (k :: ·)
theorem qh:∀ (n k:Nat) (l:AT),l.Pairwise (· < ·)->(∀x∈l,k<=x/\x<k+n)->l∈subs n k
 | 0,k,[],_,_=>by unfold subs;simp
 | 0,k,x :: l,_,h=>by have:=h x R4;lia
 | n+1,k,l,hp,h=>by
  unfold subs;rw[R5];cases l with
  | nil=>exact .inl (qh n (k+1) [] hp λx hx=>by cases hx)
  | cons x l =>
   rw[Ug]at hp;rcases Sb k x with z|z
   .refine .inl (qh n (k+1) _ (Ug.mpr hp) λy hy=>?_);have:=h y hy;rcases Sf.mp hy with rfl|W!
    .lia
    .have:=hp.1 y W!;lia
   .have e:x=k:=by have:=h x R4;lia
    subst e;refine .inr (R9.mpr ⟨l,qh n (x+1) l hp.2 λy hy=>?_,rfl⟩);have:=h y (R3 _ hy);have:=hp.1 y hy;lia
def zY(l:AT):Uq:={ mask:=7,place:=l.toArray,dummies:=#[],finger:=0,led:=true,moves:=0,plain:=true }
def GJ(l:AT)(h:Nat):Bool:=match (zY l).freeSlot (h:Int) with
 | some (j,false)=>decide (j<8) && !(l.contains j)
 | _=>false
theorem JE:(subs 8 0).all (λl=>decide (4<l.length) || (RS 23).all (GJ l))=true:=by trivial
theorem O2(hm:t.mask=7)(hd:t.dummies=#[])(hs:t.place.toList.Pairwise (· < ·))(h8:∀x∈t.place.toList,x<8)(h4:t.place.size<=4)(I!:h<23):∃j,t.freeSlot (h:Int)=some (j,false)/\j<8/\j∉t.place.toList:=by
 have m:=qh 8 0 _ hs λx hx=>⟨SO _,by have:=h8 x hx;lia⟩
 have a:=SF.mp JE _ m;rw[Bool.or_eq_true]at a;rcases a with a|a
 .have:=of_decide_eq_true a;rw[SM]at this;lia
 .have b:=SF.mp a h (RU.mpr I!);unfold GJ at b;rw[<- HX (t:=t) (u:=zY t.place.toList) hm (by unfold zY;simp) hd]at b
  split at b
  .rename_i j e
   rw[Uj]at b;refine⟨j,e,of_decide_eq_true b.1,λz=>?_⟩;have:=b.2;rw[XN]at this;rw[List.contains_eq_mem,decide_eq_false_iff_not]at this;exact this z
  .cases b
theorem Aw(I!:h<23):Wj (h:Int)=h:=by
 unfold Wj;have P!:(23:Int)<=2 ^ 64:=by decide
 rw[Int.emod_eq_of_lt (by lia) (by lia)]
 rfl
theorem Mw(hm:23<=t.mask+1)(hd:t.dummies=#[])(hs:t.place.toList.Pairwise (· < ·))(I!:h<23)(hh:h∉t.place.toList):t.freeSlot (h:Int)=some (h,false):=by
 have e:=Fe hs hd hh;unfold SetTable.freeSlot ZG Y7;rw[Aw I!,Ss (show h<t.mask+1 by lia)]
 have f:10 * WE t.mask=(10 * t.mask+149)+1:=by unfold WE;lia
 rw[f];unfold Wy;o_src;rw[e];rfl
theorem J3(hz:owner.size=mask+1)(hm:h<mask+1)(ho:owner.getD h none=none)(f p:Nat):VA mask owner (f+1) h p=some h:=by
 unfold VA;have e1:owner.getD h (some 0)=none:=by
  have hl:h<owner.size:=by lia
  simp only[Array.getD,hl,dite_true]at ho ⊢;exact ho
 have e2:∃k,YB mask h+1 - h=k+1:=⟨YB mask h - h,by unfold YB;split <;> lia⟩
 obtain⟨k,e2⟩:=e2;rw[e2,List.range_succ_eq_map,Vj];simp only[Uh,e1,Option.isNone_none]
def at?(l:AT)(j:Nat):Option Nat:=if j∈l then some (l.idxOf j) else none
def xh(mask:Nat)(acc:Option (Array (Option Nat)×Nat))(h:Int):Option (Array (Option Nat)×Nat):=do
 let (owner,k) <- acc
 let j <- VA mask owner (WE mask) (Wj h % (mask+1)) (Wj h)
 pure (owner.setIfInBounds j (some k),k+1)
theorem Dx{mask:Nat}:∀ (ks done:AT) (owner:Array (Option Nat)),owner.size=mask+1->(∀k∈ks,k<23)->23<=mask+1->(done++ks).Nodup->(∀j,j<mask+1->owner.getD j none=at? done j) ->
  ∃B!,(ks.map λ(k:Nat)=>(k:Int)).foldl (xh mask) (some (owner,done.length))=some (B!,(done++ks).length)/\B!.size=mask+1/\∀j,j<mask+1->B!.getD j none=at? (done++ks) j
 | [],done,owner,hz,_,_,_,ho=>⟨owner,by simp,hz,by simpa using ho⟩
 | k :: ks,done,owner,hz,hk,hm,nd,ho=>by
  have k23:=hk k R4;have kd:k∉done:=λz=>by
   rw[Vh]at nd;exact nd.2.2 k z k R4 rfl
  have o1:owner.getD k none=none:=by rw[ho k (by lia)];unfold at?;rw[if_neg kd]
  have e:done++k :: ks=(done++[k])++ks:=by simp
  rw[e]at nd ⊢;have:=Dx ks (done++[k]) (owner.setIfInBounds k (some done.length)) (by rw[Array.size_setIfInBounds];exact hz) (λx hx=>hk x (R3 _ hx)) hm nd λj hj=>by
   rw[Ur,Array.getElem?_setIfInBounds]
   by_cases c:k=j
   .subst c;rw[if_pos rfl,if_pos (by lia)]
    unfold at?;rw[if_pos (by simp),List.idxOf_append,if_neg kd]
    simp
   .rw[if_neg c,<- Ur,ho j hj];unfold at?;have mm:(j∈done++[k])↔j∈done:=by
     rw[R5,RX];exact⟨λz=>z.elim id λz=>absurd z.symm c,.inl⟩
    by_cases d:j∈done
    .rw[if_pos d,if_pos (mm.mpr d),List.idxOf_append,if_pos d]
    .rw[if_neg d,if_neg λz=>d (mm.mp z)]
  obtain⟨B!,w1,w2,w3⟩:=this;refine⟨B!,?_,w2,w3⟩;rw[S6,Yx];have st:xh mask (some (owner,done.length)) (k:Int)=some (owner.setIfInBounds k (some done.length),done.length+1):=by
   show (VA mask owner (WE mask) (Wj (k:Int) % (mask+1)) (Wj (k:Int))).bind _=_;rw[Aw k23,Ss (show k<mask+1 by lia),show WE mask=(mask+14)+1 from rfl,J3 hz (by lia) o1]
   rfl
  rw[st];rw[R8]at w1;exact w1
def bQ(mask:Nat)(ks:AT):AT:=(RS (mask+1)).filter λj=>decide (j∈ks)
theorem yu(h:∀k∈ks,k<mask+1) :j∈bQ mask ks↔j∈ks:=by
 unfold bQ;rw[Sx,RU,decide_eq_true_iff];exact⟨λz=>z.2,λz=>⟨h j z,z⟩⟩
theorem uD(h:∀k∈ks,k<mask+1)(nd:ks.Nodup):(bQ mask ks).Perm ks :=
 (U1 (T6.filter _) nd).mpr λ_=>yu h
theorem lY{α β:Type}{f g:α->Option β}:∀ {l:List α},(∀x∈l,f x=g x)->l.filterMap f=l.filterMap g
 | [],_=>rfl
 | x :: l,h=>by rw[Uk,Uk,h x R4,lY λy hy=>h y (R3 _ hy)]
theorem IJ{finger moves:Nat}{led plain:Bool}(I!:∀k∈ks,k<23)(hm:23<=mask+1)(nd:ks.Nodup) :
  SetTable.laid mask finger moves led plain (ks.map λ(k:Nat)=>(k:Int)).toArray=some ({ mask,place:=(bQ mask ks).toArray,dummies:=#[],finger,led,moves,plain },((bQ mask ks).map λj=>ks.idxOf j).toArray):=by
 obtain⟨owner,h1,h2,h3⟩:=Dx ks [] (Array.replicate (mask+1) none) (by simp) I! hm (by simpa using nd) λj hj=>by
  unfold at?;simp[Ur,hj]
 have lc:Zi mask (ks.map λ(k:Nat)=>(k:Int)).toArray=some owner:=by
  unfold Zi;rw[List.foldl_toArray];have:(ks.map λ(k:Nat)=>(k:Int)).foldl (xh mask) (some (Array.replicate (mask+1) none,0))=some (owner,([]++ks).length):=h1;exact congrArg (Option.map (·.1)) this
 unfold SetTable.laid;rw[lc];have lv:((RS (mask+1)).filterMap λj=>(owner.getD j none).map (j,·))=(bQ mask ks).map λj=>(j,ks.idxOf j):=by
  unfold bQ;rw[<- List.filterMap_eq_map,List.filterMap_filter];refine lY λj hj=>?_;rw[h3 j (RU.mp hj)];unfold at?;simp only[List.nil_append,decide_eq_true_eq]
  by_cases d:j∈ks
  .rw[if_pos d,if_pos d];rfl
  .rw[if_neg d,if_neg d];rfl
 show some _=some _;rw[lv,Ux,Ux]
 congr 2
 simp[Function.comp_def]
structure Good(led:Bool)(es:Z4)(t:Uq)(ks:AT):Prop where
 plain:t.plain=true
 led:t.led=led
 dum:t.dummies=#[]
 size:t.place.size=es.size
 rise:t.place.toList.Pairwise (· < ·)
 keys:es.toList.map (·.1)=ks.map λ(k:Nat)=>(k:Int)
 nd:ks.Nodup
 lt:∀k∈ks,k<23
 st:(t.mask=7/\es.size<=4/\∀j∈t.place.toList,j<8)\/((t.mask=31/\es.size<=18\/t.mask=127)/\t.place.toList=ks)
theorem Good.len{led:Bool}(g:Good led es t ks):es.size=ks.length:=by
 have:=congrArg V4 g.keys;rw[RP,RP,SM]at this;l_out
theorem gZ(nd:ks.Nodup)(h:∀k∈ks,k<23):ks.length<=23:=by
 have e:=(uD (mask:=22) h nd).length_eq;have:(bQ 22 ks).length<=23:=by
  unfold bQ;exact SA (Up _ _) (by simp)
 lia
theorem CU(h:es.toList.map (·.1)=ks.map λ(k:Nat)=>(k:Int))(p k:Nat)(x:Value):(Vm es p ((k:Int),x)).toList.map (·.1)=(ks.take p++k :: ks.drop p).map λ(k:Nat)=>(k:Int):=by
 rw[Vn,SQ,S6,List.map_take,List.map_drop,h,SQ,S6,List.map_take,List.map_drop]
theorem CP(p k:Nat):(ks.take p++k :: ks.drop p).Perm (k :: ks):=by
 have:=Yb (a:=k) (l₁:=ks.take p) (l₂:=ks.drop p);rw[UK]at this;l_out
theorem LK(nd:ks.Nodup):ks.map (λj=>ks.idxOf j)=RS ks.length:=by
 refine Tr λi=>?_;rw[RY];rcases Sb i ks.length with h|h
 .rw[RL h,TU h];show some (ks.idxOf ks[i])=_;rw[nd.idxOf_getElem i h]
 .rw[Sm h,Sm (by rw[Sv];exact h)]
  rfl
theorem uT{led:Bool}{wanted M:Nat}(hp:t.plain=true)(hl:t.led=led)(hk:es.toList.map (·.1)=ks.map λ(k:Nat)=>(k:Int))(nd:ks.Nodup)(lt:∀k∈ks,k<23)
  (hM:SetTable.sizeAbove wanted - 1=M) (h2:M=31/\es.size<=18\/M=127):∃Z! t2 ks2,relayAll t es wanted=(Z!,t2,false)/\Good led Z! t2 ks2/\ks2.Perm ks:=by
 have b!:=gZ nd lt;have m23:23<=M+1:=by lia
 have lt':∀k∈ks,k<M+1:=λk hk=>by have:=lt k hk;lia
 have pm:=uD lt' nd;have el:es.size=ks.length:=by
  have:=congrArg V4 hk;rw[RP,RP,SM]at this;l_out
 have ea:es.map (·.1)=(ks.map λ(k:Nat)=>(k:Int)).toArray:=by
  rw[<- hk];apply WN.mp;simp
 have nk:∀ (i:Nat) (e:Int×Value),es[i]?=some e->∃k,ks[i]?=some k/\e.1=(k:Int):=λi e he=>by
  have:=congrArg (λl=>l[i]?) hk;rw[RY,RY,Tg,he]at this;cases q:ks[i]? with
  | none=>rw[q]at this;cases this
  | some k=>rw[q]at this;exact⟨k,rfl,SI this⟩
 have key:∀ (l:AT),(∀j∈l,j∈ks)->((l.map λj=>ks.idxOf j).filterMap (es[·]?)).map (·.1)=l.map λ(k:Nat)=>(k:Int):=λl=>by
  induction l with
  | nil=>intro _;rfl
  | cons j l ih =>
   intro h;have hj:=h j R4;have il:ks.idxOf j<es.size:=by rw[el];exact SY hj
   have he:=SW il;obtain⟨k,hk1,hk2⟩:=nk _ _ he;have:k=j:=by
    rw[RL (SY hj),VD]at hk1;exact(SI hk1).symm
   subst this;rw[S6,Uk,he];show _ :: _=_ :: _;o_src;rw[hk2,ih λx hx=>h x (R3 _ hx)]
 have k2:=key (bQ M ks) λj hj=>(yu lt').mp hj;have l2:((((bQ M ks).map λj=>ks.idxOf j).toArray).filterMap (es[·]?)).toList=(((bQ M ks).map λj=>ks.idxOf j).filterMap (es[·]?)):=by simp
 have z2:((((bQ M ks).map λj=>ks.idxOf j).toArray).filterMap (es[·]?)).size=(bQ M ks).length:=by
  rw[<- SM,l2];have:=congrArg V4 k2
  rwa[RP,RP]at this
 have c1:coversAll ((bQ M ks).map λj=>ks.idxOf j).toArray es.size=true:=by
  unfold coversAll;rw[List.isPerm_iff,el,<- LK nd];exact pm.map _
 refine⟨(((bQ M ks).map λj=>ks.idxOf j).toArray).filterMap (es[·]?),{ mask:=M,place:=(bQ M ks).toArray,dummies:=#[],finger:=t.finger,led:=t.led,moves:=t.movedTo M,plain:=t.plain },bQ M ks,?_,⟨hp,hl,rfl,?_,?_,?_,?_,?_,?_⟩,pm⟩
 .unfold relayAll SetTable.relaid;rw[hM,ea,IJ lt m23 nd];o_src;rw[c1];have f:WS { mask:=M,place:=(bQ M ks).toArray,dummies:=#[],finger:=t.finger,led:=t.led,moves:=t.movedTo M,plain:=t.plain } ((((bQ M ks).map λj=>ks.idxOf j).toArray).filterMap (es[·]?)).size=true:=by
   unfold WS X5;have:=pm.length_eq;rw[z2];simp;lia
  rw[f];rfl
 .show (bQ M ks).toArray.size=_;rw[z2];simp
 .show (bQ M ks).toArray.toList.Pairwise (· < ·);exact Uv _ TM
 .rw[l2];exact k2
 .exact pm.nodup_iff.mpr nd
 .exact λk hk=>lt k (pm.mem_iff.mp hk)
 .refine .inr ⟨?_,rfl⟩;rw[z2,pm.length_eq,<- el];exact h2
theorem Good.fresh(led:Bool):Good led #[] (.fresh 0 0 led) []:=⟨rfl,rfl,rfl,rfl,XG,rfl,VX,(λk hk=>by cases hk),.inl ⟨rfl,SO _,λj hj=>by cases hj⟩⟩
theorem tO{α:Type}(xs:Array α)(p:Nat)(x:α):(Vm xs p x).size=xs.size+1:=by
 have:=(SetTable.insertAt_perm xs p x).length_eq;rw[SM,SM,Array.size_push]at this;l_out
theorem Good.add{led:Bool}(g:Good led es t ks){k:Nat}(hk:k<23)(hn:k∉ks)(x:Value) :
  ∃n! t1,layNew t es (k:Int) x=(n!,t1,false,false)/\t1.plain=true/\((t1.tooFull=false/\∃ks1,Good led n! t1 ks1/\ks1.Perm (k :: ks))\/(t1.tooFull=true/\∃Z! t2 ks2,relayAll t1 n! (Xy n!.size)=(Z!,t2,false)/\Good led Z! t2 ks2/\ks2.Perm (k :: ks))):=by
 have el:=g.len;have nd1:(k :: ks).Nodup:=SS.mpr ⟨hn,g.nd⟩;have lt1:∀y∈k :: ks,y<23:=λy hy=>by
  rcases Sf.mp hy with rfl|hy
  .exact hk
  .exact g.lt y hy
 have l23:=gZ nd1 lt1;rw[SU]at l23;obtain⟨j,hf,hj,hb⟩:∃j,t.freeSlot (k:Int)=some (j,false)/\j∉t.place.toList/\((t.mask=7/\es.size<=4/\(∀y∈t.place.toList,y<8)/\j<8)\/((t.mask=31/\es.size<=18\/t.mask=127)/\t.place.toList=ks/\j=k)):=by
  rcases g.st with ⟨h1,h2,h3⟩|⟨h1,h2⟩
  .obtain⟨j,a,b,c⟩:=O2 h1 g.dum g.rise h3 (by rw[g.size];exact h2) hk
   exact⟨j,a,c,.inl ⟨h1,h2,h3,b⟩⟩
  .have kp:k∉t.place.toList:=by rw[h2];exact hn
   exact⟨k,Mw (by lia) g.dum g.rise hk kp,kp,.inr ⟨h1,h2,rfl⟩⟩
 have hput:t.put j=({ t with place:=Vm t.place (Tf t.place j) j,dummies:=#[] },Tf t.place j):=by
  unfold SetTable.put;rw[g.dum];rfl
 have rise1:=Jk g.rise hj;have z1:=tO t.place (Tf t.place j) j;have z2:=tO es (Tf t.place j) ((k:Int),x);have keys1:=CU g.keys (Tf t.place j) k x;have pm:=CP (ks:=ks) (Tf t.place j) k;generalize hP:Vm t.place (Tf t.place j) j=pl at hput rise1 z1;generalize hE:Vm es (Tf t.place j) ((k:Int),x)=n! at z2 keys1;have fits:WS { t with place:=pl,dummies:=#[] } n!.size=true:=by
  unfold WS X5;rw[Uj];refine⟨by simp[z1,z2,g.size],decide_eq_true ?_⟩
  show pl.size+0<=t.mask;rw[z1,g.size];lia
 have nd2:=pm.nodup_iff.mpr nd1;have lt2:∀y∈ks.take (Tf t.place j)++k :: ks.drop (Tf t.place j),y<23:=λy hy=>lt1 y (pm.mem_iff.mp hy);refine⟨n!,{ t with place:=pl,dummies:=#[] },?_,g.plain,?_⟩
 .unfold layNew;rw[hf];o_src;rw[hput];o_src;rw[hE];unfold SetTable.orStandIn;rw[fits];rfl
 .have tf:SetTable.tooFull { t with place:=pl,dummies:=#[] }=decide ((es.size+1) * 5 >= t.mask * 3):=by
   unfold SetTable.tooFull X5;show decide ((pl.size+0) * 5 >= t.mask * 3)=_;rw[z1,g.size]
  rw[tf]
  by_cases c:(es.size+1) * 5 >= t.mask * 3
  .refine .inr ⟨decide_eq_true c,?_⟩;rcases hb with ⟨b1,b2,b3,b4⟩|⟨b1,b2,b3⟩
   .have e5:n!.size=5:=by lia
    obtain⟨Z!,t2,ks2,w1,w2,w3⟩:=uT (led:=led) (t:={ t with place:=pl,dummies:=#[] }) (wanted:=Xy n!.size) (M:=31) g.plain g.led keys1 nd2 lt2 (by rw[e5];decide) (.inl ⟨rfl,by lia⟩)
    exact⟨Z!,t2,ks2,w1,w2,w3.trans pm⟩
   .rcases b1 with ⟨b1,b4⟩|b1
    .have e5:n!.size=19:=by lia
     obtain⟨Z!,t2,ks2,w1,w2,w3⟩:=uT (led:=led) (t:={ t with place:=pl,dummies:=#[] }) (wanted:=Xy n!.size) (M:=127) g.plain g.led keys1 nd2 lt2 (by rw[e5];decide) (.inr rfl)
     exact⟨Z!,t2,ks2,w1,w2,w3.trans pm⟩
    .lia
  .refine .inl ⟨decide_eq_false c,_,⟨g.plain,g.led,rfl,?_,rise1,keys1,nd2,lt2,?_⟩,pm⟩
   .show pl.size=_;rw[z1,z2,g.size]
   .rcases hb with ⟨b1,b2,b3,b4⟩|⟨b1,b2,b3⟩
    .refine .inl ⟨b1,by lia,λy hy=>?_⟩
     rw[<- hP,Vn]at hy;have W!:y∈t.place.toList\/y=j:=by
      rcases R5.mp hy with z|z
      .exact .inl (VU z)
      .rcases Sf.mp z with z|z
       .exact .inr z
       .exact .inl (WO z)
     rcases W! with z|rfl
     .exact b3 y z
     .exact b4
    .refine .inr ⟨?_,?_⟩
     .show t.mask=31/\n!.size<=18\/t.mask=127;rcases b1 with ⟨b1,b4⟩|b1
      .exact .inl ⟨b1,by lia⟩
      .exact .inr b1
     .show pl.toList=_;rw[<- hP,Vn,b2,b3]
end L2
namespace L2
open PySem PySem.Spec PyProof.Rows
variable {C a f it:Addr}{es es':Z4}{items:ZO}{g:Array WC}{G:Array WC->Array WC->Prop}{led:Bool}{X:Cx}{d:Drawn}{h h':Heap}{H:Hp}{e:Int×Value}{dh:Z0}{fs:List (Str×V)}{fp:ZL}{ifs:Z9}{fr ks l ns:AT}{own ps:ZN}{ep i k n:Nat}{P:Nat->Value->Prop}{di:ZR}{os:OsState}{pos:Pos}{K:RM}{s:RV}{A:S7}{scope:Scope}{prog:Sj}{sp:Sp}{st:Stmt}{name y:Str}{mA mg:Z6}{te:TE}{wi:TI}{tt:TT}{t:Uq}{v:Value}{E Q:Value->RV->Prop}{w:World}{R:Ys->RV->Prop}
def aY(w:World):Bool:=w.params.followText "set-order"
theorem BH(h:k<23):hashInt (k:Int)=(k:Int):=by
 have:∀i:_root_.Fin 23,hashInt ((i.val:Nat):Int)=((i.val:Nat):Int):=by trivial
 exact this ⟨k,h⟩
def Nums(es:Z4):Prop:=∀e∈es.toList,∃ (k:Nat) (tk:Tok),k<23/\e=((k:Int),U5 (k:Int) tk)
theorem Nums.elems(h:Nums es):ElemsOf (intKind prog w) es.toList:=λe he=>by
 obtain⟨k,tk,hk,rfl⟩:=h e he;exact⟨⟨(k:Int),YU _ _ _ _,(BH hk).symm⟩,rfl⟩
theorem Nums.perm(h:Nums es)(p:es'.toList.Perm es.toList):Nums es':=λe he=>h e (p.mem_iff.mp he)
theorem Good.fits(g:Good led es t ks):t.fits es.size=true:=by
 unfold WS X5;have l:=g.len;have n:=gZ g.nd g.lt;have z:=g.size;rw[g.dum,Uj];refine⟨by simp[z],decide_eq_true ?_⟩
 show t.place.size+0<=t.mask;rcases g.st with ⟨h1,h2,_⟩|⟨h1,_⟩ <;> lia
def eW(h:Heap)(a:Addr)(led:Bool)(ks:AT):Prop:=∃o es ep t,h.get? a=some o/\o.ExactSet/\o.data=.set es ep t/\Nums es/\Good led es t ks
section
theorem J1{tk:Tok}{Q:Bool->RV->Prop}(hk:k<23)(hS:eW s.heap a led ks)
  (h:∀b h' ks',VF a s.heap h'->eW h' a led ks'->(∀x,x∈ks'↔x∈ks\/x=k)->Q b { s with heap:=h' }) :
  wpAny (model prog w) A (setAddHashed a (.int k tk) (hashInt (k:Int))) Q E s:=by
 obtain⟨o,es,ep,t,ho,hex,hd,hnum,g⟩:=hS;have l:=g.len;have n:=gZ g.nd g.lt;have hb:es.size<scanBound:=by show es.size<4096;lia
 have hel:=hnum.elems (prog:=prog) (w:=w);have hmem:∀j,j∈ks↔∃e∈es.toList,(intKind prog w).is (j:Int) e.2=true:=λj=>by
  have kk:=g.keys;constructor
  .intro hj;have:(j:Int)∈es.toList.map (·.1):=by rw[kk];exact R9.mpr ⟨j,hj,rfl⟩
   obtain⟨e,he,e1⟩:=R9.mp this;obtain⟨k',tk',_,rfl⟩:=hnum e he;refine⟨_,he,?_⟩;dsimp only at e1 ⊢;rw[e1];exact YU _ _ _ _
  .rintro⟨e,he,q⟩;obtain⟨k',tk',_,rfl⟩:=hnum e he;have e2:(j:Int)=(k':Int):=(intKind prog w).inj _ _ _ q (YU _ _ _ _);have:(j:Int)∈ks.map λ(k:Nat)=>(k:Int):=by rw[<- kk,e2];exact R9.mpr ⟨_,he,rfl⟩
   obtain⟨j',Q!,e3⟩:=R9.mp this;have:j'=j:=by lia
   exact this ▸ Q!
 unfold setAddHashed setAddHashedIn;refine S2 (RO (Vo ho hd g.fits ?_));o_src;rw[byScan_of rfl hb hel,if_pos rfl];unfold setAddByScan;refine RO (RO (YR (RO (wpAny_setScan_of (knd:=intKind prog w) (YU _ _ _ _) ho hd g.fits hel ?_))));cases hr:List.findIdx? (λe=>(intKind prog w).is (k:Int) e.2) es.toList with
 | some j =>
  obtain⟨hj,q,_⟩:=List.findIdx?_eq_some_iff_getElem.mp hr;have L!:k∈ks:=(hmem k).mpr ⟨_,S3 hj,q⟩;o_src;refine R1 (R1 ?_);exact h false s.heap ks (Heap.SameBut.refl a s.heap) ⟨o,es,ep,t,ho,hex,hd,hnum,g⟩ λx=>⟨.inl,λz=>z.elim id λz=>z ▸ L!⟩
 | none =>
  have hn:k∉ks:=λz=>by
   obtain⟨e,he,q⟩:=(hmem k).mp z;have:=List.findIdx?_eq_none_iff.mp hr e he;rw[q]at this;cases this
  o_src;have lp:=layNew_perm t es (k:Int) (.int k tk);obtain⟨n!,t1,hl,k!,alt⟩:=g.add hk hn (.int k tk);rw[BH hk,hl];rw[hl,Array.toList_push]at lp;dsimp only at lp;have num1:Nums n!:=λe he=>by
   rcases R5.mp (lp.mem_iff.mp he) with z|z
   .exact hnum e z
   .exact⟨k,tk,hk,RX.mp z⟩
  o_src;refine RO (R1 ?_);rw[k!,if_pos rfl];refine RO ?_;rw[hashByValue_scannable 8 rfl];refine R1 ?_;rw[if_pos (show plainKind (U5 (k:Int) tk)=true from rfl)];have s1:n!.size<scanBound:=by
   have:=lp.length_eq;rw[SM,R8,SM,U6]at this;show n!.size<4096;lia
  have o1:(s.heap.update a (XO n! t1)).get? a=some { o with data:=.set n! (ep+1) t1 }:=by
   have:=T3 (XO n! t1) ho (by rw[ZA n! t1 hd];rfl)
   rw[ZA n! t1 hd]at this;l_out
  have b1:=UY s.heap a (XO n! t1);have mm:∀ {ks':AT},ks'.Perm (k :: ks)->∀x,x∈ks'↔x∈ks\/x=k:=λp x=>by rw[p.mem_iff,Sf];exact Or.comm
  refine RO (wpAny_storeSet_of ho hd ?_ (fits_of_scanBound s1));rcases alt with ⟨tf,ks1,g1,p1⟩|⟨tf,Z!,t2,ks2,hrl,g2,p2⟩
  .rw[tf];refine R1 (R1 ?_);exact h true _ ks1 b1 ⟨_,n!,ep+1,t1,o1,hex,rfl,num1,g1⟩ (mm p1)
  .have rp:=relayAll_perm t1 n! (Xy n!.size);rw[tf,hrl];rw[hrl]at rp;dsimp only at rp;have s2:Z!.size<scanBound:=by
    have:=rp.length_eq;rw[SM,SM]at this;show Z!.size<4096;have:n!.size<4096:=s1;lia
   refine RO (R1 (RO (wpAny_storeSet_of o1 rfl ?_ (fits_of_scanBound s2))));have o2:((s.heap.update a (XO n! t1)).update a (XO Z! t2)).get? a=some { o with data:=.set Z! (ep+1+1) t2 }:=by
    have:=T3 (XO Z! t2) o1 (by rw[ZA Z! t2 rfl];rfl)
    rw[ZA Z! t2 rfl]at this;l_out
   refine R1 (R1 ?_);exact h true _ ks2 (b1.trans (UY _ a _)) ⟨_,Z!,ep+1+1,t2,o2,hex,rfl,num1.perm rp,g2⟩ (mm p2)
theorem GO{I:Addr}{wr:ZL}{St:Nat->RV->Prop}(W:WalksS prog w A.in1 I fp wr G n P St)(a:Addr)(ha:a∉fp) 
  (val:Nat->Nat) (hval:∀i v,P i v->∃t,v=.int (val i:Int) t) (I!:∀i,i<n->val i<23) :
  ∀ (k i:Nat) (s:RV) (ks:AT),n - i=k->i<=n->St i s->eW s.heap a led ks->(∀x,x∈ks↔∃j,j<i/\val j=x) ->
   (∀s' ks',Moved (a :: wr) G s s'->eW s'.heap a led ks'->(∀x,x∈ks'↔∃j,j<n/\val j=x)->R (.ok (.ret .none)) s') ->
   codeAny (model prog w) A (.builtin "set.update.loop" ⟨[.ref a,.ref I],[]⟩) R s:=by
 have haw:a∉wr:=λz=>ha (W.sub _ z);have up:∀b∈wr,b∈a :: wr:=λb hb=>R3 _ hb;have keepS:∀ {s s':RV} {ks:AT},Moved wr G s s'->eW s.heap a led ks->eW s'.heap a led ks:=λhm ⟨o,es,ep,t,ho,r⟩=>⟨o,es,ep,t,hm.heap a _ haw ho,r⟩;intro k
 induction k with
 | zero =>
  intro i s ks hk hi X' hS hm hR;have e:i=n:=by lia
  subst e;refine TF X6 ?_;rw[S9 Wk _];show wpAny _ A.in1 (pyNext (.ref I) >>= _) _ _ s;refine RO (W.done s _ _ X' λs' mv=>?_);exact R1 (hR s' ks (mv.mono up) (keepS mv hS) hm)
 | succ k ih =>
  intro i s ks hk hi X' hS hm hR;have il:i<n:=by lia
  refine TF X6 ?_;rw[S9 Wk _];show wpAny _ A.in1 (pyNext (.ref I) >>= _) _ _ s;refine RO (W.item i s _ _ il X' λv s' hP hst' mv=>?_);obtain⟨tk,rfl⟩:=hval i v hP;show wpAny _ A.in1 (holding [U5 (val i:Int) tk] (setAdd a (.int (val i:Int) tk)) >>= _) _ _ s';refine RO (S2 ?_);unfold setAdd;refine S2 (RO ((intKind prog w).pyHash (k:=(val i:Int)) (YU _ _ _ _) ?_));refine J1 (s:={ s' with toks:=s'.toks+1 }) (I! i il) (show eW s'.heap a led ks from keepS mv hS) λb h' ks' sb j! hm'=>?_;refine R1 ⟨Uc Wk _,ih (i+1) _ ks' (by lia) il (W.frame _ s' _ _ hst' (T2 _) λb hb o e=>?_) j! (λx=>?_) λs'' ks'' mv' hS'' hm''=>?_⟩
  .rw[sb.2 b (λz=>ha (z ▸ hb))];exact e
  .rw[hm' x,hm x];constructor
   .rintro (⟨j,hj,e⟩|rfl)
    .exact⟨j,by lia,e⟩
    .exact⟨i,by lia,rfl⟩
   .rintro⟨j,hj,e⟩;rcases Sb j i with z|z
    .exact .inl ⟨j,z,e⟩
    .have:j=i:=by lia
     exact .inr (by rw[<- e,this])
  .refine hR s'' ks'' (Moved.trans W.gtrans ((mv.mono up).then_heap (T2 _) λb o hb e=>?_) mv') hS'' hm'';rw[sb.2 b (λz=>hb (z ▸ R4))];exact e
abbrev kG(w:World):Obj:={ cls:=.type "set",dict:=none,data:=.set #[] 0 (.fresh 0 0 (!aY w)) }
theorem Hd(x:Value)(h:Q (.ref s.heap.objs.size) { s with heap:=s.heap.push (kG w) }) :
  codeAny (model prog w) A (.call (.builtin "set.__new__") ⟨[.type "set",x],[]⟩) (wants Q E) s:=by
 refine codeAny_of_tree ?_;show wpAny _ A.in1 (do checkBuiltinCall "set.__new__" ⟨[.type "set",x],[]⟩;again (.builtin "set.__new__" ⟨[.type "set",x],[]⟩)) _ _ s;refine RO (ZC (F.newCall_set_1 x) (R1 ⟨Uc F.plain_set_new _,TF F.entry_set_new ?_⟩));rw[S9 F.plain_set_new _];unfold Vb.«set.__new__» Builtin.Frozenset.newClass;have hsub:=sub_set_self;obtain⟨hp,g,d,tk,os⟩:=s;o_src
 wp_walk
 refine Yc (R1 ?_);o_src;simp only[newObj];refine RO (wpAny_alloc (R1 ?_));exact R1 h
set_option maxHeartbeats 3200000 in
theorem FQ{l:Addr}(hh:A.handled=none)(hl:s.heap.IsList l items)(hi:WK items.toList (ns.map λ(n:Nat)=>(n:Int)))(I!:∀x∈ns,x<23)
  (h:∀ (h':Heap) (tk:Nat) (ks:AT),eW h' s.heap.objs.size (!aY w) ks->(∀x,x∈ks↔x∈ns)->(∀b o,b<s.heap.objs.size->s.heap.get? b=some o->h'.get? b=some o)->Q (.ref s.heap.objs.size) { s with heap:=h',toks:=tk }) :
  wpAny (model prog w) A (call (.type "set") [.ref l]) Q E s:=by
 have hz:items.size=ns.length:=by
  have:=hi.length;rw[SM,RP]at this;l_out
 obtain⟨c,tl,hmro⟩:=VP.mro;have hmade:=VP.made;have hsub:=VP.sub;refine wpAny_call (codeAny_of_tree ?_);show wpAny _ _ (callAny (.type "set") _) _ _ _;refine R1 ⟨Code.quiet_builtin _ (by trivial),TF F.entry_type_call ?_⟩
 rw[Around.under_plain (weight_type_call_type "set" [.ref l] []) rfl];have h1:=VP.notType;have h2:=VP.canCreate;have hct:=F.typeCall_set_1 (.ref l)
 repeat (any_goals (first|assumption|wp_step))
 refine WH (Hd (.ref l) (E:=E) (Q:=λobj s₁=>obj=.ref s.heap.objs.size/\s₁={ s with heap:=s.heap.push (kG w) }) ⟨rfl,rfl⟩) λr s₁ hr=>?_;cases r with
 | error e=>exact hr
 | ok fl =>
  cases fl with
  | next=>exact hr.elim
  | brk=>exact hr.elim
  | cont=>exact hr.elim
  | ret obj =>
   obtain⟨rfl,rfl⟩:=hr;have hS:(s.heap.push (kG w)).get? s.heap.objs.size=some (kG w):=Si _ rfl;have hT:Zd { s with heap:=s.heap.push (kG w) } (.ref s.heap.objs.size) "set":=⟨_,hS,rfl⟩;have hli:=VP.init.lookup;have hbi:=VP.init.bind (.ref s.heap.objs.size)
   repeat (any_goals (first|assumption|wp_step))
   refine WH (codeAny_call_builtin (R:=wants (λr s₂=>r=.none/\∃h' tk ks,s₂={ s with heap:=h',toks:=tk }/\eW h' s.heap.objs.size (!aY w) ks/\(∀x,x∈ks↔x∈ns)/\∀b o,b<s.heap.objs.size->s.heap.get? b=some o->h'.get? b=some o) E) VP.init.plain F.entry_set_init (check_set_init_1 hT ?_)) λr₂ s₂ hr₂=>?_
   .have hlS:l<s.heap.objs.size:=by obtain⟨_,ho,_⟩:=hl;exact R7 ho
    have hl1:(s.heap.push (kG w)).IsList l items:=hl.push _;obtain⟨⟨lc,ld,ldt,lsl⟩,hol,hcl,nl,hdl⟩:=id hl1;simp only at hcl hdl;subst hcl;subst hdl;have hsls:=F.sub_list_set;have hslf:=F.sub_list_frozenset;have B':(Zg "list" == Zg "dict")=false:=by decide
    unfold Vb.«set.__init__» noKeywords Builtin.Frozenset.updateFrom;generalize hPI:pyIter=PI
    wp_walk
    subst hPI;refine Ve hl1 (RO (Y2 ?_));have hh3:A.in1.in1.in1.handled=none:=by simp[hh]
    have z1:(s.heap.push (kG w)).objs.size=s.heap.objs.size+1:=TY ..;have hval:∀ (i:Nat) (v:Value),items[i]?=some v->∃t,v=.int ((ns.getD i 0:Nat):Int) t:=λi v hv=>by
     obtain⟨t,e⟩:=IntsAre.int_at hi i v (by rw[Tg];exact hv)
     refine⟨t,?_⟩;rw[e,RT,RT,RY];cases ns[i]? <;> rfl
    refine GO (led:=!aY w) ((YT hh3 _ l (by rw[z1];exact Sa (Td hlS)) items).toS) s.heap.objs.size (by rw[z1];simp only[Sf,T7,or_false,not_or];exact⟨Sa (Ui _),UI hlS⟩) (λi=>ns.getD i 0) hval (λi hil=>?_) (items.size - 0) 0 _ [] (by lia) (SO _)
     ⟨⟨_,Si _ rfl,rfl,rfl⟩,(hl1.push _)⟩ ?hS0 (λx=>?_) ?hR
    .have:i<ns.length:=by lia
     rw[RT,RL this];exact I! _ (S3 this)
    case hS0=>exact⟨kG w,#[],0,.fresh 0 0 (!aY w),RW _ hS,⟨rfl,rfl,rfl⟩,rfl,(λe he=>by cases he),Good.fresh _⟩
    .exact⟨(λz=>by cases z),λ⟨j,hj,_⟩=>absurd hj (Vl _)⟩
    case hR =>
     intro s' ks mv j! hm;obtain⟨h',g',d',tk',os'⟩:=s';have eg:g'=s.gens:=mv.gens;have ed:d'=s.drawn:=mv.drawn;have eo:os'=s.os:=mv.os;subst eg;subst ed;subst eo;refine R1 (R1 ⟨rfl,h',tk',ks,rfl,j!,λx=>?_,λb o hb e=>?_⟩)
     .rw[hm x,hz];constructor
      .rintro⟨j,hj,e⟩;rw[RT,RL hj]at e;rw[<- show ns[j]=x from e];exact S3 hj
      .intro hx;obtain⟨j,hj,e⟩:=WY hx;exact⟨j,hj,by rw[RT,RL hj];exact e⟩
     .exact mv.heap b o (by rw[z1];simp only[Sf,T7,or_false,not_or];exact⟨Sa hb,Sa (Td hb)⟩) (RW _ (RW _ e))
   .cases r₂ with
    | error e=>exact hr₂
    | ok fl₂ =>
     cases fl₂ with
     | next=>exact hr₂.elim
     | brk=>exact hr₂.elim
     | cont=>exact hr₂.elim
     | ret r =>
      obtain⟨rfl,h',tk,ks,rfl,j!,hm,g!⟩:=hr₂
      repeat (any_goals (first|assumption|wp_step))
      exact h _ _ ks j! hm g!
end
theorem AQ:entryFor table "set.__iter__" = some Vb.«frozenset.__iter__»:=Y0 (id':="frozenset.__iter__") (by kernel_rfl) rfl (by trivial) (by kernel_rfl)
theorem jD:Slot "set_iterator" "__next__" "set_iterator.__next__" :=
 .of (owner:="set_iterator") (n:="__next__") (by rw[W2,VN];kernel_rfl) (by trivial) (by trivial) (by trivial)
  (by first|exact .inl (by trivial)|exact .inr (by trivial)) (by rw[YZ];kernel_rfl)
theorem xY:entryFor table "set_iterator.__next__" = some Vb.«set_iterator.__next__»:=entryFor_of_tree (by kernel_rfl)
theorem xT:Manifest.owners.lookup (String.ofList ['r','o','t','a','r','e','t','i','_','t','e','s'].reverse)=some Manifest.sig_set_iterator:=by kernel_rfl
theorem yj(a:Value):argsOk "set_iterator.__next__" ⟨[a],[]⟩:=by
 unfold argsOk;rw[signature?_of (id:="set_iterator.__next__") (n:=['_','_','t','x','e','n','_','_']) (o:=['r','o','t','a','r','e','t','i','_','t','e','s']) (by kernel_rfl) xT];kernel_rfl
def cy(h:Heap)(it a:Addr)(slot i n ep:Nat):Prop:=h.get? it=some { cls:=.type "set_iterator",dict:=none,data:=.fields #[.int slot 0,.int i 0,.ref a,.int n 0,.int ep 0],slots:=#[] }
theorem EF{α:Type}{l:List α}(h:i<l.length):(l[i] :: l.eraseIdx i).Perm l:=by
 have e:l=l.take i++l[i] :: l.drop (i+1):=by rw[List.getElem_cons_drop,UK]
 rw[List.eraseIdx_eq_take_drop_succ];exact Yb.symm.trans (List.Perm.of_eq e.symm)
theorem DC{α:Type}(next:Nat->Nat):∀ (fuel k:Nat) (left:List α) (out:Array α),fuel=left.length->(Zu next fuel k left out).toList.Perm (out.toList++left)
 | 0,k,left,out,h=>by
  have:left=[]:=Ud.mp h.symm;subst this;unfold Zu;simp
 | fuel+1,k,left,out,h=>by
  unfold Zu;have hl:next k % left.length<left.length:=Sy _ (by lia)
  rw[RL hl];o_src;refine(DC next fuel (k+1) _ _ (by rw[List.length_eraseIdx,if_pos hl];lia)).trans ?_
  rw[Array.toList_push,Vf];exact List.Perm.append_left _ (EF hl)
theorem HR{α:Type}(next:Nat->Nat)(xs:Array α):(pickOrder next xs).toList.Perm xs.toList:=by
 have:=DC next xs.size 0 xs.toList #[] (by simp)
 simpa[pickOrder] using this
def jr(h:Heap)(a:Addr)(es:Z4)(ep:Nat)(t:Uq):Prop:=∃o,h.get? a=some o/\o.ExactSet/\o.data=.set es ep t
def dN(w:World)(a:Addr)(es:Z4)(ep:Nat):Z4:=if aY w=true then pickOrder (w.params.setOrder a ep) es else es
theorem xS :(dN w a es ep).toList.Perm es.toList:=by
 unfold dN
 split
 .exact HR _ _
 .exact List.Perm.refl _
theorem mY :(dN w a es ep).size=es.size:=by
 have:=(xS (w:=w) (a:=a) (es:=es) (ep:=ep)).length_eq
 rwa[SM,SM]at this
def slotAt(t:Uq)(i:Nat):Nat:=if i=0 then 0 else t.place.getD (i - 1) 0+1
theorem below_at(g:Good led es t ks)(hi:i<=es.size):Tf t.place (slotAt t i)=i:=by
 obtain⟨h1,h2,h3⟩:=vc g.rise (slotAt t i);have z:=g.size;have gd:∀k,k<t.place.size->t.place[k]?=some (t.place.getD k 0):=λk hk=>by
  rw[SW hk,Ur,SW hk];rfl
 have mono:∀ (a b:Nat),a<b->b<t.place.size->t.place.getD a 0<t.place.getD b 0:=λa b hab hb=>by
  have ha:=gd a (by lia)
  have A':=gd b hb;rw[<- Tg]at ha A';obtain⟨x1,x2⟩:=RN.mp ha;obtain⟨y1,y2⟩:=RN.mp A';rw[<- x2,<- y2];exact SX.mp g.rise a b x1 y1 hab
 rcases TN (Tf t.place (slotAt t i)) i with c|c|c
 .have q:=h3 (i - 1) _ (by lia) (gd (i - 1) (by lia))
  unfold slotAt at q;rw[if_neg (by lia)]at q
  lia
 .exact c
 .have q:=h2 i _ c (gd i (by lia))
  unfold slotAt at q
  split at q
  .lia
  .have:=mono (i - 1) i (by lia) (by lia)
   lia
theorem cy.typeIs{slot:Nat}(x:cy s.heap it a slot i n ep):s.TypeIs (.ref it) "set_iterator":=⟨_,x,rfl⟩
theorem ux{Q:Bool->RV->Prop}(h:Q (aY w) s):wpAny (model prog w) A setsByText Q E s:=by
 unfold setsByText;exact RO (Yc (R1 h))
theorem Fp{Q:Array (Int×Value)->RV->Prop}(g:Good (!aY w) es t ks)(hS:jr s.heap a es ep t)(ht:aY w=true)(hQ:Q (dN w a es ep) s):wpAny (model prog w) A (setWalk a) Q E s:=by
 walk_at "127";unfold setWalk;refine RO (Vo hos hds g.fits ?_);o_src;refine RO (ux ?_);rw[if_pos ht];refine RO (Yc (R1 ?_));unfold dN at hQ;rw[if_pos ht]at hQ;exact hQ
theorem xu{sl:Nat}{Q:Option (Value×Nat)->RV->Prop}(g:Good (!aY w) es t ks)(hS:jr s.heap a es ep t)(hi:i<=es.size)(hsl:aY w=false->sl=slotAt t i)
  (hQ:Q ((dN w a es ep)[i]?.map λe=>(e.2,if aY w=true then sl else slotAt t (i+1))) s):wpAny (model prog w) A (setNext a sl i ep) Q E s:=by
 walk_at "127";unfold setNext;refine RO (Vo hos hds g.fits ?_);o_src;refine RO (ux ?_);cases ht:aY w with
 | true =>
  rw[if_pos rfl,if_neg (by simp)]
  refine RO (Fp g hS ht (R1 ?_));rw[ht]at hQ
  simpa using hQ
 | false =>
  rw[if_neg So]
  split
  .rename_i hdr
   have:(!t.plain && decide (es.size > 1))=true:=hdr;rw[g.plain]at this;cases this
  refine RO ?_;have hled:t.led=true:=by rw[g.led,ht];rfl
  show wpAny _ _ (if (!t.led && !es.isEmpty)=true then unsupported "set:maker-not-led" else pure ()) _ _ _;rw[if_neg (by rw[hled];exact So)]
  refine R1 (R1 ?_);rw[hsl ht,below_at g hi];rw[ht]at hQ;unfold dN at hQ;rw[ht,if_neg So,if_neg So]at hQ;rcases Sb i es.size with c|c
  .have pl:i<t.place.size:=by rw[g.size];exact c
   rw[SW c]at hQ ⊢;rw[SW pl];have e1:slotAt t (i+1)=t.place[i]+1:=by
    unfold slotAt;rw[if_neg (by lia),Nat.add_sub_cancel,Ur,SW pl]
    rfl
   rw[e1]at hQ;exact hQ
  .rw[UC c]at hQ ⊢;exact hQ
theorem F0{Q:Option Value->RV->Prop}(g:Good (!aY w) es t ks)(B':a≠it)(hit:cy s.heap it a (slotAt t i) i es.size ep\/(aY w=true/\∃sl,cy s.heap it a sl i es.size ep))(hS:jr s.heap a es ep t)(he:(dN w a es ep)[i]?=some e)
  (hQ:∀h',(cy h' it a (slotAt t (i+1)) (i+1) es.size ep\/(aY w=true/\∃sl,cy h' it a sl (i+1) es.size ep))->VF it s.heap h'->Q (some e.2) { s with heap:=h' }) :
  wpAny (model prog w) A (pyNext (.ref it)) Q E s:=by
 obtain⟨sl,O!,hsl⟩:∃sl,cy s.heap it a sl i es.size ep/\(aY w=false->sl=slotAt t i):=by
  rcases hit with z|⟨z,sl,z'⟩
  .exact⟨_,z,λ_=>rfl⟩
  .exact⟨sl,z',λc=>by rw[z]at c;cases c⟩
 have ho:=O!;unfold cy at ho;walk_at "127";unfold pyNext;refine RO (WR (Vv (name:=V7 "__next__") O!.typeIs jD (Uy jD O!.typeIs xY ?_ (yj _))));show wpAny _ _ (fieldsOf (.ref it) >>= _) _ _ s;refine RO (wpAny_fieldsOf ho rfl ?_);o_src;refine RO (RO (Vo hos hds g.fits (R1 ?_)));o_src;rw[if_neg (by simp)]
 have hi:i<es.size:=by
  have:=(Xg.mp he).1
  rwa[mY]at this
 rw[TZ,TZ,TZ];refine RO (xu g hS (Uw hi) hsl ?_);rw[he];show wpAny _ _ (setField (SR it) 0 _ >>= _) _ _ _;refine RO (Wi ho (by show 0<5;decide) λh1 e1 b1=>?_)
 refine RO (Wi (s:={ s with heap:=h1 }) e1 (by show 1<5;decide) λh2 e2 b2=>?_)
 refine R1 ⟨_,rfl,R1 (hQ h2 ?_ (b1.trans b2))⟩;cases ht:aY w with
 | true =>
  refine .inr ⟨rfl,sl,?_⟩;rw[ht]at e2;exact e2
 | false =>
  rw[ht]at e2;exact .inl e2
theorem Gh{Q:Option Value->RV->Prop}(hh:A.handled=none)(g:Good (!aY w) es t ks)(hit:cy s.heap it a (slotAt t es.size) es.size es.size ep\/(aY w=true/\∃sl,cy s.heap it a sl es.size es.size ep))(hS:jr s.heap a es ep t)
  (hQ:∀h',Heap.ExtBut it s.heap h'->Q none { s with heap:=h' }):wpAny (model prog w) A (pyNext (.ref it)) Q E s:=by
 obtain⟨sl,O!,hsl⟩:∃sl,cy s.heap it a sl es.size es.size ep/\(aY w=false->sl=slotAt t es.size):=by
  rcases hit with z|⟨z,sl,z'⟩
  .exact⟨_,z,λ_=>rfl⟩
  .exact⟨sl,z',λc=>by rw[z]at c;cases c⟩
 have ho:=O!;unfold cy at ho;walk_at "127";unfold pyNext;refine RO (WR (Vv (name:=V7 "__next__") O!.typeIs jD (Uy jD O!.typeIs xY ?_ (yj _))));show wpAny _ _ (fieldsOf (.ref it) >>= _) _ _ s;refine RO (wpAny_fieldsOf ho rfl ?_);o_src;refine RO (RO (Vo hos hds g.fits (R1 ?_)));o_src;rw[if_neg (by simp)]
 rw[TZ,TZ,TZ];refine RO (xu g hS (R6 _) hsl ?_);rw[UC (by rw[mY];exact R6 _)]
 show wpAny _ _ (setField (SR it) 2 _ >>= _) _ _ _;refine RO (Wi ho (by show 2<5;decide) λh1 e1 b1=>?_)
 refine RO ?_;simp only[newExc,newTuple];refine RO (UE ?_ (by size_fits))
 refine RO (m:=firstArgMember _ _) (ZC (a:=Tq) (by first|rfl|(simp only[firstArgMember];rfl)) ?_)
 refine UE ?_ (by size_fits)
 simp only[raiseNew];refine RO (wpAny_handled ?_);rw[show A.in1.handled=none from hh];refine RO (R1 (wpAny_throw ?_));refine RO (WM (T:="StopIteration") (b:=true) ⟨_,Si _ rfl,rfl⟩ isSubtype_stop ?_);exact R1 (hQ _ ((b1.extBut.push _).push _))
theorem vf:Slot "set_iterator" "__iter__" "set_iterator.__iter__" :=
 .of (owner:="set_iterator") (n:="__iter__") (by rw[W2,VN];kernel_rfl) (by trivial) (by trivial) (by trivial)
  (by first|exact .inl (by trivial)|exact .inr (by trivial)) (by rw[YZ];kernel_rfl)
theorem CA:entryFor table "set_iterator.__iter__" = some Vb.«dict_keyiterator.__iter__»:=Y0 (id':="dict_keyiterator.__iter__") (by kernel_rfl) rfl (by trivial) (by kernel_rfl)
theorem CO(a:Value):argsOk "set_iterator.__iter__" ⟨[a],[]⟩:=by
 unfold argsOk;rw[signature?_of (id:="set_iterator.__iter__") (n:=['_','_','r','e','t','i','_','_']) (o:=['r','o','t','a','r','e','t','i','_','t','e','s']) (by kernel_rfl) xT];kernel_rfl
def o9(w:World)(h:Heap)(it a:Addr)(t:Uq)(i n ep:Nat):Prop:=cy h it a (slotAt t i) i n ep\/(aY w=true/\∃sl,cy h it a sl i n ep)
theorem o9.typeIs(x:o9 w s.heap it a t i n ep):s.TypeIs (.ref it) "set_iterator":=by
 rcases x with z|⟨_,sl,z⟩ <;> exact⟨_,z,rfl⟩
theorem o9.keep(x:o9 w h it a t i n ep)(k:∀o,h.get? it=some o->h'.get? it=some o):o9 w h' it a t i n ep:=by
 rcases x with z|⟨c,sl,z⟩
 .exact .inl (k _ z)
 .exact .inr ⟨c,sl,k _ z⟩
theorem jr.keep(x:jr h a es ep t)(k:∀o,h.get? a=some o->h'.get? a=some o):jr h' a es ep t:=let ⟨o,ho,r⟩:=x;⟨o,k _ ho,r⟩
theorem He(hh:A.handled=none)(I a:Addr)(B':a≠I)(g:Good (!aY w) es t ks) :
  Walks prog w A I [I,a] [I] es.size (λi v=>∃e,(dN w a es ep)[i]?=some e/\v=e.2) (λi h=>o9 w h I a t i es.size ep/\jr h a es ep t) where
 sub:=λb hb=>by simp at hb;simp[hb]
 frame:=λi h h' st hk=>⟨st.1.keep λo e=>hk I (by simp) o e,st.2.keep λo e=>hk a (by simp) o e⟩
 item:=λi s Q E hi st hQ=>by
  have hl:i<(dN w a es ep).size:=by rw[mY];exact hi
  refine F0 g B' st.1 st.2 (SW hl) λh' it' sb=>?_;exact hQ _ h' s.toks ⟨_,SW hl,rfl⟩ ⟨it',st.2.keep λo e=>(sb.2 a B').trans e⟩ λb o hb e=>(sb.2 b (λz=>hb (by simp[z]))).trans e
 done:=λs Q E st hQ=>Gh hh g st.1 st.2 λh' he=>hQ h' s.toks λb o hb e=>he b o (λz=>hb (by simp[z])) e
 self:=λi s Q E st hQ=>by
  refine wpAny_pyIter_slot st.1.typeIs vf (Uy vf st.1.typeIs CA ?_ (CO _));show wpAny _ _ (ret (.ref I)) _ _ s;exact R1 ⟨_,rfl,"set_iterator",_,st.1.typeIs,jD.lookup,hQ⟩
theorem EY(g:Good (!aY w) es t ks)(hS:jr s.heap a es ep t)
  (hQ:∀h',o9 w h' s.heap.objs.size a t 0 es.size ep->(∀b o,s.heap.get? b=some o->h'.get? b=some o)->h'.objs.size=s.heap.objs.size+1->Q (.ref s.heap.objs.size) { s with heap:=h' }) :
  wpAny (model prog w) A (pyIter (.ref a)) Q E s:=by
 walk_at "127";have hT:s.TypeIs (.ref a) "set":=⟨os,hos,hex.1⟩;refine wpAny_pyIter_slot hT F.slot_set_iter (Uy F.slot_set_iter hT AQ ?_ (F.args_set_iter_1 _));unfold Vb.«frozenset.__iter__» Builtin.Frozenset.slot0 slotArgs;simp only[List.isEmpty_nil,Bool.not_true,S5,↓reduceIte,bind_assoc,Wf,bne_self_eq_false];unfold Builtin.Frozenset.addrOf Builtin.Frozenset.sizeOf setDrawn;refine RO (R1 ?_);o_src;refine RO (R1 ?_);refine RO (RO (wpAny_setEntries_of hos hds g.fits (R1 ?_)));refine RO (RO (Vo hos hds g.fits ?_));o_src;refine RO (ux (R1 ?_));have dr:∀b:Bool,(b && (!t.plain && decide (es.size > 1)))=false:=λb=>by rw[g.plain];cases b <;> rfl
 split
 .rename_i hc
  have:(!aY w && (!t.plain && decide (es.size > 1)))=true:=hc;rw[dr]at this;cases this
 refine RO (R1 ?_);refine RO (wpAny_setEpoch_of hos hds g.fits ?_);refine RO (UE (R1 ⟨_,rfl,"set_iterator",_,⟨_,Si _ rfl,rfl⟩,jD.lookup,?_⟩));exact hQ _ (.inl (Si _ rfl)) (λb o e=>RW _ e) (TY ..)
theorem Cz{Q:List Value->RV->Prop}(hh:A.handled=none)(g:Good (!aY w) es t ks)(hS:jr s.heap a es ep t)
  (hQ:∀ (h':Heap) (tk:Nat),s.heap.objs.size<=h'.objs.size->(∀b o,s.heap.get? b=some o->h'.get? b=some o)->Q ((dN w a es ep).toList.map (·.2)) { s with heap:=h',toks:=tk }):wpAny (model prog w) A (collect (.ref a)) Q E s:=by
 have b!:=gZ g.nd g.lt;have el:=g.len;walk_at "127";have alt:a<s.heap.objs.size:=R7 hos;unfold collect;refine RO (Y2 (TF YC ?_));rw[S9 YD _];show wpAny _ A.in1 (newList [] >>= λl=>again (.builtin "list.__iadd__" ⟨[l,.ref a],[]⟩)) _ _ s;refine RO (UE ?_);refine R1 ⟨Uc Wz _,TF F.entry_list_iadd ?_⟩;rw[S9 Wz _];show wpAny _ A.in1 (TR (.ref s.heap.objs.size) (.ref a) (.ref s.heap.objs.size)) _ _ _;generalize k!:s.heap.push { cls:=.type "list",data:=.seq ([]:Z8).toArray }=h1;have o1:h1.get? s.heap.objs.size=some { cls:=.type "list",data:=.seq ([]:Z8).toArray }:=by rw[<- k!];exact Si _ rfl
 have k1:∀b o,s.heap.get? b=some o->h1.get? b=some o:=λb o e=>by rw[<- k!];exact RW _ e
 have z1:h1.objs.size=s.heap.objs.size+1:=by rw[<- k!];exact TY ..
 have hS1:jr h1 a es ep t:=hS.keep λo e=>k1 _ _ e;unfold TR;have hT1:Zd { s with heap:=h1 } (.ref a) "set":=⟨os,k1 _ _ hos,hex.1⟩;refine RO (V6 hT1 ?_);have nS:Vk (.ref s.heap.objs.size) (.ref a)=false:=by
  have:s.heap.objs.size≠a:=UI alt;simp[Vk,this]
 rw[if_neg (by rw[nS];decide)]
 refine RO (EY g hS1 λh2 it2 k2 z2=>?_);have o2:=k2 _ _ o1;have hT2:Zd { s with heap:=h2 } (.ref a) "set":=⟨os,k2 _ _ (k1 _ _ hos),hex.1⟩;refine RO (S2 ?_);unfold W3;refine RO (We hT2 F.slot_set_len.lookup ?_);generalize hid:("set.__len__" : String)=id0
 (fail_if_success (clear hid id0))
 wp_delta
 rw[show splitId id0=some ("set","__len__") from by subst hid;decide +kernel]
 subst hid;refine RO (WM (b:=true) hT2 sub_set_self ?_);show wpAny _ _ (typeOf (.ref a) >>= _) _ _ _;refine RO (V6 hT2 ?_);refine R1 ?_;show wpAny _ A.in1 (rule "list.extend.makes-room" >>= λ_=>Builtin.List.listTouch (.ref s.heap.objs.size) >>= λ_=>again (.builtin "list.extend.loop" ⟨[.ref s.heap.objs.size,.ref h1.objs.size,.ref s.heap.objs.size],[]⟩)) _ _ _;refine RO (YR (RO ?_));show wpAny _ A.in1 (updateSeq s.heap.objs.size (·.push .none) >>= λ_=>updateSeq s.heap.objs.size (·.pop)) _ _ _;refine RO (VO o2 rfl ?_);have o3:=T3 (SK (·.push Tq)) o2 rfl;refine VO (hz:=by seq_fits) o3 rfl ?_
 have o4:=T3 (SK (·.pop)) o3 rfl;have k4:∀b o,b≠s.heap.objs.size->h2.get? b=some o->((h2.update s.heap.objs.size (SK (·.push Tq))).update s.heap.objs.size (SK (·.pop))).get? b=some o :=
  λb o hb e=>(Tu _ _ (UA hb)).trans ((Tu _ _ (UA hb)).trans e)
 have ne1:h1.objs.size≠s.heap.objs.size:=by rw[z1];exact UI (Ui _)
 have ne2:a≠s.heap.objs.size:=Sa alt;have ne3:a≠h1.objs.size:=by rw[z1];exact Sa (Td alt)
 have W:=(He (prog:=prog) (A:=A.in1) (by simp[hh]) h1.objs.size a ne3 (ep:=ep) g).toS
 refine R1 ⟨Uc Y6 _,YW W (by rw[SH];lia) s.heap.objs.size (by simp only[Sf,T7,or_false,not_or];exact⟨UA ne1,UA ne2⟩) _ es.size 0 _ _ _ rfl (SO _)
  ⟨it2.keep λo e=>k4 _ _ ne1 e,(hS1.keep λo e=>k2 _ _ e).keep λo e=>k4 _ _ ne2 e⟩ o4 (ItemsOf.nil _) λs' acc c' mv o5 items=>?_⟩
 obtain⟨h',g',d',tk',os'⟩:=s';have eg:g'=s.gens:=mv.gens;have ed:d'=s.drawn:=mv.drawn;have eo:os'=s.os:=mv.os;subst eg;subst ed;subst eo;show wpAny _ A (load s.heap.objs.size >>= _) _ _ _;refine RO (wpAny_load o5 (R1 ?_));have ea:acc.toList=(dN w a es ep).toList.map (·.2):=by
  refine Tr λj=>?_;rw[RY,Tg,Tg];rcases Sb j acc.size with c|c
  .have q:=SW c;obtain⟨e,he,ev⟩:=items.2 j _ q;rw[q,he,ev];rfl
  .rw[UC c,UC (by rw[mY,<- items.1];exact c)]
   rfl
 rw[ea];refine hQ h' tk' (Uw (R7 o5)) λb o e=>mv.heap b o ?_ (k4 b o ?_ (k2 _ _ (k1 _ _ e)))
 .have:=R7 e;simp only[Sf,T7,or_false,not_or];exact⟨Sa this,by rw[z1];exact Sa (Td this)⟩
 .exact Sa (R7 e)
theorem yh:∀ {es:List (Int×Value)},(∀e∈es,∃ (k:Nat) (tk:Tok),k<23/\e=((k:Int),U5 (k:Int) tk))->WK (es.map (·.2)) ((es.map λe=>e.1.toNat).map λ(k:Nat)=>(k:Int))
 | [],_=>.nil
 | e :: es,h=>by
  obtain⟨k,tk,_,rfl⟩:=h e R4;exact .cons _ _ (yh λe he=>h e (R3 _ he))
theorem Ka{es:List (Int×Value)}(h:es.map (·.1)=ks.map λ(k:Nat)=>(k:Int)):es.map (λe=>e.1.toNat)=ks:=by
 have:=congrArg (List.map XI) h;rw[Ux,Ux]at this;have e:(XI ∘ λ(k:Nat)=>(k:Int))=id:=by funext n;rfl
 rw[e,WX]at this;l_out
theorem EL(hh:A.handled=none)(hS:eW s.heap a (!aY w) ks)
  (h:∀ (h':Heap) (tk:Nat) (d:Addr) (out:ZO) (c:Nat) (l:AT),WK out.toList (l.map λ(k:Nat)=>(k:Int))->l.Perm ks->l.Pairwise (·<=·)->s.heap.objs.size<=d->h'.get? d=some (seqObj "list" out c)->(∀b o,s.heap.get? b=some o->h'.get? b=some o)->Q (.ref d) { s with heap:=h',toks:=tk }) :
  wpAny (model prog w) A (call (.builtin "sorted") [.ref a]) Q E s:=by
 obtain⟨o,es,ep,t,ho,hex,hd,hnum,g⟩:=hS;have b!:=gZ g.nd g.lt;have el:=g.len;refine VZ Y8 YE YF (Zv _) ?_;k_upd;refine RO (Cz (by simp[hh]) g ⟨o,ho,hex,hd⟩ λh1 tk1 kz k1=>?_)
 have wp:=xS (w:=w) (a:=a) (es:=es) (ep:=ep);have hI:=yh (es:=(dN w a es ep).toList) λe he=>hnum e (wp.mem_iff.mp he);have kp:((dN w a es ep).toList.map λe=>e.1.toNat).Perm ks:=by
  have:=wp.map λe=>e.1.toNat
  rwa[Ka g.keys]at this
 generalize (dN w a es ep).toList.map (λe=>e.1.toNat)=kw at hI kp;generalize hv:(dN w a es ep).toList.map (·.2)=vs at hI;have vl:vs.length<64:=by
  have:=hI.length;rw[RP,kp.length_eq]at this;lia
 refine RO (Wl ?_);have oL:(h1.push (seqObj "list" vs.toArray 0)).get? h1.objs.size=some (seqObj "list" vs.toArray 0):=Si _ rfl;refine RO (S2 (Uy Xz ⟨_,oL,rfl⟩ W9 (list_sort_tree oL hI vl λout ns' a1 a2 a3=>⟨_,rfl,?_⟩) (Y3 _)));obtain⟨c,hc⟩:=sortedHeap_at (out:=out) oL;obtain⟨l,rfl,lp⟩:=rj a2;refine R1 ⟨_,rfl,h _ tk1 _ out c l a1 (lp.trans kp) ?_ kz hc λb ob e=>?_⟩
 .rw[Vi]at a3;exact a3.imp λz=>by lia
 .have e1:=k1 _ _ e;rw[sortedHeap_old (Sa (R7 e1)) (by rw[TY];exact Td (R7 e1))]
  exact RW _ e1
theorem eW.there(x:eW h a led ks):∃o,h.get? a=some o:=let ⟨o,_,_,_,ho,_⟩:=x;⟨o,ho⟩
theorem eW.nd(x:eW h a led ks):ks.Nodup/\∀k∈ks,k<23:=let ⟨_,_,_,_,_,_,_,_,g⟩:=x;⟨g.nd,g.lt⟩
theorem eW.keep(x:eW h a led ks)(k:∀o,h.get? a=some o->h'.get? a=some o):eW h' a led ks:=let ⟨o,es,ep,t,ho,r⟩:=x;⟨o,es,ep,t,k _ ho,r⟩
abbrev fL(w:World)(a:Addr)(ks:AT):HO:=.ext λh=>eW h a (!aY w) ks
theorem Lx{P:Sj}(e:eW h a (!aY w) ks):cu P w H h a (fL w a ks) :=
 ⟨e,e.there,λ_ _ x k=>x.keep k⟩
def E9(w:World)(K:RM):List V->Hp->VK->Prop:=λxs H Q=>∃ (p:Addr) (ns:AT),xs=[.ref p]/\SqL K H p ((ns.map λ(n:Nat)=>(n:Int)).map V.int)/\(∀x∈ns,x<23) /\
 ∀ (a:Addr) (ks:AT),H a=none->(∀x,x∈ks↔x∈ns)->ks.Nodup->Q (.ref a) (upd H a (fL w a ks))
theorem Hi(hc:X.calm=true):cR X (.type "set") (E9 X.w X.K):=by
 k_all;obtain⟨p,ns,rfl,hS,I!,q⟩:=h;f_int;have hi:=pE rv;refine FQ (I.ok.hd hc) pl.isList (by simpa using hi) I! λh' tk ks hG hm hk=>?_
 exact⟨.ref s.heap.objs.size,_,I.laid (o:=fL X.w s.heap.objs.size ks) (λb o e=>hk b o (R7 e) e) (R6 _) (Lx hG),rfl,q _ ks (I.hok.fresh (R6 _)) hm hG.nd.1⟩
theorem vw(K:RM)(hK:X.K=K)(w:World)(hw:X.w=w)(hc:X.calm=true):cR X (.type "set") (E9 w K):=by subst hK;subst hw;exact Hi hc
def ub(w:World):List V->Hp->VK->Prop:=λxs H Q=>∃ (a:Addr) (ks:AT),xs=[.ref a]/\H a=some (fL w a ks) /\
 ∀ (d:Addr) (l:AT),H d=none->l.Perm ks->l.Pairwise (·<=·)->Q (.ref d) (upd H d (.lst (aw l)))
theorem BG(hc:X.calm=true):cR X (.builtin "sorted") (ub X.w):=by
 k_all;obtain⟨a,ks,rfl,hx,q⟩:=h;obtain⟨u,rfl,ru⟩:=vals1 r;cases(show u=SR a from ru);obtain⟨p,_,_⟩:=(show cu X.prog X.w H s.heap a (fL X.w a ks) from I.hok a _ hx);have hG:eW s.heap a (!aY X.w) ks:=p;have b!:=gZ hG.nd.1 hG.nd.2;refine EL (I.ok.hd hc) hG λh' tk d out c l a1 a2 a3 hd ho hk=>?_;have hn:H d=none:=I.hok.fresh hd;refine⟨.ref d,_,I.laid (o:=.lst (aw l)) hk hd ⟨?_,out.toList,c,?_,?_⟩,rfl,q d l hn a2 a3⟩
 .unfold aw;rw[RP,a2.length_eq];exact small (by lia)
 .rw[jb];exact mJ a1
 .simpa[seqObj] using ho
theorem qm(w:World)(hw:X.w=w)(hc:X.calm=true):cR X (.builtin "sorted") (ub w):=by subst hw;exact BG hc
section
variable {Q:VK}{v:V} 
theorem Ge(h:At K H v l)(I!:∀x∈l,x<23)(q:∀ (a:Addr) (ks:AT),H a=none->(∀x,x∈ks↔x∈l)->ks.Nodup->Q (.ref a) (upd H a (fL w a ks))):E9 w K [v] H Q:=by
 obtain⟨p,rfl,hS⟩:=lN h;have e:=jb l;unfold aw at e;exact⟨p,l,rfl,by rw[<- e];exact hS,I!,q⟩
theorem xW(h:H a=some (fL w a ks))(q:∀ (d:Addr) (l:AT),H d=none->l.Perm ks->l.Pairwise (·<=·)->Q (.ref d) (upd H d (.lst (aw l)))):ub w [.ref a] H Q:=⟨a,ks,rfl,h,q⟩
end
section
variable {elt tg iter:Expr}{g:TG} 
theorem cF{py iu:Pos}(hc:X.calm=true)(hN:X.N.Nodup)(v!:X.N[i]?=some y)(hy:Loc X.env.scope y)(S:aJ X.env.scope X.N scope own fr)(hi:PI X tg iter wi)
  (hb:∀C s₂ H₂ fp,PG (cp X scope own fr C s₂ H₂ fp) tg g/\PIf (cp X scope own fr C s₂ H₂ fp) ifs tt/\PE (cp X scope own fr C s₂ H₂ fp) elt te)
  (hsw:swapsWith (.ListComp elt [⟨tg,iter,ifs,0⟩] scope pos) (some (.Name y py)) iu.line X.env=pure true)
  (hs:∀x,foldedSetIterable iter X.env x=pure x:=by intro _;rfl) (hf:X.fn y=true\/X.env.scope.names.lookup y=some .local:=by first|exact .inl rfl|exact .inr rfl|assumption) :
  PS X (.Assign [.Name y py] (.ListComp elt [⟨tg,iter,ifs,0⟩] scope pos) iu) (BI (zQ own fr wi g tt te) (dZ i)):=by
 l_idx;rw[exec_Assign_Name_used _ _ _ _ hsw];refine RO (Wa (RO ?_));show wpAny _ X.A (do let _ <- comprehension (.ListComp elt [⟨tg,iter,ifs,0⟩] scope pos) scope X.env _ (newList []) false (eval iter X.env) (some (assign (.Name y py) X.env))) _ _ s;refine RO (UD (XM (use:=some (assign (.Name y py) X.env)) (Q:=λ_ s'=>SP X dh D .next s') rfl hs (D8 (S.cells I.ok)) S.kind S.names ?_) (λ_ s' hq=>R1 (R1 hq)) λ_ _ e=>e);refine uI (RR:=λacc C=>compPost (model X.prog X.w) X.A X.xe (some (assign (.Name y py) X.env)) (λ_ s'=>SP X dh D .next s') acc C) hc S hi hb I h ?_;intro D' C s' H' m' I' q f hn;show wpAny _ _ (assign (.Name y py) X.env (.ref D')) _ _ _;refine wpAny_assign_Name (yt I' hN v! hy (v:=.ref D') rfl (λs2 I2 ⟨a,sb,ha⟩=>?_) hf);obtain⟨f0,f1,f2,f3,f4,f5⟩:=f;have hCa:C≠a:=by
  rcases ha with e|e
  .rw[e];exact f1
  .exact λz=>f4 y a e z.symm
 refine⟨m',hn.sameBut sb hCa,λh' sb'=>?_⟩;exact⟨_,H',I2.turned (t':=s2.toks) (λb o hb e=>(sb'.2 b hb).trans e) f0 f1 f3 f4 f5,q⟩
end
section
variable {t:Nat} 
end
section
variable {x:Addr} 
end
section
variable {σ:St}{i dx:Addr}{f:Str}{y:V}{u:Value} 
end
section
variable {env:Env}{Q:Flow->RV->Prop}
end
section
variable {σ:St}{E:XK} 
end
section
open PySem.Calls PySem.Builtin PySem.Builtin.ObjectAttr
variable {x dx:Addr}{t:Nat} 
end
section
variable {σ:St}{Q:VK}{D:Ends}{ta tv:TE}{tA:TA}{f:Str}{E:XK} 
end
section
variable {P:Sj}{base:Heap}{x qual:Str}{fd:TC}{N:ZN} 
end
section
variable {x:Str}{j:Nat}{p:Pos}{e:Expr}{es:Z9}{t:TA}{E:XK}
end
section
variable {fr:ZL}{s₂:RV}{H₂:Hp}{E:XK}{σ:St}
end
section
variable {elt tg iter:Expr}{g:TG} 
end
end L2
namespace L2
open PySem PySem.W PyProof.Rows
def fT{α:Type}(lt:Nat->Nat->Bool):KasT α->α
 | .ret a=>a
 | .ask i j k=>fT lt (k (lt i j))
theorem iR{α β:Type}(lt:Nat->Nat->Bool)(f:α->KasT β):∀t:KasT α,fT lt (t.bind f)=fT lt (f (fT lt t))
 | .ret _=>rfl
 | .ask i j k=>iR lt f (k (lt i j))
theorem iK{α:Type}{lt:Nat->Nat->Bool}{c:Prop}[Decidable c]{t u:KasT α}{p:α->Prop}(h1:p (fT lt t))(h2:p (fT lt u)):p (fT lt (if c then t else u)):=by
 split
 .exact h1
 .exact h2
section
variable {lt:Nat->Nat->Bool}{p:ZP}{n m:Nat}
theorem getD_eq{p:ZP}{i:Nat}:p.getD i 0=(p[i]?).getD 0:=by
 by_cases h:i<p.size <;> simp[Array.getD,h]
theorem pS{i j:Nat}:(kas_rev p i j).Perm p:=mirror_perm _ _ _ _
theorem qc:∀f (p:ZP) n q,(fT lt (kas_desc f p n q)).1.Perm p
 | 0,_,_,_=>Vp _
 | f+1,p,n,q=>iK (p:=λ(r:ZP×Nat×Nat)=>r.1.Perm p) (iK (p:=λ(r:ZP×Nat×Nat)=>r.1.Perm p) ((qc f _ _ _).trans pS) (qc f _ _ _)) (iK (p:=λ(r:ZP×Nat×Nat)=>r.1.Perm p) (Vp _) (qc f _ _ _))
theorem Ba:(fT lt (kas_tail3 n m p)).2.Perm p:=by
 unfold kas_tail3;rw[iR];exact pS
theorem rh:(fT lt (Zw n m p)).2.Perm p:=by
 unfold Zw;rw[iR];have:=qc (lt:=lt) (m - (n+1)) p (n+1) 0;exact iK (p:=λ(r:Nat×ZP)=>r.2.Perm p) (Ba.trans (pS.trans this)) (Ba.trans this)
theorem yE:(fT lt (kas_count m p)).2.Perm p:=by
 unfold kas_count;rw[iR];exact iK (p:=λ(r:Nat×ZP)=>r.2.Perm p) (Vp _) (iK (p:=λ(r:Nat×ZP)=>r.2.Perm p) (iK (p:=λ(r:Nat×ZP)=>r.2.Perm p) (Vp _) (rh.trans pS)) rh)
theorem Dt:∀f (p:ZP) k,(fT lt (kas_bin f p k)).Perm p
 | 0,_,_=>Vp _
 | f+1,p,k=>by
  unfold kas_bin;rw[iR];exact(Dt f _ _).trans (bubble_perm _ _ _)
theorem Ar:(fT lt (WT n)).Perm (SN (RS n)):=by
 unfold WT;rw[iR];exact iK (p:=λ(r:ZP)=>r.Perm _) ((Dt _ _ _).trans yE) yE
end
end L2
namespace L2
end L2
namespace L2
open PySem PySem.W PySem.Spec PyProof.Rows
variable {p:ZP}{vs:Z8}{n:Nat}{cmp:Nat->Nat->(Bool->RV->Prop)->RV->Prop}{lt:Nat->Nat->Bool}{s:RV}{E Q:Value->RV->Prop}{P:ZD->RV->Prop}
def InR{α:Type}(n:Nat)(G:α->Prop):KasT α->Prop
 | .ret a=>G a
 | .ask i j k=>i<n/\j<n/\∀b,InR n G (k b)
theorem InR.bind{α β:Type}{n:Nat}{G:α->Prop}{G':β->Prop}{f:α->KasT β}:∀ {t:KasT α},InR n G t->(∀a,G a->InR n G' (f a))->InR n G' (t.bind f)
 | .ret a,h,hf=>hf a h
 | .ask _ _ _,h,hf=>⟨h.1,h.2.1,λb=>InR.bind (h.2.2 b) hf⟩
def Below(n:Nat)(p:ZP):Prop:=∀i,p.getD i 0<n
theorem sh(h1:0<n):Below n p↔∀x∈p,x<n:=by
 constructor
 .intro h x hx;obtain⟨i,hi,rfl⟩:=Array.mem_iff_getElem.mp hx;have:=h i;rw[getD_eq,SW hi]at this;l_out
 .intro h i;rw[getD_eq]
  by_cases c:i<p.size
  .rw[SW c];exact h _ (Array.getElem_mem c)
  .rw[UC (by lia)]
   exact h1
theorem vy{p':ZP}(h1:0<n)(hp:p'.Perm p)(h:Below n p):Below n p':=(sh h1).mpr λx hx=>(sh h1).mp h x (hp.mem_iff.mp hx)
theorem kf{i j:Nat}(h1:0<n)(h:Below n p):Below n (kas_rev p i j):=vy h1 (mirror_perm _ _ _ _) h
theorem wF{p:ZP}(h:Below n p):∀f k,InR n (λ_=>True) (kas_asc p f k)
 | 0,k=>trivial
 | f+1,k=>⟨h _,h _,λb=>by
  cases b with
  | true=>simp only[if_true];trivial
  | false=>simp only[S5,if_false];exact wF h f (k+1)⟩
theorem oW(h1:0<n):∀f (p:ZP) k q,Below n p->InR n (λr=>Below n r.1) (kas_desc f p k q)
 | 0,p,k,q,h=>h
 | f+1,p,k,q,h=>⟨h _,h _,λb=>by
  cases b with
  | true =>
   simp only[if_true]
   split
   .exact oW h1 f _ _ _ (kf h1 h)
   .exact oW h1 f _ _ _ h
  | false =>
   simp only[S5,if_false];exact⟨h _,h _,λb=>by
    cases b with
    | true=>simp only[if_true];exact h
    | false=>simp only[S5,if_false];exact oW h1 f _ _ _ h⟩⟩
theorem BY(h1:0<n)(h:Below n p)(k m:Nat):InR n (λr=>Below n r.2) (kas_tail3 k m p) :=
 (wF (kf h1 h) _ _).bind λ_ _=>kf h1 h
theorem qT(h1:0<n)(h:Below n p)(k m:Nat):InR n (λr=>Below n r.2) (Zw k m p) :=
 (oW h1 _ _ _ _ h).bind λr hr=>by
  split
  .exact BY h1 (kf h1 hr) _ _
  .exact BY h1 hr _ _
theorem GF(h1:0<n)(h:Below n p)(m:Nat):InR n (λr=>Below n r.2) (kas_count m p) :=
 (wF h _ _).bind λk _=>by
  split
  .exact h
  .split
   .exact⟨h _,h _,λb=>by
     cases b with
     | true=>simp only[if_true];exact h
     | false=>simp only[S5,if_false];exact qT h1 (kf h1 h) _ _⟩
   .exact qT h1 h _ _
theorem su{p:ZP}(h:Below n p)(k:Nat):∀f l r,InR n (λ_=>True) (kas_place p k f l r)
 | 0,l,r=>trivial
 | f+1,l,r=>by
  unfold kas_place
  split
  .trivial
  .exact⟨h _,h _,λb=>by
    cases b with
    | true=>simp only[if_true];exact su h k f _ _
    | false=>simp only[S5,if_false];exact su h k f _ _⟩
theorem DD(h1:0<n):∀f (p:ZP) k,Below n p->InR n (λ_=>True) (kas_bin f p k)
 | 0,p,k,h=>trivial
 | f+1,p,k,h=>(su h k _ _ _).bind λl _=>DD h1 f _ _ (vy h1 (bubble_perm _ _ _) h)
theorem Co(h1:0<n):InR n (λ_=>True) (WT n):=by
 unfold WT;refine(GF h1 ((sh h1).mpr λx hx=>by simpa using hx) n).bind λr hr=>?_
 split
 .exact DD h1 _ _ _ hr
 .trivial
theorem nD{α:Type}{cmp:Nat->Nat->(Bool->RV->Prop)->RV->Prop}{lt:Nat->Nat->Bool}{n:Nat}{s:RV}{G:α->Prop}(hc:∀i j (C:Bool->RV->Prop),i<n->j<n->C (lt i j) s->cmp i j C s){Q:α->RV->Prop}:∀t:KasT α,InR n G t->Q (fT lt t) s->t.kasWp cmp Q s
 | .ret _,_,h=>h
 | .ask i j k,hr,h=>hc i j _ hr.1 hr.2.1 (nD hc (k (lt i j)) (hr.2.2 _) h)
section
variable {prog:Sj}{w:World}{A:S7} 
def Kp(h h':Heap)(a:Addr):Prop:=∀b o,b≠a->h.get? b=some o->h'.get? b=some o
theorem yI{a:Addr}(ho:s.heap.get? a=some (seqObj "list" vs.toArray n))(P!:vs.length<64)
  (hT:∀h',Kp s.heap h' a->∀v∈vs,Looks (model prog w) h' (typeOf v) (.type "list"))
  (hk:∀h',Kp s.heap h' a->∀i j (C:Bool->RV->Prop),i<vs.length->j<vs.length->C (lt i j) { s with heap:=h' }->ZH prog w A oneType' vs i j C { s with heap:=h' })
  (h:∀p:ZP,p.Perm (SN (RS vs.length))->P (.done (.ret .none)) { s with heap:=sortedHeap s.heap a vs (SN (p.toList.map λi=>vs.getD i Tq)) }) :
  wpAny (model prog w) A (Vb.«list.sort» ⟨[.ref a],[]⟩) P E s:=by
 rw[list_sort_plain];have ha:a<s.heap.objs.size:=R7 ho;refine RO (Zx ho rfl ?_);refine RO (VR ho rfl ?_ (by rw[Se,SH];lia) (SO _))
 obtain⟨e1,ho1⟩:∃e1,(s.heap.update a (SK λ_=>#[])).get? a=some (seqObj "list" #[] e1):=⟨_,Xa ho (λ_=>#[])⟩;refine RO (X7 ho1 rfl ?_);refine RO (Y1 ?_ (by show vs.length<=_;rw[SH];lia))
 refine RO (Wl ?_ (SO _));refine S2 ?_;have ho6:(((s.heap.update a (SK λ_=>#[])).push (seqObj "tuple" vs.toArray 0)).push (seqObj "list" #[] 0)).get? a=some (seqObj "list" #[] e1):=by
  rw[Vq _ _ _ (by rw[Zj,V3];exact Sa (Td ha)),Vq _ _ _ (by rw[V3];exact Sa ha)]
  exact ho1
 have kp:Kp s.heap (((s.heap.update a (SK λ_=>#[])).push (seqObj "tuple" vs.toArray 0)).push (seqObj "list" #[] 0)) a:=λb o hb e =>
  RW _ (RW _ ((Xb _ _ _ _ hb).trans e))
 show wpAny (model prog w) A _ P E { s with heap:=((s.heap.update a (SK λ_=>#[])).push (seqObj "tuple" vs.toArray 0)).push (seqObj "list" #[] 0) };o_src;have hsz:vs.toArray.size=vs.length:=by simp
 by_cases h2:vs.toArray.size<2
 .rw[if_pos h2,if_pos h2];refine RO (R1 ?_);rw[StateT.run_pure];refine RO (R1 ?_);o_src;refine RO (X7 ho6 rfl ?_);refine RO (VR ho6 rfl ?_ (hsz2:=by rw[Array.size_map];show (pairsOf vs).size<=_;rw[pairsOf_size,SH];lia))
  simp only[bne_self_eq_false,S5,if_false];refine R1 ?_;have:=h (SN (RS vs.length)) (Vp _);have e:(arrOf (Zk general' (vs.toArray.zip vs.toArray) #[] 7 none)).map (·.2)=SN ((SN (RS vs.length)).toList.map λi=>vs.getD i Tq):=by
   have e1:(RS vs.length).map (λi=>vs.getD i Tq)=vs:=by
    apply Tr;intro i;rw[RY]
    by_cases c:i<vs.length
    .rw[TU c,RL c];simp[c]
    .rw[Sm (by simp;lia),Sm (by lia)]
     rfl
   show (vs.toArray.zip vs.toArray).map (·.2)=SN ((RS vs.length).map λi=>vs.getD i Tq);rw[e1];apply WN.mp;rw[Yd,Array.toList_zip];exact List.map_snd_zip (R6 _)
  rw[e];l_out
 .rw[if_neg h2,if_neg h2];refine RO (kas_kind (by lia) (hT _ kp) (by decide) (by decide) ?_)
  have est:Zk oneType' (vs.toArray.zip vs.toArray) #[] 7 none=kas_st oneType' (pairsOf vs) (SN (RS vs.length)):=by
   have e:=kas_range (pairsOf vs);rw[pairsOf_size]at e;show Zk oneType' (pairsOf vs) #[] 7 none=Zk oneType' ((SN (RS vs.length)).map (kas_item (pairsOf vs))) #[] 7 none;rw[e]
  have fin:=Ar (lt:=lt) (n:=vs.length);have ask:=nD (Q:=λp s'=>p=fT lt (WT vs.length)/\s'={ s with heap:=((s.heap.update a (SK λ_=>#[])).push (seqObj "tuple" vs.toArray 0)).push (seqObj "list" #[] 0) }) (hk _ kp) (WT vs.length) (Co (by lia)) ⟨rfl,rfl⟩
  rw[kas_ask_eq]at ask;have run:=kas_runs (E:=E) (Q:=λ_ M! s'=>s'={ s with heap:=((s.heap.update a (SK λ_=>#[])).push (seqObj "tuple" vs.toArray 0)).push (seqObj "list" #[] 0) }/\∃p:ZP,p=fT lt (WT vs.length)/\p.size=vs.length/\arrOf M!=p.map (kas_item (pairsOf vs))/\failedOf M!=none)
   (by lia) P! (λp' M! s' a1 a2 a3 a4=>⟨a4.2,p',a4.1,a1,a2,a3⟩) ask
  rw[<- est]at run;refine RO (UD run ?_ λ_ _ e=>e);rintro⟨⟨⟩,M!⟩ s' ⟨es,p,ep,hp,har,hf⟩;dsimp only at es har hf;subst es;o_src;have hout:(arrOf M!).map (·.2)=SN (p.toList.map λi=>vs.getD i Tq):=by
   apply WN.mp;rw[har,Array.map_map,Yd];exact TV λi _=>by show (kas_item (pairsOf vs) i).2=_;rw[kas_item_eq]
  have hsz2:(SN (p.toList.map λi=>vs.getD i Tq)).size=vs.length:=by rw[Se,RP,SM,hp]
  rw[hout];refine RO (X7 ho6 rfl ?_);refine RO (VR ho6 rfl ?_ (SO _) (SA (VG hsz2) (by rw[SH];lia)))
  rw[hf];simp only[bne_self_eq_false,S5,if_false];subst ep;exact R1 (h _ fin)
theorem FZ{l:Addr}(hl:s.heap.IsList l vs.toArray)(P!:vs.length<64)
  (hT:∀h',(∀b o,s.heap.get? b=some o->h'.get? b=some o)->∀v∈vs,Looks (model prog w) h' (typeOf v) (.type "list"))
  (hk:∀h',(∀b o,s.heap.get? b=some o->h'.get? b=some o)->∀i j (C:Bool->RV->Prop),i<vs.length->j<vs.length->C (lt i j) { s with heap:=h' }->ZH prog w A.in1.in1 oneType' vs i j C { s with heap:=h' })
  (h:∀p:ZP,p.Perm (SN (RS vs.length))->Q (.ref (s.heap.objs.size+1)) { s with heap:=sortedAll s.heap vs (SN (p.toList.map λi=>vs.getD i Tq)) }) :
  wpAny (model prog w) A (call (.builtin "sorted") [.ref l]) Q E s:=by
 refine VZ Y8 YE YF (Zv _) ?_;k_upd;refine RO (collect_list hl ?_ (by rw[SH];lia))
 refine RO (Wl ?_ (by rw[SH];lia))
 have hsz:((s.heap.push (seqObj "list" #[] 0)).update s.heap.objs.size (SK (·++vs.toArray))).objs.size=s.heap.objs.size+1:=by
  rw[V3,Zj]
 have hoL:(((s.heap.push (seqObj "list" #[] 0)).update s.heap.objs.size (SK (·++vs.toArray))).push (seqObj "list" vs.toArray 0)).get? (s.heap.objs.size+1)=some (seqObj "list" vs.toArray 0):=by
  rw[<- hsz];exact Si _ rfl
 have keep:∀b o,s.heap.get? b=some o->b≠s.heap.objs.size+1/\(((s.heap.push (seqObj "list" #[] 0)).update s.heap.objs.size (SK (·++vs.toArray))).push (seqObj "list" vs.toArray 0)).get? b=some o:=λb o q=>by
  have ZW:b<s.heap.objs.size:=R7 q;refine⟨Sa (Td ZW),?_⟩;rw[Vq _ _ _ (by rw[hsz];exact Sa (Td ZW)),Xb _ _ _ _ (Sa ZW),Vq _ _ _ (Sa ZW)]
  exact q
 show wpAny _ _ _ _ _ { s with heap:=((s.heap.push (seqObj "list" #[] 0)).update s.heap.objs.size (SK (·++vs.toArray))).push (seqObj "list" vs.toArray 0) };rw[hsz];refine RO (S2 (Uy Xz ⟨_,hoL,rfl⟩ W9 (yI hoL P! (λh' k=>hT h' λb o e=>k b o (keep b o e).1 (keep b o e).2) (λh' k=>hk h' λb o e=>k b o (keep b o e).1 (keep b o e).2) λp a1=>⟨_,rfl,?_⟩) (Y3 _)));exact R1 ⟨_,rfl,h p a1⟩
end
end L2
namespace L2
open PySem PySem.W PySem.Spec PyProof.Rows
theorem Di{h h':Heap}{a:Addr}{items:ZO}(hl:h.IsList a items)(k:∀b o,h.get? b=some o->h'.get? b=some o):h'.IsList a items:=by
 obtain⟨o,ho,r⟩:=hl;exact⟨o,k _ _ ho,r⟩
theorem xt{α:Type}(l:List α)(d:α):(RS l.length).map (λi=>l.getD i d)=l:=by
 apply Tr;intro i;rw[RY]
 by_cases c:i<l.length
 .rw[TU c,RL c];simp[c]
 .rw[Sm (by simp;lia),Sm (by lia)]
  rfl
theorem JJ{vs:Z7}{L:AC}(h:vs.length=L.length):(RS vs.length).map (λi=>(vs.getD i .non,L.getD i []))=vs.zip L:=by
 apply Tr;intro i;rw[RY]
 by_cases c:i<vs.length
 .have c':i<L.length:=by lia
  rw[TU c,RL (by simp;lia)]
  simp[c,c']
 .rw[Sm (by simp;lia),Sm (by simp;lia)]
  rfl
theorem rZ{vs:Z7}{ZV:Z8}(r:Vals vs ZV):∀l:AT,(∀i∈l,i<vs.length)->Vals (l.map λi=>vs.getD i .non) (l.map λi=>ZV.getD i Tq)
 | [],_=>.nil
 | i :: l,h=>by
  have hi:=h i R4;have hj:i<ZV.length:=by rw[<- r.length];exact hi
  refine .cons ?_ (rZ r l λj hj=>h j (R3 _ hj));have e1:vs.getD i .non=vs[i]:=by simp[hi]
  have e2:ZV.getD i Tq=ZV[i]:=by simp[hj]
  show RelV (vs.getD i .non) (ZV.getD i Tq);rw[e1,e2];exact Vals.getL r (RL hi) (RL hj)
def Rows(H H':Hp)(d:Addr)(L:AC):Prop:=H d=none/\∃ps:ZL,H' d=some (.lst (ps.map V.ref))/\Tb (λp r=>H p=none/\p≠d/\H' p=some (.lst (aw r))) ps L
theorem Rows.since{H0 H H':Hp}{d:Addr}{L:AC}(s:ag H0 H)(h:Rows H H' d L):Rows H0 H' d L:=by
 obtain⟨h1,ps,h2,h3⟩:=h;exact⟨s.free h1,ps,h2,Paired.bK h3 λ_ _ z=>⟨s.free z.1,z.2⟩⟩
theorem Rows.mono{H H' V':Hp}{d:Addr}{L:AC}(s:ag H' V')(h:Rows H H' d L):Rows H V' d L:=by
 obtain⟨h1,ps,h2,h3⟩:=h;exact⟨h1,ps,s _ _ h2,Paired.bK h3 λ_ _ z=>⟨z.1,z.2.1,s _ _ z.2.2⟩⟩
theorem jV{α β γ:Type}{F:α->γ->Prop}{G:β->γ->Prop}{f:β->α}(h:∀b c,G b c->F (f b) c):∀ {l:List β} {m:List γ},Tb G l m->Tb F (l.map f) m
 | _,_,.nil=>.nil
 | _,_,.cons r t=>.cons (h _ _ r) (jV h t)
theorem Rows.at{K:RM}{H H':Hp}{d:Addr}{L:AC}(h:Rows H H' d L):At K H' (.ref d) L:=by
 obtain⟨h1,ps,h2,h3⟩:=h;exact⟨d,_,rfl,SqL.of h2,jV (λp r z=>⟨p,_,rfl,SqL.of z.2.2,dG⟩) h3⟩
theorem wy{F:Addr->AT->Prop}{ps:ZL}{L:AC}(hP:Tb F ps L){zs:List (V×AT)}(hz:zs.Perm ((ps.map V.ref).zip L)):∃w!,zs.map (·.1)=w!.map V.ref/\Tb F w! (zs.map (·.2)):=by
 have key:∀ {ps:ZL} {L:AC},Tb F ps L->∀z∈(ps.map V.ref).zip L,∃p,z.1=.ref p/\F p z.2:=by
  intro ps L h
  induction h with
  | nil=>intro z hz;simp at hz
  | cons r t ih =>
   intro z hz;rcases Sf.mp hz with e|e
   .subst e;exact⟨_,rfl,r⟩
   .exact ih z e
 have all:∀z∈zs,∃p,z.1=.ref p/\F p z.2:=λz h=>key hP z (hz.mem_iff.mp h)
 clear hz
 induction zs with
 | nil=>exact⟨[],rfl,.nil⟩
 | cons z zs ih =>
  obtain⟨w!,e,h⟩:=ih λz h=>all z (R3 _ h);obtain⟨p,e1,f1⟩:=all z R4;exact⟨p :: w!,by rw[S6,S6,e1,e],.cons f1 h⟩
theorem tm:∀ {ps:Z7} {L:AC},ps.length=L.length->(ps.zip L).map (·.2)=L
 | [],[],_=>rfl
 | _ :: ps,_ :: L,h=>by
  rw[List.zip_cons_cons,S6,tm (by simpa using h)]
theorem Rows.nil{H H':Hp}{d:Addr}(hd:H d=none)(h:H' d=some (.lst [])):Rows H H' d []:=⟨hd,[],h,.nil⟩
theorem nH{H H5:Hp}{d dr:Addr}{L:AC}{r:AT}{Q:VK}(h:Rows H H5 d L)(hl:L.length<=100000)(hr:H dr=none)(hn:dr≠d)(hr5:H5 dr=some (.lst (aw r)))
  (q:∀H',Rows H H' d (L++[r])->(∀a o,a≠d->H5 a=some o->H' a=some o)->Q .non H'):oI (.ref d) [.ref dr] H5 Q:=by
 obtain⟨h1,ps,h2,h3⟩:=h;have e:=h3.length;refine⟨d,_,_,rfl,rfl,h2,Ti (show (ps.map V.ref).length<=100000 by rw[RP];lia) (by rw[SH];decide),?_⟩
 refine q _ ⟨h1,ps++[dr],by rw[aj];simp,Paired.app (Paired.bK h3 λ_ _ z=>⟨z.1,z.2.1,by rw[ak z.2.1];exact z.2.2⟩) (.cons ⟨hr,hn,by rw[ak hn];exact hr5⟩ .nil)⟩ λa o ha z=>by rw[ak ha];exact z
theorem CK{H H5:Hp}{d b:Addr}{L M:AC}{Q:VK}(h:Rows H H5 d L)(h':Rows H H5 b M)(B':∀r∈M,r≠[])(hl:L.length+M.length<=100000)
  (q:∀H',Rows H H' d (L++M)->(∀a o,a≠d->H5 a=some o->H' a=some o)->Q .non H'):Dw (.ref d) [.ref b] H5 Q:=by
 obtain⟨h1,ps,h2,h3⟩:=h;obtain⟨k1,qs,k2,k3⟩:=h';have e:=h3.length;have e':=k3.length;refine⟨d,b,_,_,rfl,rfl,h2,k2,SA (show (ps.map V.ref).length+(qs.map V.ref).length<=100000 by rw[RP,RP];lia) (by rw[SH];decide),?_⟩
 have hd:∀ (p:Addr) (r:AT),r∈M->H5 p=some (.lst (aw r))->p≠d:=λp r hr hp q=>by
  subst q;rw[h2]at hp;have e1:=HO.lst.inj (SI hp);cases r with
  | nil=>exact B' _ hr rfl
  | cons a r =>
   cases ps with
   | nil=>cases e1
   | cons p ps=>cases e1
 have k3':Tb (λp r=>H p=none/\p≠d/\H5 p=some (.lst (aw r))) qs M:=by
  have go:∀ {qs:ZL} {M':AC},(∀r∈M',r∈M)->Tb (λp r=>H p=none/\p≠b/\H5 p=some (.lst (aw r))) qs M'->Tb (λp r=>H p=none/\p≠d/\H5 p=some (.lst (aw r))) qs M':=by
   intro qs M' hm hp
   induction hp with
   | nil=>exact .nil
   | cons r t ih=>exact .cons ⟨r.1,hd _ _ (hm _ R4) r.2.2,r.2.2⟩ (ih λr hr=>hm r (R3 _ hr))
  exact go (λr hr=>hr) k3
 refine q _ ⟨h1,ps++qs,by rw[aj];simp,Paired.app (Paired.bK h3 λ_ _ z=>⟨z.1,z.2.1,by rw[ak z.2.1];exact z.2.2⟩) (Paired.bK k3' λ_ _ z=>⟨z.1,z.2.1,by rw[ak z.2.1];exact z.2.2⟩)⟩ λa o ha z=>by rw[ak ha];exact z
end L2
namespace L2
open PySem PySem.W PySem.Spec PyProof.Rows
section
variable {prog:Sj}{w:World}{A:S7}{E:Value->RV->Prop}{s:RV}
theorem yQ{T:String}{r d:Addr}{n:Nat}{P:Nat->Value->Prop}{OK:Heap->Prop}{R:Ys->RV->Prop}(K:KdlSrc prog w T r d n P OK)(hh:A.handled=none)(hok:OK s.heap)(S:Addr)(hSr:S≠r)(hSd:S≠d)(c₀:Nat)(hS:s.heap.get? S=some { cls:=.type "list",data:=.seq #[] c₀ })(hn:n<=SG)
  (hR:∀h' tk N' c',(∀b o,b≠S->s.heap.get? b=some o->h'.get? b=some o)->h'.get? S=some { cls:=.type "list",dict:=none,data:=.seq N' c',slots:=#[] }->ZJ P N' n->R (.ok (.ret (.ref S))) { s with heap:=h',toks:=tk }) :
  codeAny (model prog w) A (.builtin "list.__iadd__" ⟨[.ref S,.ref r],[]⟩) R s:=by
 refine TF F.entry_list_iadd ?_;rw[S9 Wz _];show wpAny _ A.in1 (TR (.ref S) (.ref r) (.ref S)) _ _ _;exact kdl_extend K hh hok S hSr hSd (.ref S) c₀ hS hR hn
theorem Dh{T:String}{r d:Addr}{n:Nat}{P:Nat->Value->Prop}{OK:Heap->Prop}(K:KdlSrc prog w T r d n P OK){Q:List Value->RV->Prop}(hh:A.handled=none)(hok:OK s.heap)(hn:n<=SG)
  (hQ:∀ (h':Heap) (tk:Nat) (vs:Z8),s.heap.objs.size<=h'.objs.size->(∀b o,s.heap.get? b=some o->h'.get? b=some o)->vs.length=n->(∀j v,vs[j]?=some v->P j v)->Q vs { s with heap:=h',toks:=tk }):wpAny (model prog w) A (collect (.ref r)) Q E s:=by
 unfold collect;refine RO (Y2 (TF YC ?_));rw[S9 YD _];show wpAny _ A.in1 (newList [] >>= λl=>again (.builtin "list.__iadd__" ⟨[l,.ref r],[]⟩)) _ _ s;refine RO (UE ?_);have ZW:=K.there _ hok;have hS:(s.heap.push { cls:=.type "list",data:=.seq #[] }).get? s.heap.objs.size=some { cls:=.type "list",data:=.seq #[] }:=Si _ rfl;refine R1 ⟨Uc Wz _,yQ (s:={ s with heap:=s.heap.push { cls:=.type "list",data:=.seq #[] } }) K hh (K.keep _ _ hok λb _ o e=>RW _ e) _ (UI ZW.1) (UI ZW.2) _ hS hn λh' tk N' c' hk j! l!=>?_⟩;show wpAny _ A (load s.heap.objs.size >>= _) _ _ _;refine RO (wpAny_load j! (R1 ?_));exact hQ h' tk N'.toList (Uw (R7 j!)) (λb o e=>hk b o (Sa (R7 e)) (RW _ e)) (by rw[SM];exact l!.1) λj v e=>l!.2 j v (by rw[<- Tg];exact e)
theorem EN{T:String}{r d:Addr}{n:Nat}{P:Nat->Value->Prop}{OK:Heap->Prop}(K:KdlSrc prog w T r d n P OK){ks:AT}(hks:ks.length=n)(hP:∀ (j:Nat) (v:Value),P j v->∃ (k:Nat) (tk:Tok),ks[j]?=some k/\v=U5 (k:Int) tk){Q:Value->RV->Prop}(hh:A.handled=none)(hok:OK s.heap)(hn:n<64)
  (h:∀ (h':Heap) (tk:Nat) (d:Addr) (out:ZO) (c:Nat) (l:AT),WK out.toList (l.map λ(k:Nat)=>(k:Int))->l.Perm ks->l.Pairwise (·<=·)->s.heap.objs.size<=d->h'.get? d=some (seqObj "list" out c)->(∀b o,s.heap.get? b=some o->h'.get? b=some o)->Q (.ref d) { s with heap:=h',toks:=tk }) :
  wpAny (model prog w) A (call (.builtin "sorted") [.ref r]) Q E s:=by
 refine VZ Y8 YE YF (Zv _) ?_;k_upd;refine RO (Dh K (by simp[hh]) hok (by rw[SH];lia) λh1 tk1 vs kz k1 vl hv=>?_)
 have hI:WK vs (ks.map λ(k:Nat)=>(k:Int)):=by
  have go:∀ (vs:Z8) (ks:AT),vs.length=ks.length->(∀ (j:Nat) (v:Value),vs[j]?=some v->∃ (k:Nat) (tk:Tok),ks[j]?=some k/\v=U5 (k:Int) tk)->WK vs (ks.map λ(k:Nat)=>(k:Int)):=by
   intro vs
   induction vs with
   | nil =>
    intro ks hl _;cases ks with
    | nil=>exact .nil
    | cons _ _=>simp at hl
   | cons v vs ih =>
    intro ks hl hv;cases ks with
    | nil=>simp at hl
    | cons k ks =>
     obtain⟨k',tk,e1,e2⟩:=hv 0 v rfl;simp at e1;subst e1;subst e2;exact .cons _ _ (ih ks (by simpa using hl) λj v e=>by simpa using hv (j+1) v (by simpa using e))
  exact go vs ks (by lia) λj v e=>hP j v (hv j v e)
 refine RO (Wl ?_);have oL:(h1.push (seqObj "list" vs.toArray 0)).get? h1.objs.size=some (seqObj "list" vs.toArray 0):=Si _ rfl;refine RO (S2 (Uy Xz ⟨_,oL,rfl⟩ W9 (list_sort_tree oL hI (by lia) λout ns' a1 a2 a3=>⟨_,rfl,?_⟩) (Y3 _)))
 obtain⟨c,hc⟩:=sortedHeap_at (out:=out) oL;obtain⟨l,rfl,lp⟩:=rj a2;refine R1 ⟨_,rfl,h _ tk1 _ out c l a1 lp ?_ kz hc λb ob e=>?_⟩
 .rw[Vi]at a3;exact a3.imp λz=>by lia
 .have e1:=k1 _ _ e;rw[sortedHeap_old (Sa (R7 e1)) (by rw[TY];exact Td (R7 e1))]
  exact RW _ e1
end
def AL:List V->Hp->VK->Prop:=λxs H Q=>∃ (a:Addr) (kvs:Z2) (ks:AT),xs=[.ref a]/\H a=some (.dK kvs)/\kvs.map (·.1)=ks.map nk/\ks.length<64 /\
 ∀ (d:Addr) (l:AT),H d=none->l.Perm ks->l.Pairwise (·<=·)->Q (.ref d) (upd H d (.lst (aw l)))
theorem zB{X:Cx}(hc:X.calm=true):cR X (.builtin "sorted") AL:=by
 k_all;obtain⟨a,kvs,ks,rfl,hx,hk,P!,q⟩:=h;obtain⟨u,rfl,ru⟩:=vals1 r;cases(show u=SR a from ru);obtain⟨z,hd,vs,rel,dd⟩:=zV I.hok hx;obtain⟨ep,da⟩:=dd.dictAt;have kl:kvs.length=ks.length:=by have:=congrArg V4 hk;simpa using this
 have hl:=rel.length;refine EN (kdl_dict (knd:=bY X.prog X.w) (kvs:=vs) (ep:=ep) hd) (ks:=ks) (by lia) (λj v ⟨k,x,e,g!⟩=>?_) (I.ok.hd hc) da (by lia) λh' tk d out c l a1 a2 a3 ZZ ho g!=>?_
 .have jl:j<kvs.length:=by rw[hl];exact(RN.mp e).1
  obtain⟨q',hq,e1,r1⟩:=rel.get (RL jl);rw[e]at hq;cases hq;have kj:j<ks.length:=by lia
  have ek:kvs[j].1=nk ks[j]:=by
   have:=congrArg (λl=>l[j]?) hk;simp only[RY,RL jl,RL kj,TQ]at this;exact SI this
  have kr:=Ee g!;rw[show k=nk ks[j] from e1.symm.trans ek]at kr;obtain⟨t,et⟩:=(show RelV (.int (ks[j]:Int)) v from kr);exact⟨ks[j],t,RL kj,et⟩
 .have hn:H d=none:=I.hok.fresh ZZ;refine⟨.ref d,_,I.laid (o:=.lst (aw l)) g! ZZ ⟨?_,out.toList,c,?_,?_⟩,rfl,q d l hn a2 a3⟩
  .unfold aw;rw[RP,a2.length_eq];exact small (by lia)
  .rw[jb];exact mJ a1
  .simpa[seqObj] using ho
theorem F5{H:Hp}{Q:VK}{a:Addr}{kvs:Z2}{ks:AT}(h:H a=some (.dK kvs))(hk:kvs.map (·.1)=ks.map nk)(hl:ks.length<64)
  (q:∀ (d:Addr) (l:AT),H d=none->l.Perm ks->l.Pairwise (·<=·)->Q (.ref d) (upd H d (.lst (aw l)))):AL [.ref a] H Q:=⟨a,kvs,ks,rfl,h,hk,hl,q⟩
end L2
namespace L2
open PySem PySem.Spec PyProof.Rows
variable {f:Addr}{dsl sl:Array (ZS)}{h:Heap}{fr:AT}{N own:ZN}{n:Nat}{an dd od:ZR}{K:RM}{sc scope:Scope}{st:Stmt}{p1 p2 p3 p4 p5 qual x:Str}{mg:Z6}{fd:TC}
section
variable {oc kV dc pm cd ct:Value} 
theorem bd1(hb:∀u1:Value,bindArgs fd ⟨[u1],[]⟩=pure [(p1,u1)]:=by intros;rfl):Binds K fd [p1] []:=.all λus hl=>by obtain⟨u1,rfl⟩:=Et hl;exact hb _
def df1(X:K.In h)(G:h.Ns S4 mg)(a:UW K S4 x=some (some (.ref f)):=by k_is)(l:K.lookup f=some ⟨oc,od,.func (S1 x x (bD st) (bo st) (ah st) .none kV dc pm an cd ct),sl⟩:=by k_is)(c:TJ K cd x=true:=by k_is)(k:S8 K (.ref f)=true:=by k_is)
  (hb:∀u1:Value,bindArgs (S1 x x (bD st) (bo st) (ah st) .none kV dc pm an cd ct) ⟨[u1],[]⟩=pure [(p1,u1)]:=by intros;rfl):Df K mg x st [p1]:=⟨f,_,oP l c k,bd1 hb,UR X G a⟩
theorem bd2(hb:∀u1 u2:Value,bindArgs fd ⟨[u1,u2],[]⟩=pure [(p1,u1),(p2,u2)]:=by intros;rfl):Binds K fd [p1,p2] []:=.all λus hl=>by obtain⟨u1,u2,rfl⟩:=Ad hl;exact hb _ _
def df2(X:K.In h)(G:h.Ns S4 mg)(a:UW K S4 x=some (some (.ref f)):=by k_is)(l:K.lookup f=some ⟨oc,od,.func (S1 x x (bD st) (bo st) (ah st) .none kV dc pm an cd ct),sl⟩:=by k_is)(c:TJ K cd x=true:=by k_is)(k:S8 K (.ref f)=true:=by k_is)
  (hb:∀u1 u2:Value,bindArgs (S1 x x (bD st) (bo st) (ah st) .none kV dc pm an cd ct) ⟨[u1,u2],[]⟩=pure [(p1,u1),(p2,u2)]:=by intros;rfl):Df K mg x st [p1,p2]:=⟨f,_,oP l c k,bd2 hb,UR X G a⟩
theorem bd3(hb:∀u1 u2 u3:Value,bindArgs fd ⟨[u1,u2,u3],[]⟩=pure [(p1,u1),(p2,u2),(p3,u3)]:=by intros;rfl):Binds K fd [p1,p2,p3] []:=.all λus hl=>by obtain⟨u1,u2,u3,rfl⟩:=Ck hl;exact hb _ _ _
def df3(X:K.In h)(G:h.Ns S4 mg)(a:UW K S4 x=some (some (.ref f)):=by k_is)(l:K.lookup f=some ⟨oc,od,.func (S1 x x (bD st) (bo st) (ah st) .none kV dc pm an cd ct),sl⟩:=by k_is)(c:TJ K cd x=true:=by k_is)(k:S8 K (.ref f)=true:=by k_is)
  (hb:∀u1 u2 u3:Value,bindArgs (S1 x x (bD st) (bo st) (ah st) .none kV dc pm an cd ct) ⟨[u1,u2,u3],[]⟩=pure [(p1,u1),(p2,u2),(p3,u3)]:=by intros;rfl):Df K mg x st [p1,p2,p3]:=⟨f,_,oP l c k,bd3 hb,UR X G a⟩
theorem bd4(hb:∀u1 u2 u3 u4:Value,bindArgs fd ⟨[u1,u2,u3,u4],[]⟩=pure [(p1,u1),(p2,u2),(p3,u3),(p4,u4)]:=by intros;rfl):Binds K fd [p1,p2,p3,p4] []:=.all λus hl=>by obtain⟨u1,u2,u3,u4,rfl⟩:=Bt hl;exact hb _ _ _ _
def df4(X:K.In h)(G:h.Ns S4 mg)(a:UW K S4 x=some (some (.ref f)):=by k_is)(l:K.lookup f=some ⟨oc,od,.func (S1 x x (bD st) (bo st) (ah st) .none kV dc pm an cd ct),sl⟩:=by k_is)(c:TJ K cd x=true:=by k_is)(k:S8 K (.ref f)=true:=by k_is)
  (hb:∀u1 u2 u3 u4:Value,bindArgs (S1 x x (bD st) (bo st) (ah st) .none kV dc pm an cd ct) ⟨[u1,u2,u3,u4],[]⟩=pure [(p1,u1),(p2,u2),(p3,u3),(p4,u4)]:=by intros;rfl):Df K mg x st [p1,p2,p3,p4]:=⟨f,_,oP l c k,bd4 hb,UR X G a⟩
theorem bd5(hb:∀u1 u2 u3 u4 u5:Value,bindArgs fd ⟨[u1,u2,u3,u4,u5],[]⟩=pure [(p1,u1),(p2,u2),(p3,u3),(p4,u4),(p5,u5)]:=by intros;rfl):Binds K fd [p1,p2,p3,p4,p5] []:=.all λus hl=>by obtain⟨u1,u2,u3,u4,u5,rfl⟩:=OB hl;exact hb _ _ _ _ _
def df5(X:K.In h)(G:h.Ns S4 mg)(a:UW K S4 x=some (some (.ref f)):=by k_is)(l:K.lookup f=some ⟨oc,od,.func (S1 x x (bD st) (bo st) (ah st) .none kV dc pm an cd ct),sl⟩:=by k_is)(c:TJ K cd x=true:=by k_is)(k:S8 K (.ref f)=true:=by k_is)
  (hb:∀u1 u2 u3 u4 u5:Value,bindArgs (S1 x x (bD st) (bo st) (ah st) .none kV dc pm an cd ct) ⟨[u1,u2,u3,u4,u5],[]⟩=pure [(p1,u1),(p2,u2),(p3,u3),(p4,u4),(p5,u5)]:=by intros;rfl):Df K mg x st [p1,p2,p3,p4,p5]:=⟨f,_,oP l c k,bd5 hb,UR X G a⟩
end
section
variable {D:Addr}{oc kV dc pm cd ct dcl:Value} 
def ToD(x qual:Str)(st:Stmt)(args:Args)(bs:List (Str×Value)):Prop:=∀ (D:Addr) (kV doc pm:Value) (an:ZR) (cdv ct:Value),∃k:Option (ZO)->Sem (List (Str×Value)),bindArgs (S1 x qual (bD st) (bo st) (ah st) (.ref D) kV doc pm an cdv ct) args=seqItems? (.ref D) >>= k/\k (some #[.none])=pure bs
theorem bc2(F:eS K x qual st f fd)(hb:∀u1 u2:Value,ToD x qual st ⟨[u1,u2],[]⟩ [(p1,u1),(p2,u2)]:=by intros;intro _ _ _ _ _ _ _;exact⟨_,rfl,rfl⟩):Binds K fd [p1,p2] []:=λs us KI hl=>by rw[VH]at hl ⊢;obtain⟨u1,u2,rfl⟩:=Ad hl;exact F.to KI (hb _ _)
theorem bn2(F:eS K x qual st f fd)(hb:∀u1:Value,ToD x qual st ⟨[u1],[]⟩ [(p1,u1),(p2,.none)]:=by intros;intro _ _ _ _ _ _ _;exact⟨_,rfl,rfl⟩):Binds K fd [p1,p2] [.none]:=lA rfl λs us KI hl=>by obtain⟨u1,rfl⟩:=Et hl;exact F.to KI (hb _)
theorem bk2(F:eS K x qual st f fd)(hb:∀u1 u2:Value,ToD x qual st ⟨[u1],[(p2,u2)]⟩ [(p1,u1),(p2,u2)]:=by intros;intro _ _ _ _ _ _ _;exact⟨_,rfl,rfl⟩):oQ K fd [p1,p2] [p2] (byName 1) (byName 1):=lr rfl λs us w KI hl=>by obtain⟨u1,rfl⟩:=Et hl;exact F.to KI (hb _ w)
def dd2(X:K.In h)(G:h.Ns S4 mg)(a:UW K S4 x=some (some (.ref f)):=by k_is)(l:K.lookup f=some ⟨oc,od,.func (S1 x x (bD st) (bo st) (ah st) (.ref D) kV dc pm an cd ct),sl⟩:=by k_is)(e:K.lookup D=some ⟨dcl,dd,.seq #[.none] n,dsl⟩:=by k_is)(c:TJ K cd x=true:=by k_is)(k:S8 K (.ref f)=true:=by k_is)
  (ha:∀u1 u2:Value,ToD x x st ⟨[u1,u2],[]⟩ [(p1,u1),(p2,u2)]:=by intros;intro _ _ _ _ _ _ _;exact⟨_,rfl,rfl⟩) (hb:∀u1:Value,ToD x x st ⟨[u1],[]⟩ [(p1,u1),(p2,.none)]:=by intros;intro _ _ _ _ _ _ _;exact⟨_,rfl,rfl⟩) (hc:∀u1 u2:Value,ToD x x st ⟨[u1],[(p2,u2)]⟩ [(p1,u1),(p2,u2)]:=by intros;intro _ _ _ _ _ _ _;exact⟨_,rfl,rfl⟩):DfD K mg x st [p1,p2] p2 1:=⟨f,_,cQ l e c k,bc2 (cQ l e c k) ha,bn2 (cQ l e c k) hb,bk2 (cQ l e c k) hc,UR X G a⟩
theorem bc3(F:eS K x qual st f fd)(hb:∀u1 u2 u3:Value,ToD x qual st ⟨[u1,u2,u3],[]⟩ [(p1,u1),(p2,u2),(p3,u3)]:=by intros;intro _ _ _ _ _ _ _;exact⟨_,rfl,rfl⟩):Binds K fd [p1,p2,p3] []:=λs us KI hl=>by rw[VH]at hl ⊢;obtain⟨u1,u2,u3,rfl⟩:=Ck hl;exact F.to KI (hb _ _ _)
theorem bn3(F:eS K x qual st f fd)(hb:∀u1 u2:Value,ToD x qual st ⟨[u1,u2],[]⟩ [(p1,u1),(p2,u2),(p3,.none)]:=by intros;intro _ _ _ _ _ _ _;exact⟨_,rfl,rfl⟩):Binds K fd [p1,p2,p3] [.none]:=lA rfl λs us KI hl=>by obtain⟨u1,u2,rfl⟩:=Ad hl;exact F.to KI (hb _ _)
theorem bk3(F:eS K x qual st f fd)(hb:∀u1 u2 u3:Value,ToD x qual st ⟨[u1,u2],[(p3,u3)]⟩ [(p1,u1),(p2,u2),(p3,u3)]:=by intros;intro _ _ _ _ _ _ _;exact⟨_,rfl,rfl⟩):oQ K fd [p1,p2,p3] [p3] (byName 2) (byName 2):=lr rfl λs us w KI hl=>by obtain⟨u1,u2,rfl⟩:=Ad hl;exact F.to KI (hb _ _ w)
def dd3(X:K.In h)(G:h.Ns S4 mg)(a:UW K S4 x=some (some (.ref f)):=by k_is)(l:K.lookup f=some ⟨oc,od,.func (S1 x x (bD st) (bo st) (ah st) (.ref D) kV dc pm an cd ct),sl⟩:=by k_is)(e:K.lookup D=some ⟨dcl,dd,.seq #[.none] n,dsl⟩:=by k_is)(c:TJ K cd x=true:=by k_is)(k:S8 K (.ref f)=true:=by k_is)
  (ha:∀u1 u2 u3:Value,ToD x x st ⟨[u1,u2,u3],[]⟩ [(p1,u1),(p2,u2),(p3,u3)]:=by intros;intro _ _ _ _ _ _ _;exact⟨_,rfl,rfl⟩) (hb:∀u1 u2:Value,ToD x x st ⟨[u1,u2],[]⟩ [(p1,u1),(p2,u2),(p3,.none)]:=by intros;intro _ _ _ _ _ _ _;exact⟨_,rfl,rfl⟩) (hc:∀u1 u2 u3:Value,ToD x x st ⟨[u1,u2],[(p3,u3)]⟩ [(p1,u1),(p2,u2),(p3,u3)]:=by intros;intro _ _ _ _ _ _ _;exact⟨_,rfl,rfl⟩):DfD K mg x st [p1,p2,p3] p3 2:=⟨f,_,cQ l e c k,bc3 (cQ l e c k) ha,bn3 (cQ l e c k) hb,bk3 (cQ l e c k) hc,UR X G a⟩
theorem bc4(F:eS K x qual st f fd)(hb:∀u1 u2 u3 u4:Value,ToD x qual st ⟨[u1,u2,u3,u4],[]⟩ [(p1,u1),(p2,u2),(p3,u3),(p4,u4)]:=by intros;intro _ _ _ _ _ _ _;exact⟨_,rfl,rfl⟩):Binds K fd [p1,p2,p3,p4] []:=λs us KI hl=>by rw[VH]at hl ⊢;obtain⟨u1,u2,u3,u4,rfl⟩:=Bt hl;exact F.to KI (hb _ _ _ _)
theorem bn4(F:eS K x qual st f fd)(hb:∀u1 u2 u3:Value,ToD x qual st ⟨[u1,u2,u3],[]⟩ [(p1,u1),(p2,u2),(p3,u3),(p4,.none)]:=by intros;intro _ _ _ _ _ _ _;exact⟨_,rfl,rfl⟩):Binds K fd [p1,p2,p3,p4] [.none]:=lA rfl λs us KI hl=>by obtain⟨u1,u2,u3,rfl⟩:=Ck hl;exact F.to KI (hb _ _ _)
theorem bk4(F:eS K x qual st f fd)(hb:∀u1 u2 u3 u4:Value,ToD x qual st ⟨[u1,u2,u3],[(p4,u4)]⟩ [(p1,u1),(p2,u2),(p3,u3),(p4,u4)]:=by intros;intro _ _ _ _ _ _ _;exact⟨_,rfl,rfl⟩):oQ K fd [p1,p2,p3,p4] [p4] (byName 3) (byName 3):=lr rfl λs us w KI hl=>by obtain⟨u1,u2,u3,rfl⟩:=Ck hl;exact F.to KI (hb _ _ _ w)
def dd4(X:K.In h)(G:h.Ns S4 mg)(a:UW K S4 x=some (some (.ref f)):=by k_is)(l:K.lookup f=some ⟨oc,od,.func (S1 x x (bD st) (bo st) (ah st) (.ref D) kV dc pm an cd ct),sl⟩:=by k_is)(e:K.lookup D=some ⟨dcl,dd,.seq #[.none] n,dsl⟩:=by k_is)(c:TJ K cd x=true:=by k_is)(k:S8 K (.ref f)=true:=by k_is)
  (ha:∀u1 u2 u3 u4:Value,ToD x x st ⟨[u1,u2,u3,u4],[]⟩ [(p1,u1),(p2,u2),(p3,u3),(p4,u4)]:=by intros;intro _ _ _ _ _ _ _;exact⟨_,rfl,rfl⟩) (hb:∀u1 u2 u3:Value,ToD x x st ⟨[u1,u2,u3],[]⟩ [(p1,u1),(p2,u2),(p3,u3),(p4,.none)]:=by intros;intro _ _ _ _ _ _ _;exact⟨_,rfl,rfl⟩) (hc:∀u1 u2 u3 u4:Value,ToD x x st ⟨[u1,u2,u3],[(p4,u4)]⟩ [(p1,u1),(p2,u2),(p3,u3),(p4,u4)]:=by intros;intro _ _ _ _ _ _ _;exact⟨_,rfl,rfl⟩):DfD K mg x st [p1,p2,p3,p4] p4 3:=⟨f,_,cQ l e c k,bc4 (cQ l e c k) ha,bn4 (cQ l e c k) hb,bk4 (cQ l e c k) hc,UR X G a⟩
theorem bc5(F:eS K x qual st f fd)(hb:∀u1 u2 u3 u4 u5:Value,ToD x qual st ⟨[u1,u2,u3,u4,u5],[]⟩ [(p1,u1),(p2,u2),(p3,u3),(p4,u4),(p5,u5)]:=by intros;intro _ _ _ _ _ _ _;exact⟨_,rfl,rfl⟩):Binds K fd [p1,p2,p3,p4,p5] []:=λs us KI hl=>by rw[VH]at hl ⊢;obtain⟨u1,u2,u3,u4,u5,rfl⟩:=OB hl;exact F.to KI (hb _ _ _ _ _)
theorem bn5(F:eS K x qual st f fd)(hb:∀u1 u2 u3 u4:Value,ToD x qual st ⟨[u1,u2,u3,u4],[]⟩ [(p1,u1),(p2,u2),(p3,u3),(p4,u4),(p5,.none)]:=by intros;intro _ _ _ _ _ _ _;exact⟨_,rfl,rfl⟩):Binds K fd [p1,p2,p3,p4,p5] [.none]:=lA rfl λs us KI hl=>by obtain⟨u1,u2,u3,u4,rfl⟩:=Bt hl;exact F.to KI (hb _ _ _ _)
theorem bk5(F:eS K x qual st f fd)(hb:∀u1 u2 u3 u4 u5:Value,ToD x qual st ⟨[u1,u2,u3,u4],[(p5,u5)]⟩ [(p1,u1),(p2,u2),(p3,u3),(p4,u4),(p5,u5)]:=by intros;intro _ _ _ _ _ _ _;exact⟨_,rfl,rfl⟩):oQ K fd [p1,p2,p3,p4,p5] [p5] (byName 4) (byName 4):=lr rfl λs us w KI hl=>by obtain⟨u1,u2,u3,u4,rfl⟩:=Bt hl;exact F.to KI (hb _ _ _ _ w)
def dd5(X:K.In h)(G:h.Ns S4 mg)(a:UW K S4 x=some (some (.ref f)):=by k_is)(l:K.lookup f=some ⟨oc,od,.func (S1 x x (bD st) (bo st) (ah st) (.ref D) kV dc pm an cd ct),sl⟩:=by k_is)(e:K.lookup D=some ⟨dcl,dd,.seq #[.none] n,dsl⟩:=by k_is)(c:TJ K cd x=true:=by k_is)(k:S8 K (.ref f)=true:=by k_is)
  (ha:∀u1 u2 u3 u4 u5:Value,ToD x x st ⟨[u1,u2,u3,u4,u5],[]⟩ [(p1,u1),(p2,u2),(p3,u3),(p4,u4),(p5,u5)]:=by intros;intro _ _ _ _ _ _ _;exact⟨_,rfl,rfl⟩) (hb:∀u1 u2 u3 u4:Value,ToD x x st ⟨[u1,u2,u3,u4],[]⟩ [(p1,u1),(p2,u2),(p3,u3),(p4,u4),(p5,.none)]:=by intros;intro _ _ _ _ _ _ _;exact⟨_,rfl,rfl⟩) (hc:∀u1 u2 u3 u4 u5:Value,ToD x x st ⟨[u1,u2,u3,u4],[(p5,u5)]⟩ [(p1,u1),(p2,u2),(p3,u3),(p4,u4),(p5,u5)]:=by intros;intro _ _ _ _ _ _ _;exact⟨_,rfl,rfl⟩):DfD K mg x st [p1,p2,p3,p4,p5] p5 4:=⟨f,_,cQ l e c k,bc5 (cQ l e c k) ha,bn5 (cQ l e c k) hb,bk5 (cQ l e c k) hc,UR X G a⟩
end
section
variable {C D:Addr}{oc kV dc pm cd ct dcl:Value}{v:Value} 
theorem fnk(l:K.lookup f=some ⟨oc,od,.func (S1 x qual (bD st) (bo st) (ah st) .none kV dc pm an cd ct),sl⟩:=by k_is)(c:TJ K cd qual=true:=by k_is)(k:S8 K (.ref f)=true:=by k_is) :
  Fun K x qual st f (S1 x qual (bD st) (bo st) (ah st) .none kV dc pm an cd ct):=oP l c k
theorem fDk(l:K.lookup f=some ⟨oc,od,.func (S1 x qual (bD st) (bo st) (ah st) (.ref D) kV dc pm an cd ct),sl⟩:=by k_is)(e:K.lookup D=some ⟨dcl,dd,.seq #[.none] n,dsl⟩:=by k_is)(c:TJ K cd qual=true:=by k_is)(k:S8 K (.ref f)=true:=by k_is) :
  eS K x qual st f (S1 x qual (bD st) (bo st) (ah st) (.ref D) kV dc pm an cd ct):=cQ l e c k
theorem mgk(X:K.In h)(G:h.Ns S4 mg)(a:UW K S4 x=some (some v):=by k_is):mg x=some v:=UR X G a
theorem mgz(X:K.In h)(G:h.Ns S4 mg)(a:UW K S4 x=some none:=by k_is):mg x=none:=PySem.W.mg_none_of X G a
theorem BK(a:V1 K C Str.empty=true:=by k_is)(b:Wt K C=true:=by k_is)(c:XE K C=true:=by k_is)(d:T5 K (.ref C) "__setattr__" = some (some (.builtin "object.__setattr__")):=by k_is):Cls K C:=⟨a,b,c,d⟩
theorem mkk(a:Yt K C=true:=by k_is)(b:T5 K (.ref C) "__init__" = some (some (.ref f)):=by k_is)(c:Xk K (.ref f)=true:=by k_is)(d:S8 K (.ref C)=true:=by k_is):Mk K C f:=⟨a,b,c,d⟩
theorem zO(a:T5 K (.ref C) x=some (some (.ref f)):=by k_is)(b:Xk K (.ref f)=true:=by k_is)(c:S8 K (.ref f)=true:=by k_is):Meth K C x f:=⟨a,b,c⟩
theorem MP(a:PySem.W.specialIn K (.ref C) "__getattribute__" = some (some (.builtin "type.__getattribute__")):=by k_is)(b:PySem.W.readsIn K C (.type "type")=true:=by k_is)(c:PySem.W.findCls K (.ref C) (.type "type") x=some (.val (.ref f)):=by k_is)(d:S8 K (.ref f)=true:=by k_is):Ek K C x f:=⟨a,b,c,d⟩
theorem ee(a:T5 K (.ref C) x=some none:=by k_is):bG K C x:=a
end
theorem fsc{P:ZN}(h1:sc.kind=.function:=by rfl)(h2:sc.isCoroutine=false:=by rfl)(h3:sc.isGenerator=false:=by rfl)(h5:N.take P.length=P:=by rfl)(h:N.Nodup/\(∀x∈P,sc.names.lookup x=some .local\/sc.names.lookup x=some .cell)/\(∀y∈sc.names,y.2≠.free):=by trivial):av N P sc:=⟨h1,h2,h3,h.1,h5,h.2.1,h.2.2⟩
theorem bX(h1:scope.kind=.function:=by rfl)(h:(∀y∈scope.names,y.2=.cell->(y.1,Ua)∉scope.names)/\(∀y∈scope.names,y.2=.local->scope.names.lookup y.1=some .local)/\(∀y∈scope.names,y.2=.free->sc.names.lookup y.1=some .cell\/sc.names.lookup y.1=some .free)/\(∀i∈fr,(N[i]?.bind λx=>scope.names.lookup x)=some .free)/\(pR own fr N).Nodup:=by trivial):aJ sc N scope own fr:=⟨h1,h.1,h.2.1,h.2.2.1,h.2.2.2.1,h.2.2.2.2⟩
section
variable {X:Cx}
end
end L2
namespace L2
open PySem PySem.W PySem.Spec PyProof.Rows
section
variable {X:Cx}{x y:Str}{st:Stmt}{ps:ZN}{k j:Nat}{sp:Sp}{p pos:Pos}{e:Expr}{es:Z9}{t:TA}{E:XK}
end
end L2
namespace L2
open PySem PySem.W PyProof.Rows PySem.SeqAt
variable {items ZX:ZO}{dh:Z0}{s:RV}{A:S7}
open AutoSeq1 (wpAny_loadPart')
open MeetsSeq MeetsSeq2 MeetsSeq3
def rL(A:S7)(s:RV)(y x:Value)(b:Bool):Prop :=
 ∀ (prog:Sj) (w:World) (E:Value->RV->Prop) (Q:Value->RV->Prop),Q (.bool b) s->wpAny (model prog w) A (richCompare .Lt y x) Q E s
def kM{α:Type}[DecidableEq α](lt:α->α->Bool):List α->List α->Bool
 | [],[]=>false
 | [],_ :: _=>true
 | _ :: _,[]=>false
 | a :: as,b :: bs=>if a=b then kM lt as bs else lt a b
section
variable {α:Type}[DecidableEq α]{lt:α->α->Bool}
structure zI(lt:α->α->Bool)(A:S7)(s:RV)(items ZX:ZO)(as bs:List α):Prop where
 eq:∀j (h1:j<items.size) (h2:j<ZX.size) a b,as[j]?=some a->bs[j]?=some b->EqAt A s items[j] ZX[j] (decide (a=b))
 lt:∀j (h1:j<items.size) (h2:j<ZX.size) a b,as[j]?=some a->bs[j]?=some b->a≠b->rL A s items[j] ZX[j] (lt a b)
theorem IU(l b:Addr)(items ZX:ZO)(n n2:Nat)(dd dd2:ZR)(sl sl2:Array (ZS))(as bs:List α)(lx:as.length=items.size)(ly:bs.length=ZX.size)(k:Nat) :
  ∀i:Nat,items.size - i=k->i<=items.size->i<=ZX.size->Meets (Vb.«list.__eq__.loop» ⟨[.ref l,.ref b,rawInt i,rawInt 0],[]⟩)
   (λA R s=>s.heap.get? l=some { cls:=.type "list",dict:=dd,data:=.seq items n,slots:=sl }/\s.heap.get? b=some { cls:=.type "list",dict:=dd2,data:=.seq ZX n2,slots:=sl2 } /\
    zI lt A.in1 s items ZX as bs/\R (.ok (.ret (.bool (kM lt (as.drop i) (bs.drop i))))) s):=by
 induction k with
 | zero =>
  intro i hk h1 h2 prog w A R s h;obtain⟨hp,g,d,tk,os⟩:=s;obtain⟨hl,hb,hc,h⟩:=h
  wp_walk using T4 hl,T4 hb
  have hi1:items[((i:Nat):Int).toNat]?=none:=by simp;lia
  rw[hi1];have hd:as.drop i=[]:=by simp;lia
  rw[hd]at h;have e:kM lt [] (bs.drop i)=decide (items.size<ZX.size):=by
   rcases Sb i bs.length with c|c
   .rw[Va c];show true=_;rw[eq_comm,decide_eq_true_iff];lia
   .rw[List.drop_of_length_le c];show false=_;rw[eq_comm,decide_eq_false_iff_not];lia
  rw[e]at h
  wp_walk using T4 hl,T4 hb
  exact h
 | succ k ih =>
  intro i hk h1 h2 prog w A R s h;obtain⟨hp,g,d,tk,os⟩:=s;obtain⟨hl,hb,hcm,h⟩:=h
  wp_walk using T4 hl,T4 hb
  have ZW:i<items.size:=by lia
  have hi1:items[((i:Nat):Int).toNat]?=some items[i]:=by simp[ZW]
  have hdx:as.drop i=as[i] :: as.drop (i+1):=Va (by lia)
  rcases Sb i ZX.size with hlt2|hge2
  .have hi2:ZX[((i:Nat):Int).toNat]?=some ZX[i]:=by simp[hlt2]
   have hdy:bs.drop i=bs[i] :: bs.drop (i+1):=Va (by lia)
   have hc:((i:Int)+1)=((i+1:Nat):Int):=by push_cast;rfl
   have ga:as[i]?=some as[i]:=RL (by lia)
   have gb:bs[i]?=some bs[i]:=RL (by lia)
   rw[hi1,hi2];rw[hdx,hdy]at h;refine RO (hcm.eq i ZW hlt2 _ _ ga gb prog w _ _ ?_)
   by_cases e:as[i]=bs[i]
   .rw[decide_eq_true e];have h':R (.ok (.ret (.bool (kM lt (as.drop (i+1)) (bs.drop (i+1)))))) ⟨hp,g,d,tk,os⟩:=by
     simp only[kM,if_pos e]at h;exact h
    wp_walk
    rw[hc];exact⟨Uc plain_eq_loop _,TF entry_eq_loop (by
     rw[S9 plain_eq_loop _];exact ih (i+1) (by lia) (by lia) (by lia) prog w A R _ ⟨hl,hb,hcm,h'⟩)⟩
   .rw[decide_eq_false e];have h':R (.ok (.ret (.bool (lt as[i] bs[i])))) ⟨hp,g,d,tk,os⟩:=by
     simp only[kM,if_neg e]at h;exact h
    wp_walk using T4 hl,T4 hb
    rw[hi1,hi2];refine RO (hcm.lt i ZW hlt2 _ _ ga gb e prog w _ _ (R1 ?_));exact h'
  .have hi2:ZX[((i:Nat):Int).toNat]?=none:=by simp;lia
   rw[hi1,hi2];have hdy:bs.drop i=[]:=by simp;lia
   rw[hdx,hdy]at h;have e:decide (items.size<ZX.size)=false:=by
    rw[decide_eq_false_iff_not];lia
   wp_walk using T4 hl,T4 hb
   show R (.ok (.ret (.bool (decide (items.size<ZX.size))))) _;rw[e];exact h
theorem Bg(l b:Addr)(items ZX:ZO)(n n2:Nat)(dd dd2:ZR)(sl sl2:Array (ZS))(as bs:List α)(lx:as.length=items.size)(ly:bs.length=ZX.size) :
  Meets (Vb.«list.__lt__» ⟨[.ref l,.ref b],[]⟩)
   (λA R s=>s.heap.get? l=some { cls:=.type "list",dict:=dd,data:=.seq items n,slots:=sl }/\s.heap.get? b=some { cls:=.type "list",dict:=dd2,data:=.seq ZX n2,slots:=sl2 } /\
    zI lt A.in1 s items ZX as bs/\R (.ok (.ret (.bool (kM lt as bs)))) s):=by
 intro prog w A R s h;obtain⟨hp,g,d,tk,os⟩:=s;obtain⟨hl,hb,hc,h⟩:=h;have f3:=AutoSeq1.sub_list_list
 wp_walk using T4 hl,T4 hb
 exact⟨Uc plain_eq_loop _,TF entry_eq_loop (by
  rw[S9 plain_eq_loop _];exact IU l b items ZX n n2 dd dd2 sl sl2 as bs lx ly _ 0 rfl (SO _) (SO _) prog w A R _ ⟨hl,hb,hc,by simpa using h⟩)⟩
theorem rL.lists{l b:Addr}{as bs:List α}(hl:s.heap.IsList l items)(hb:s.heap.IsList b ZX)(lx:as.length=items.size)(ly:bs.length=ZX.size)(hu:A.units<cLine)(hc:zI lt A.in1 s items ZX as bs):rL A s (.ref l) (.ref b) (kM lt as bs):=λprog w E Q h=>by
 obtain⟨⟨cls,dd,data,sl⟩,ho,q!,n,hd⟩:=id hl;obtain⟨⟨cls2,dd2,data2,sl2⟩,X!,hc2,n2,hd2⟩:=id hb;simp only at q! hd hc2 hd2;subst q! hd hc2 hd2;exact Wq (op:=.Lt) ⟨_,ho,rfl⟩ ⟨_,X!,rfl⟩ Y4 F.entry_list_lt (F.args_list_lt_2 _ _) (Bg l b items ZX n n2 dd dd2 sl sl2 as bs lx ly)
  ⟨ho,X!,hc,show YQ (kM lt as bs)≠YV/\Q (.bool (kM lt as bs)) s from ⟨(λx=>nomatch x),h⟩⟩ hu
end
class cT(α:Type)[Rep α][DecidableEq α][bf α] where
 lt:α->α->Bool
 rc:∀ {X:Cx} {dh:Z0} {σ:St} {H:Hp} {s:RV} {A:S7} {x y:V} {u v:Value} {a b:α},Inv X dh σ H s->At X.K H x a->At X.K H y b->RelV x u->RelV y v->A.units+bf.depth α<cLine->rL A s u v (lt a b)
instance:cT Int where
 lt:=λa b=>decide (a<b)
 rc:=λ{X dh σ H s A x y u v a b} _ hx hy ru rv _ prog w E Q h=>by
  cases hx;cases hy;obtain⟨t,rfl⟩:∃t,u=.int a t:=ru;obtain⟨t',rfl⟩:∃t,v=.int b t:=rv;exact Ym (Ww _ a t) (Ww _ b t') slot_int_lt (call_int_lt ⟨nofun,h⟩)
theorem AX{X:Cx}{σ:St}{H:Hp}{α:Type}[Rep α][DecidableEq α][bf α][cT α]{p q:Addr}{xs ys:Z7}{as bs:List α}
  (I:Inv X dh σ H s) (h1:SqL X.K H p xs) (r1:Tb (Rep.is X.K H) xs as) (h2:SqL X.K H q ys) (r2:Tb (Rep.is X.K H) ys bs) (hu:A.units+(bf.depth α+1)<cLine) :
  ∃ZV ZY:Z8,s.heap.IsList p ZV.toArray/\s.heap.IsList q ZY.toArray/\as.length=ZV.toArray.size/\bs.length=ZY.toArray.size/\zI cT.lt A.in1 s ZV.toArray ZY.toArray as bs:=by
 walk_at "123";have key:∀j (k1:j<ZV.toArray.size) (k2:j<ZY.toArray.size) a b,as[j]?=some a->bs[j]?=some b->∃x y,At X.K H x a/\At X.K H y b/\RelV x ZV.toArray[j]/\RelV y ZY.toArray[j]:=λj k1 k2 a b ha hb=>by
  have k1':j<ZV.length:=by simpa using k1
  have k2':j<ZY.length:=by simpa using k2
  have hx:j<xs.length:=by lia
  have hy:j<ys.length:=by lia
  obtain⟨u,hu1,ru⟩:=v1.get (i:=j) (x:=xs[j]) (by simp[hx])
  obtain⟨v,hv1,rv⟩:=v2.get (i:=j) (x:=ys[j]) (by simp[hy])
  obtain⟨a',R!,ra⟩:=Paired.getL r1 (i:=j) (a:=xs[j]) (by simp[hx])
  obtain⟨b',A',rb⟩:=Paired.getL r2 (i:=j) (a:=ys[j]) (by simp[hy])
  rw[ha]at R!;rw[hb]at A';cases R!;cases A';have eu:ZV.toArray[j]=u:=by
   have:ZV[j]?=some ZV[j]:=by simp[k1']
   rw[this]at hu1
   simpa using hu1
  have ev:ZY.toArray[j]=v:=by
   have:ZY[j]?=some ZY[j]:=by simp[k2']
   rw[this]at hv1
   simpa using hv1
  rw[eu,ev];exact⟨_,_,ra,rb,ru,rv⟩
 refine⟨ZV,ZY,p1.isList,p2.isList,by simp;lia,by simp;lia,λj k1 k2 a b ha hb=>?_,λj k1 k2 a b ha hb _=>?_⟩
 .obtain⟨x,y,ra,rb,ru,rv⟩:=key j k1 k2 a b ha hb;exact bf.eq (A:=A.in1) I ra rb ru rv (uj hu)
 .obtain⟨x,y,ra,rb,ru,rv⟩:=key j k1 k2 a b ha hb;exact cT.rc (A:=A.in1) I ra rb ru rv (uj hu)
instance {α:Type}[Rep α][DecidableEq α][bf α][cT α]:cT (List α) where
 lt:=kM cT.lt
 rc:=λ{X dh σ H s A x y u v a b} I hx hy ru rv hu=>by
  walk_at "126";obtain⟨ZV,ZY,l1,l2,e1,e2,hc⟩:=AX (A:=A) I h1 r1 h2 r2 hu;exact rL.lists l1 l2 e1 e2 (by lia) hc
end L2
namespace L2
def ltP{α β:Type}[DecidableEq α][DecidableEq β](lt:α->α->Bool)(lt':β->β->Bool)(x y:α×β):Bool:=if x.1=y.1 then (if x.2=y.2 then false else lt' x.2 y.2) else lt x.1 y.1
end L2
namespace L2
open PySem PySem.W PySem.Spec PyProof.Rows
variable {a:Addr}{Q:Bool->RV->Prop}{X:Cx}{H:Hp}{dh:Z0}{vs:Z8}{s:RV}{σ:St}{u:Value}{E:Value->RV->Prop}{P:ZD->RV->Prop}
section
abbrev Cx.in2(X:Cx):Cx:={ X with A:=X.A.in1.in1,xe:=λ_ _=>False }
theorem Cx.Ok.in2(ok:X.Ok):X.in2.Ok :=
 ⟨ok.mod,ok.kind,ok.glob,ok.blt,ok.above,ok.inj,ok.has,ok.cab,ok.hd,ok.frames,ok.stk,ok.exf,ok.bs,ok.bsz,ok.tQ,ok.uf,ok.jf,ok.frf⟩
theorem Cx.Ok.JV(ok:X.in2.Ok):X.Ok :=
 ⟨ok.mod,ok.kind,ok.glob,ok.blt,ok.above,ok.inj,ok.has,ok.cab,ok.hd,ok.frames,ok.stk,ok.exf,ok.bs,ok.bsz,ok.tQ,ok.uf,ok.jf,ok.frf⟩
theorem Inv.in2(I:Inv X dh σ H s):Inv X.in2 dh σ H s:=⟨I.ok.in2,I.os,I.bare,I.base,I.loc,I.cell,I.free,I.gG,I.pin,I.hok,I.len⟩
theorem Inv.JV(I:Inv X.in2 dh σ H s):Inv X dh σ H s:=⟨I.ok.JV,I.os,I.bare,I.base,I.loc,I.cell,I.free,I.gG,I.pin,I.hok,I.len⟩
structure nM(X:Cx)(dh:Z0)(a:Addr):Prop where
 ab:X.s₀.heap.objs.size<=a
 nl:a≠X.env.locals
 nc:∀x c,X.env.cells.lookup x=some c->c≠a
 px:∀p∈X.pn++dh,p.1≠a
 nf:a∉X.fs
theorem Inv.MO(I:Inv X dh σ H s)(h:s.heap.objs.size<=a):nM X dh a :=
 ⟨SA I.sz h,UI (Su I.lt h),λx c e=>by
  obtain⟨v,o,ho,_⟩:=I.cell x c e;exact Sa (Su (R7 ho) h),λp hp=>Sa (Su (R7 (I.pin p hp).1) h),I.NK h⟩
theorem Inv.adopt{x:Addr}{o:HO}(I:Inv X dh σ H s)(fx:H x=none)(m:nM X dh x)(new:cu X.prog X.w (upd H x o) s.heap x o):Inv X dh σ (upd H x o) s:=by
 have nn:∀b u,H b=some u->b≠x:=λb u e z=>by rw[z,fx]at e;cases e
 refine⟨I.ok,I.os,I.bare,⟨I.base.keep,I.base.slot,λb ob e n hx=>?_,I.base.there,λb xs e=>?_,λb ob u e=>?_,λb ps e=>?_⟩,I.loc,I.cell,?_,λy c e=>?_,λp hp=>?_,λb u e=>?_,I.len⟩
 .rw[ak (Sa (Su (R7 e) m.ab))];exact I.base.free b ob e n hx
 .have q:=I.base.ph b xs e;rw[ak (nn _ _ q)];exact q
 .have q:=I.base.nV b ob u e;rw[ak (nn _ _ q)];exact q
 .obtain⟨m,q⟩:=I.base.pD b ps e;exact⟨m,by rw[ak (nn _ _ q)];exact q⟩
 .rw[ak m.nl.symm];exact I.free
 .rw[ak (m.nc y c e)];exact I.gG y c e
 .obtain⟨e,n,ne,nf,d⟩:=I.pin p hp;exact⟨e,by rw[ak (m.px p hp)];exact n,ne,nf,d⟩
 .by_cases hb:b=x
  .subst hb;rw[aj]at e;cases e;exact new
  .rw[ak hb]at e;refine(I.hok b u e).tW (λc v _ q=>q) (λc q=>by rw[ak (nn _ _ q)];exact q) λc xs q=>by rw[ak (nn _ _ q)];exact q
structure vE(X:Cx)(dh:Z0)(σ:St)(a kS:Addr)(e1:Nat)(H:Hp)(s:RV)(ks:Z7):Prop where
 inv:Inv X dh σ H s
 fa:H a=none
 fk:H kS=none
 ea:s.heap.get? a=some (seqObj "list" #[] e1)
 ek:∃kv n,Vals ks kv/\s.heap.get? kS=some (seqObj "list" (SN kv) n)
variable {kS:Addr}{e1:Nat}{f:Value}{xs ks:Z7} 
theorem IE(J:Nat->List V->Hp->Prop)(rv:Vals xs vs)(P!:vs.length<64)(ma:nM X dh a)(mk:nM X dh kS)(hka:kS≠a)
  (turn:∀ (pins':Z0) (s':RV) (H':Hp) (i:Nat) (x:V) (v:Value) (ks:Z7),Inv X pins' σ H' s'->xs[i]?=some x->RelV x v->J i ks H'->wpAny (model X.prog X.w) X.A (call f [v]) (EP X pins' σ λk V'=>J (i+1) (ks++[k]) V') (λ_ _=>False) s')
  (done:∀ (s':RV) (H':Hp) (ks:Z7) (keys:Z8) (n:Nat),vE X dh σ a kS e1 H' s' ks->ks.length=xs.length->J xs.length ks H'->Vals ks keys->s'.heap.get? kS=some (seqObj "list" (SN keys) n) ->
   wpAny (model X.prog X.w) X.A (ksk_end a false vs.toArray e1 (.ref kS) (SN keys)) P E s')
  (I:vE X dh σ a kS e1 H s []) (j0:J 0 [] H):wpAny (model X.prog X.w) X.A (ksk_rest a f false vs.toArray e1 (.ref kS)) P E s:=by
 unfold ksk_rest;refine RO (YR ?_)
 first
  | rw[Xn]
  | (rw[<- Array.forIn_toList];simp only[List.toList_toArray])
  | rw[<- Array.forIn_toList]
 refine RO (ksk_fold (λi s'=>∃H' ks,vE X dh σ a kS e1 H' s' ks/\ks.length=i/\J i ks H') vs 0 s ⟨H,[],I,rfl,j0⟩ ?step ?done)
 case step =>
  rintro j v s' hv ⟨H',ks,K,hl,hJ⟩;simp only[To]at hl hJ ⊢;have hj:j<vs.length:=(RN.mp hv).1;have hjx:j<xs.length:=by rw[rv.length];exact hj
  have hx:xs[j]?=some xs[j]:=RL hjx;obtain⟨kv,n,rk,ek⟩:=K.ek;have hkv:=rk.length;have Ip:=K.inv.sO (pins':=(a,seqObj "list" #[] e1) :: (kS,seqObj "list" (SN kv) n) :: dh) λp hp=>by
   rcases Sf.mp hp with rfl|hp
   .exact⟨K.ea,K.fa,ma.nl,ma.nf,λv z=>nomatch z⟩
   .rcases Sf.mp hp with rfl|hp
    .exact⟨ek,K.fk,mk.nl,mk.nf,λv z=>nomatch z⟩
    .exact K.inv.pin p (SJ _ hp)
  refine RO (WR (UD (turn _ s' H' j _ v ks Ip hx (Vals.getL rv hx hv) hJ) (λu s'' he=>?_) λ_ _ hF=>hF.elim));obtain⟨k,V',I2,r2,hJ2⟩:=he
  try dsimp only
  have na:=I2.pin (a,seqObj "list" #[] e1) (SJ _ (.head _));have nk:=I2.pin (kS,seqObj "list" (SN kv) n) (SJ _ (.tail _ (.head _)));have s1:=UY s''.heap kS (SK (·.push u));obtain⟨c2,hc2⟩:∃c2,(s''.heap.update kS (SK (·.push u))).get? kS=some (seqObj "list" ((SN kv).push u) c2):=⟨_,Xa nk.1 (·.push u)⟩;have I3:Inv X dh σ V' s'':=I2.sO λp hp=>I2.pin p (SJ _ (.tail _ (.tail _ hp)));have I4:=I3.turned (h':=s''.heap.update kS (SK (·.push u))) (t':=s''.toks) (it:=kS) (λb o hb e=>(s1.2 b hb).trans e) nk.2.1 mk.nl (.inr mk.ab) mk.nc mk.px;refine RO (VR nk.1 rfl ?_ (by rw[Se,SH];lia) (SA (VG (Array.size_push ..)) (by rw[Se,SH];lia)))
  exact R1 ⟨rfl,V',ks++[k],⟨I4,na.2.1,nk.2.1,(s1.2 a hka.symm).trans na.1,kv++[u],c2,rk.append (.cons r2 .nil),by rw[<- List.push_toArray];exact hc2⟩,by rw[R8,hl];rfl,hJ2⟩
 case done =>
  rintro s' ⟨H',ks,K,hl,hJ⟩;obtain⟨kv,n,rk,ek⟩:=K.ek;have e:0+vs.length=xs.length:=by rw[rv.length,To]
  rw[e]at hl hJ
  try dsimp only
  refine RO (Zx ek rfl ?_);exact done s' H' ks kv n K hl hJ rk ek
end
def dU{α:Type}[Rep α](K:RM)(H:Hp)(v:V)(z:Int×α):Prop:=∃p x,v=.ref p/\SqT K H p [.int z.1,x]/\At K H x z.2
section
variable {α:Type}[Rep α][DecidableEq α][bf α][cT α]
theorem wN{v:V}{z:Int×α}(I:Inv X dh σ H s)(h:dU X.K H v z)(r:RelV v u) :
  ∃p t x w,u=.ref p/\IsTup s.heap p (SN [.int z.1 t,w])/\At X.K H x z.2/\RelV x w:=by
 obtain⟨p,x,rfl,hS,ha⟩:=h;obtain⟨ZV,rv,ht,_⟩:=I.tuple hS;obtain⟨u1,w,rfl,r1,r2⟩:∃u1 w,ZV=[u1,w]/\RelV (.int z.1) u1/\RelV x w:=by
  cases rv with
  | cons h1 r =>
   cases r with
   | cons h2 r =>
    cases r with
    | nil=>exact⟨_,_,rfl,h1,h2⟩
 obtain⟨t,rfl⟩:∃t,u1=.int z.1 t:=r1;exact⟨p,t,x,w,r,ht,ha,r2⟩
def ltK(z z':Int×α):Bool:=ltP (λa b:Int=>decide (a<b)) cT.lt z z'
theorem Mj{A:S7}{v v':V}{u':Value}{z z':Int×α}(I:Inv X dh σ H s)(h:dU X.K H v z)(h':dU X.K H v' z')(r:RelV v u)(r':RelV v' u')(hu:A.units+bf.depth α<cLine)
  (q:Q (ltK z z') s):wpAny (model X.prog X.w) A (keyLt' (tuples' true) u u') Q E s:=by
 obtain⟨p,t,x,w,rfl,⟨o,ho,hc,n,hd⟩,ha,rx⟩:=wN I h r;obtain⟨p',t',x',w',rfl,⟨o',ho',q!,n',ZZ⟩,R!,rx'⟩:=wN I h' r';refine kat_lt ho hd ho' ZZ ?_;show KatLex X.prog X.w A true false Q [(.int z.1 t,.int z'.1 t'),(w,w')] 0 s;unfold ltK ltP at q;refine kat_cons (wpAny_eqBool_int ?_)
 by_cases e:z.1=z'.1
 .rw[if_pos e]at q;rw[show (z.1 == z'.1)=true from by rw[e];exact beq_self_eq_true _]
  refine kat_yes (kat_cons (bf.eq (A:=A) I ha R! rx rx' hu X.prog X.w _ _ ?_))
  by_cases e2:z.2=z'.2
  .rw[if_pos e2]at q;rw[decide_eq_true e2];exact kat_yes (kat_nil q)
  .rw[if_neg e2]at q;rw[decide_eq_false e2];exact kat_no (kat_one _ _ (cT.rc (A:=A) I ha R! rx rx' hu X.prog X.w _ _ q))
 .rw[if_neg e]at q;rw[show (z.1 == z'.1)=false from by simpa using e]
  exact kat_no (oneLt_int q)
end
end L2
namespace L2
open PySem PySem.W PySem.Spec PyProof.Rows
variable {p:ZP}{dh:Z0}{keys vs:Z8}{n:Nat}{E:Value->RV->Prop}{P:ZD->RV->Prop}
theorem Gi{α β:Type}{vs:List α}{L:List β}(d:α)(d':β)(h:vs.length=L.length):(RS vs.length).map (λi=>(vs.getD i d,L.getD i d'))=vs.zip L:=by
 apply Tr;intro i;rw[RY]
 by_cases c:i<vs.length
 .have c':i<L.length:=by lia
  rw[TU c,RL (by simp;lia)]
  simp[c,c']
 .rw[Sm (by simp;lia),Sm (by simp;lia)]
  rfl
section
variable {X:Cx}{σ:St}{H:Hp}{s:RV}{a kS:Addr}{e1:Nat}{f:Value}{xs ks:Z7} 
theorem B8{st:SortSt}(K:vE X dh σ a kS e1 H s ks)(ma:nM X dh a)(mk:nM X dh kS)(hka:kS≠a)(rv:Vals xs vs)(P!:vs.length<64)(hkl:keys.length=vs.length)
  (ek:s.heap.get? kS=some (seqObj "list" (SN keys) n)) (hout:(arrOf st).map (·.2)=SN (p.toList.map λi=>vs.getD i Tq)) (hp:p.size=vs.length) (L!:∀i∈p.toList,i<xs.length) (hf:failedOf st=none)
  (fin:∀s',Inv X dh σ (upd H a (.lst (p.toList.map λi=>xs.getD i .non))) s'->P (.done (.ret .none)) s'):wpAny (model X.prog X.w) X.A (ksk_tail a false e1 (.ref kS) st) P E s:=by
 have s1:=UY s.heap kS (SK λ_=>(#[]:ZO));have ea1:(s.heap.update kS (SK λ_=>(#[]:ZO))).get? a=some (seqObj "list" #[] e1):=(s1.2 a hka.symm).trans K.ea;have s2:=UY (s.heap.update kS (SK λ_=>(#[]:ZO))) a (SK λ_=>SN (p.toList.map λi=>vs.getD i Tq));obtain⟨c2,hc2⟩:∃c2,((s.heap.update kS (SK λ_=>(#[]:ZO))).update a (SK λ_=>SN (p.toList.map λi=>vs.getD i Tq))).get? a=some (seqObj "list" (SN (p.toList.map λi=>vs.getD i Tq)) c2) :=
  ⟨_,Xa ea1 λ_=>SN (p.toList.map λi=>vs.getD i Tq)⟩
 have I1:=K.inv.turned (h':=s.heap.update kS (SK λ_=>(#[]:ZO))) (t':=s.toks) (it:=kS) (λb o hb e=>(s1.2 b hb).trans e) K.fk mk.nl (.inr mk.ab) mk.nc mk.px;have I2:=I1.turned (h':=(s.heap.update kS (SK λ_=>(#[]:ZO))).update a (SK λ_=>SN (p.toList.map λi=>vs.getD i Tq))) (t':=s.toks) (it:=a) (λb o hb e=>(s2.2 b hb).trans e) K.fa ma.nl (.inr ma.ab) ma.nc ma.px;have I3:=I2.adopt (o:=.lst (p.toList.map λi=>xs.getD i .non)) K.fa ma ⟨by rw[RP,SM,hp,SH];lia,_,c2,rZ rv p.toList L!,hc2⟩
 have hsz:(SN (p.toList.map λi=>vs.getD i Tq)).size=vs.length:=by rw[Se,RP,SM,hp]
 unfold ksk_tail
 try dsimp only
 rw[hout];simp only[S5,if_false];refine RO (VR ek rfl ?_ (by rw[Se,SH];lia) (SO _))
 refine RO (W5 ?_);refine RO (X7 ea1 rfl ?_);refine RO (VR ea1 rfl ?_ (SO _) (SA (VG hsz) (by rw[SH];lia)))
 rw[hf];simp only[bne_self_eq_false,S5,if_false];exact R1 (fin _ I3)
variable {α:Type}[Rep α][DecidableEq α][bf α][cT α][Inhabited α]
theorem yi(I:Inv X dh σ H s):∀ {ks:Z7} {kk:List (Int×α)} {keys:Z8},Tb (dU X.K H) ks kk->Vals ks keys->∃fs:Z8,KatTups s.heap keys fs/\fs.length=keys.length/\∀v∈fs,∃i t,v=U5 i t
 | [],_,_,_,.nil=>⟨[],KatTups.nil,rfl,λv hv=>absurd hv (by simp)⟩
 | _ :: _,[],_,h,_=>nomatch h
 | k :: ks,z :: kk,u :: keys,.cons h hs,.cons r rs=>by
  obtain⟨fs,t,hl,hi⟩:=yi I hs rs;obtain⟨p,tk,x,w,rfl,⟨o,ho,hc,n,hd⟩,ha,rx⟩:=wN I h r;refine⟨.int z.1 tk :: fs,KatTups.cons ho hc hd rfl t,by simp[hl],λv hv=>?_⟩
  rcases Sf.mp hv with rfl|hv
  .exact⟨_,_,rfl⟩
  .exact hi v hv
theorem MC{kk:List (Int×α)}(K:vE X dh σ a kS e1 H s ks)(ma:nM X dh a)(mk:nM X dh kS)(hka:kS≠a)(rv:Vals xs vs)(P!:vs.length<64)(rk:Vals ks keys)(hkl:ks.length=xs.length)
  (ek:s.heap.get? kS=some (seqObj "list" (SN keys) n)) (hp:Tb (dU X.K H) ks kk) (hu:X.A.units+bf.depth α<cLine)
  (fin:∀ (s':RV) (zs:List (V×(Int×α))),Inv X dh σ (upd H a (.lst (zs.map (·.1)))) s'->zs.Perm (xs.zip kk)->P (.done (.ret .none)) s') :
  wpAny (model X.prog X.w) X.A (ksk_end a false vs.toArray e1 (.ref kS) (SN keys)) P E s:=by
 have e1':=rv.length;have e2':=rk.length;have e3':=hp.length;have hkv:keys.length=vs.length:=by lia
 have use:∀p:ZP,p.Perm (SN (RS vs.length))->∀s',Inv X dh σ (upd H a (.lst (p.toList.map λi=>xs.getD i .non))) s'->P (.done (.ret .none)) s':=λp a1 s' I'=>by
  have psz:p.size=vs.length:=by have:=a1.size_eq;simpa using this
  have pm:p.toList.Perm (RS vs.length):=by
   have:=a1.toList
   simpa using this
  refine fin s' (p.toList.map λi=>(xs.getD i .non,kk.getD i (0,default))) ?_ ?_
  .rw[Ux];exact I'
  .have:=pm.map λi=>(xs.getD i V.non,kk.getD i (0,default));rw[<- e1',Gi _ _ (by lia)]at this
   l_out
 unfold ksk_end
 try dsimp only
 simp only[S5,if_false]
 by_cases h2:vs.toArray.size<2
 .rw[if_pos h2,if_pos h2];refine RO (R1 ?_);rw[StateT.run_pure];refine RO (R1 ?_)
  try dsimp only
  rw[Se]at h2;refine B8 (p:=SN (RS vs.length)) K ma mk hka rv P! hkv ek (?_) (by simp) (λi hi=>?_) rfl (use _ (Vp _))
  .show ((SN keys).zip vs.toArray).map (·.2)=_;apply WN.mp;rw[Yd,Array.toList_zip];show (keys.zip vs).map (·.2)=(RS vs.length).map λi=>vs.getD i Tq;rw[xt];exact List.map_snd_zip (by lia)
  .have:i<vs.length:=by simpa using hi
   lia
 .rw[if_neg h2,if_neg h2];rw[Se]at h2;obtain⟨fs,t,hl,hi⟩:=yi K.inv hp rk;refine RO (kat_kind (T:=.type "int") t (by lia) (λv hv=>?_) (by decide) ?_)
  .obtain⟨i,tk,rfl⟩:=hi v hv;exact λA' Q' E' s' k' q'=>V6 (T:="int") (Ww _ i tk) q'
  show wpAny _ _ _ _ _ s;have f1:=Ar (lt:=λi j=>ltK (kk.getD i ((0:Int),(default:α))) (kk.getD j ((0:Int),(default:α)))) (n:=vs.length);have ask:=nD (cmp:=ZH X.prog X.w X.A (tuples' true) keys) (lt:=λi j=>ltK (kk.getD i (0,default)) (kk.getD j (0,default))) (n:=vs.length) (s:=s) (G:=λ_=>True)
   (Q:=λp s'=>p=fT (λi j=>ltK (kk.getD i (0,default)) (kk.getD j (0,default))) (WT vs.length)/\s'=s) (λi j C hi hj hC=>by
    have k1:i<ks.length:=by lia
    have k2:j<ks.length:=by lia
    obtain⟨u,hu1,ru⟩:=rk.get (RL k1);obtain⟨u',hu2,ru'⟩:=rk.get (RL k2);obtain⟨z,hz,rz⟩:=Paired.getL hp (RL k1);obtain⟨z',hz',rz'⟩:=Paired.getL hp (RL k2);unfold ZH;rw[RT,RT,hu1,hu2];rw[RT,RT,hz,hz']at hC;exact Mj K.inv rz rz' ru ru' hu hC) (WT vs.length) (Co (by lia)) ⟨rfl,rfl⟩
  refine RO (UD (kat_run (Q:=λM! s'=>s'=s/\∃p:ZP,p=fT (λi j=>ltK (kk.getD i (0,default)) (kk.getD j (0,default))) (WT vs.length)/\p.size=vs.length/\arrOf M!=p.map (kas_item ((SN keys).zip vs.toArray))/\failedOf M!=none)
   hkv (by lia) P! (λp M! s' a1 a2 a3 a4=>⟨a4.2,p,a4.1,a1,a2,a3⟩) ask) ?_ λ_ _ e=>e)
  rintro⟨⟨⟩,M!⟩ s' ⟨rfl,p,rfl,hp',har,hf⟩
  try dsimp only
  exact B8 K ma mk hka rv P! hkv ek (kat_snds hkv har) hp' (λi hi=>by
   have pm:=f1.toList;have:i∈RS vs.length:=by simpa using pm.mem_iff.mp hi
   have:=RU.mp this;lia) hf (use _ f1)
end
end L2
namespace L2
open PySem PySem.W PySem.Spec PyProof.Rows
variable {X:Cx}{H:Hp}{dh:Z0}{ps:ZN}{vs:Z8}{sp:Sp}{σ:St}{te:TE}{Q:VK}{E:Value->RV->Prop}{P:ZD->RV->Prop}
section
variable {s:RV}{a kS:Addr}{e1:Nat}{f:Value}{xs ks:Z7}{α:Type}[Rep α][DecidableEq α][bf α][cT α][Inhabited α]
theorem J6{n:Nat}(J:Nat->List V->Hp->Prop)(I:Inv X dh σ H s)(ho:s.heap.get? a=some (seqObj "list" vs.toArray n))(fa:H a=none)(ma:nM X dh a)(rv:Vals xs vs)(P!:vs.length<64)(hu:X.A.units+bf.depth α<cLine)
  (j0:J 0 [] H)
  (turn:∀ (pins':Z0) (s':RV) (H':Hp) (i:Nat) (x:V) (v:Value) (ks:Z7),Inv X pins' σ H' s'->xs[i]?=some x->RelV x v->J i ks H'->wpAny (model X.prog X.w) X.A (call f [v]) (EP X pins' σ λk V'=>J (i+1) (ks++[k]) V') (λ_ _=>False) s')
  (fin:∀ (s':RV) (H':Hp) (ks:Z7),ks.length=xs.length->J xs.length ks H'->H' a=none->∃kk:List (Int×α),Tb (dU X.K H') ks kk /\
   ∀ (s':RV) (zs:List (V×(Int×α))),Inv X dh σ (upd H' a (.lst (zs.map (·.1)))) s'->zs.Perm (xs.zip kk)->P (.done (.ret .none)) s') :
  wpAny (model X.prog X.w) X.A (ksk_tree a f false) P E s:=by
 have ha:a<s.heap.objs.size:=R7 ho;have s1:=UY s.heap a (SK λ_=>(#[]:ZO));obtain⟨e1,ho1⟩:∃e1,(s.heap.update a (SK λ_=>(#[]:ZO))).get? a=some (seqObj "list" #[] e1):=⟨_,Xa ho λ_=>#[]⟩;have hkS:((s.heap.update a (SK λ_=>(#[]:ZO))).push (seqObj "tuple" vs.toArray 0)).objs.size=s.heap.objs.size+1:=by rw[Zj,V3]
 have I1:=I.turned (h':=s.heap.update a (SK λ_=>(#[]:ZO))) (t':=s.toks) (it:=a) (λb o hb e=>(s1.2 b hb).trans e) fa ma.nl (.inr ma.ab) ma.nc ma.px;have I2:=I1.kept (h':=((s.heap.update a (SK λ_=>(#[]:ZO))).push (seqObj "tuple" vs.toArray 0)).push (seqObj "list" #[] 0)) (t':=s.toks) λb u e=>RW _ (RW _ e);have hle:s.heap.objs.size<=((s.heap.update a (SK λ_=>(#[]:ZO))).push (seqObj "tuple" vs.toArray 0)).objs.size:=by rw[hkS];exact T2 _
 have mk:nM X dh ((s.heap.update a (SK λ_=>(#[]:ZO))).push (seqObj "tuple" vs.toArray 0)).objs.size:=I.MO hle;have hka:((s.heap.update a (SK λ_=>(#[]:ZO))).push (seqObj "tuple" vs.toArray 0)).objs.size≠a:=by rw[hkS];exact UI (Td ha)
 unfold ksk_tree;refine RO (Zx ho rfl ?_);refine RO (VR ho rfl ?_ (by rw[Se,SH];lia) (SO _))
 refine RO (X7 ho1 rfl ?_);refine RO (Y1 ?_ (by show vs.length<=_;rw[SH];lia))
 refine RO (Wl ?_ (SO _));refine S2 ?_;refine IE J rv P! ma mk hka turn (λs' H' ks keys n K hl hJ rk ek=>?_) ⟨I2,fa,I.hok.fresh hle,RW _ (RW _ ho1),[],0,.nil,Si _ rfl⟩ j0;obtain⟨kk,hp,q⟩:=fin s' H' ks hl hJ K.fa;exact MC K ma mk hka rv P! rk hl ek hp hu q
theorem Fl{l q:Addr}(J:Nat->List V->Hp->Prop)(I:Inv X dh σ H s)(hS:SqL X.K H l xs)(P!:xs.length<64)(hu:X.A.units+2+bf.depth α<cLine)(j0:J 0 [] H)
  (turn:∀ (pins':Z0) (s':RV) (H':Hp) (i:Nat) (x:V) (v:Value) (ks:Z7),Inv X.in2 pins' σ H' s'->xs[i]?=some x->RelV x v->J i ks H'->wpAny (model X.prog X.w) X.in2.A (call (.ref q) [v]) (EP X.in2 pins' σ λk V'=>J (i+1) (ks++[k]) V') (λ_ _=>False) s')
  (fin:∀ (H':Hp) (ks:Z7),ks.length=xs.length->J xs.length ks H'->∃kk:List (Int×α),Tb (dU X.K H') ks kk /\
   ∀ (d:Addr) (zs:List (V×(Int×α))),H' d=none->zs.Perm (xs.zip kk)->Q (.ref d) (upd H' d (.lst (zs.map (·.1))))) :
  wpAny (model X.prog X.w) X.A (call (.builtin "sorted") [.ref l] [(V7 "key",.ref q)]) (EP X dh σ Q) E s:=by
 obtain⟨vs,rv,pl,hz⟩:=I.list hS;have hl:=pl.isList;have e1:=rv.length;refine call_function_entry_kw Y8 YE YF (ksk_s1 _ _) ?_;k_upd;refine RO (collect_list hl ?_ (by rw[SH];lia))
 refine RO (Wl ?_ (by rw[SH];lia))
 have hsz:((s.heap.push (seqObj "list" #[] 0)).update s.heap.objs.size (SK (·++vs.toArray))).objs.size=s.heap.objs.size+1:=by
  rw[V3,Zj]
 have hoL:(((s.heap.push (seqObj "list" #[] 0)).update s.heap.objs.size (SK (·++vs.toArray))).push (seqObj "list" vs.toArray 0)).get? (s.heap.objs.size+1)=some (seqObj "list" vs.toArray 0):=by
  rw[<- hsz];exact Si _ rfl
 have keep:∀b o,s.heap.get? b=some o->(((s.heap.push (seqObj "list" #[] 0)).update s.heap.objs.size (SK (·++vs.toArray))).push (seqObj "list" vs.toArray 0)).get? b=some o:=λb o q=>by
  have ZW:b<s.heap.objs.size:=R7 q;rw[Vq _ _ _ (by rw[hsz];exact Sa (Td ZW)),Xb _ _ _ _ (Sa ZW),Vq _ _ _ (Sa ZW)]
  exact q
 show wpAny _ _ _ _ _ { s with heap:=((s.heap.push (seqObj "list" #[] 0)).update s.heap.objs.size (SK (·++vs.toArray))).push (seqObj "list" vs.toArray 0) };rw[hsz];refine RO (S2 (wpAny_call_entry_kw Xz ⟨_,hoL,rfl⟩ W9 ?body (ksk_l1 _ _)))
 case body =>
  show wpAny (model X.prog X.w) X.in2.A (Vb.«list.sort» ⟨[.ref (s.heap.objs.size+1)],[(V7 "key",.ref q)]⟩) _ _ _;rw[ksk_t1];have I1:=(I.kept (h':=((s.heap.push (seqObj "list" #[] 0)).update s.heap.objs.size (SK (·++vs.toArray))).push (seqObj "list" vs.toArray 0)) (t':=s.toks) keep).in2;refine J6 (X:=X.in2) J I1 hoL (I.hok.fresh (T2 _)) (I.in2.MO (T2 _)) rv (by lia) (by show X.A.units+1+1+_<cLine;lia) j0 turn λs' H' ks hk hJ hn=>?_
  obtain⟨kk,hp,qq⟩:=fin H' ks hk hJ;exact⟨kk,hp,λs2 zs I2 z1=>⟨_,rfl,R1 ⟨_,rfl,⟨.ref (s.heap.objs.size+1),_,I2.JV,rfl,qq _ zs hn z1⟩⟩⟩⟩
end
def xF(α:Type)[Rep α][DecidableEq α][bf α][cT α](K:RM)(sp:Sp)(te:TE):TE:=λσ H Q=>te σ H λx H1=>∃ (l:Addr) (xs:Z7) (J:Nat->List V->Hp->Prop),x=.ref l/\SqL K H1 l xs/\xs.length<64/\J 0 [] H1 /\
 (∀i y ks H2,xs[i]?=some y->J i ks H2->sp [y] H2 (λk H3=>J (i+1) (ks++[k]) H3) E0) /\
 ∀ks H2,ks.length=xs.length->J xs.length ks H2->∃kk:List (Int×α),Tb (dU K H2) ks kk /\
  ∀ (d:Addr) (zs:List (V×(Int×α))),H2 d=none->zs.Perm (xs.zip kk)->Q (.ref d) (upd H2 d (.lst (zs.map (·.1))))
section
variable {k:Nat}{x:Str}{st:Stmt}{p pos kp kpos:Pos}{e:Expr}{α:Type}[Rep α][DecidableEq α][bf α][cT α][Inhabited α]
theorem C1(d:Df X.K X.mg x st ps)(G:aE X.prog X.w X.K X.mg X.base CX0 k d.f d.fd ps sp)(hr:bP (k+2) X.A)(hz:bf.depth α<32)(hg:Gl X "sorted")(hm:X.mg "sorted" = none)(hg':Gl X x)(he:PE X e te)(t!:(x == ("__debug__" : Str))=false:=by decide)(hn:isStar e=false:=by rfl) :
  PE X (.Call (.Name "sorted" p) [e] [⟨some "key",.Name x kp,kpos⟩] pos) (xF α X.K sp te):=by
 f_are;refine VB (gU I hg hm boot_sorted ?_ (by decide) (by decide))
 refine callWith_kw ?_ (by rw[bg hn];rfl) (cM (by simp[hn]))
 rw[bg (e:=e) (es:=[]) hn];show wpAny _ _ (spliced ((false,eval e X.env) :: backTo pos (Ta [] X.env))) _ _ s;refine Wb (thn (he dh s σ H _ I h) λu s1 ⟨v,H1,I1,r1,l,xs,J,ev,hS,P!,j0,step,fin⟩=>?_);subst ev;cases(show u=SR l from r1);refine Wv ?_;show wpAny _ _ (evalAll [do let v <- eval (.Name x kp) X.env;standAt pos;pure v]) _ _ _;refine wpAny_evalAll_cons (RO (oa I1 hg' d.nm (RO (Wa (R1 (wpAny_evalAll_nil ?_)))) t!));exact Fl J I1 hS P! (by have:=hr.un;lia) j0 (λpins' s' H' i y v ks I' hy ry hJ=>ve (X:=X.in2) (us:=[v]) (vs:=[y]) (dvs:=[]) (ds:=[]) G (bP.in1 (bP.in1 hr)) d.bd .nil lB I' (.cons ry .nil) (step i y ks H' hy hJ)) λH2 ks=>fin ks H2
end
theorem FV{α:Type}[Rep α][DecidableEq α][bf α][cT α]{K:RM}(h:te σ H λx H1=>∃ (l:Addr) (xs:Z7) (J:Nat->List V->Hp->Prop),x=.ref l/\SqL K H1 l xs/\xs.length<64/\J 0 [] H1 /\
 (∀i y ks H2,xs[i]?=some y->J i ks H2->sp [y] H2 (λk H3=>J (i+1) (ks++[k]) H3) E0) /\
 ∀ks H2,ks.length=xs.length->J xs.length ks H2->∃kk:List (Int×α),Tb (dU K H2) ks kk /\
  ∀ (d:Addr) (zs:List (V×(Int×α))),H2 d=none->zs.Perm (xs.zip kk)->Q (.ref d) (upd H2 d (.lst (zs.map (·.1))))):xF α K sp te σ H Q:=h
end L2
namespace L2
open PySem PySem.W PySem.Spec PyProof.Rows
variable {items:ZO}{bt:Nat->Nat->Bool}{E Q:Value->RV->Prop}{R:Ys->RV->Prop}
section
variable {prog:Sj}{w:World}{A:S7}{s₀:RV}{I l S:Addr} 
def DL(prog:Sj)(w:World)(A:S7)(s₀:RV)(items:ZO)(bt:Nat->Nat->Bool):Prop :=
 ∀i j vi vj (h':Heap) (tk:Nat) (Q:Value->RV->Prop) (E:Value->RV->Prop),(∀b o,s₀.heap.get? b=some o->h'.get? b=some o)->items[i]?=some vi->items[j]?=some vj->Q (.bool (bt i j)) { s₀ with heap:=h',toks:=tk } ->
  wpAny (model prog w) A (richCompare .Lt vi vj) Q E { s₀ with heap:=h',toks:=tk }
theorem HA(hh:A.in1.handled=none)(hlI:l≠I)(hcmp:DL prog w A.in1 s₀ items bt)(hSf:S∉[I,l])(hold:∀b o,s₀.heap.get? b=some o->b≠I/\b≠S) :
  ∀ (k j:Nat) (h:Heap) (tk₀:Nat) (vb:Value) (c:Nat),items.size - (j+1)=k->j+1<=items.size->(h.IsListIter I l (j+1)/\h.IsList l items)->items[argBest bt j]?=some vb ->
  h.get? S=some { cls:=.type "list",dict:=none,data:=.seq #[vb,vb] c,slots:=#[] }->(∀b o,s₀.heap.get? b=some o->h.get? b=some o) ->
  (∀v h' tk,items[argBest bt (items.size - 1)]?=some v->(∀b o,s₀.heap.get? b=some o->h'.get? b=some o)->R (.ok (.ret v)) { s₀ with heap:=h',toks:=tk }) ->
  codeAny (model prog w) A (.builtin "min.loop" ⟨[.ref I,.none,.ref S],[]⟩) R { s₀ with heap:=h,toks:=tk₀ }:=by
 have W:=YT (prog:=prog) (w:=w) (A:=A.in1) hh I l hlI items;have hSw:S∉[I]:=λh=>hSf (W.sub _ h);have hname:(toString "min" ++ toString ".loop" : String) = "min.loop":=by decide
 have nw:∀b o,s₀.heap.get? b=some o->b∉[I]:=λb o e z=>(hold b o e).1 (RX.mp z);intro k
 induction k with
 | zero =>
  intro j h tk₀ vb c hk hj X' hPb hS kp hR;have L!:j+1=items.size:=by lia
  refine TF Ye ?_;rw[S9 U4 _];show wpAny _ A.in1 (seqItems? (.ref S) >>= _) _ _ _;refine RO (Vy hS rfl ?_);show wpAny _ A.in1 (tryCatch (pyNext (.ref I)) _ >>= _) _ _ _;refine RO (WD (W.done _ _ _ (L! ▸ X') λh' tk g!=>?_));have j!:=g! S _ hSw hS;show wpAny _ A.in1 (updateSeq S (λ_=>#[]) >>= _) _ _ _;refine RO ?_;refine VO j! rfl (RO (W5 (R1 ?_)));exact hR vb _ tk (by rw[<- L!];exact hPb) λb o e=>(Tu _ _ (UA (hold b o e).2)).trans (g! b o (nw b o e) (kp b o e))
 | succ k ih =>
  intro j h tk₀ vb c hk hj X' hPb hS kp hR;have ZW:j+1<items.size:=by lia
  refine TF Ye ?_;rw[S9 U4 _];show wpAny _ A.in1 (seqItems? (.ref S) >>= _) _ _ _;refine RO (Vy hS rfl ?_);show wpAny _ A.in1 (tryCatch (pyNext (.ref I)) _ >>= _) _ _ _;refine RO (WD (W.item (j+1) _ _ _ ZW X' λv h' tk hP hst' g!=>?_));have j!:=g! S _ hSw hS;have kp':∀b o,s₀.heap.get? b=some o->h'.get? b=some o:=λb o e=>g! b o (nw b o e) (kp b o e);show wpAny _ A.in1 (tryCatch (holding [v,v] (richCompare .Lt v vb >>= _)) _ >>= _) _ _ _;refine RO (WD (S2 (RO (hcmp (j+1) (argBest bt j) v vb h' tk _ _ kp' hP hPb ?_))));refine RO (S2 (Um ?_));refine RO (W5 (R1 ?_));cases hb:bt (j+1) (argBest bt j) with
  | true =>
   simp only[if_true];refine RO ?_;refine VO j! rfl (RO (W5 ?_));rw[hname];refine R1 ⟨Uc U4 _,ih (j+1) _ tk v _ (by lia) ZW (W.frame _ _ _ hst' λb hbf o e=>?_) (by simp only[argBest,hb,if_true];exact hP) (T3 _ j! rfl) (λb o e=>?_) hR⟩
   .exact(Tu _ _ (λh:S=b=>hSf (by rw[h];exact hbf))).trans e
   .exact(Tu _ _ (UA (hold b o e).2)).trans (kp' b o e)
  | false =>
   simp only[S5,if_false];refine RO (W5 ?_);rw[hname];exact R1 ⟨Uc U4 _,ih (j+1) _ tk vb c (by lia) ZW hst' (by simp only[argBest,hb,S5,if_false];exact hPb) j! kp' hR⟩
theorem G6(hh:A.handled=none)(hl:s₀.heap.IsList l items)(hn:0<items.size)(hcmp:DL prog w A.in1 s₀ items bt)
  (hQ:∀v h' tk,items[argBest bt (items.size - 1)]?=some v->(∀b o,s₀.heap.get? b=some o->h'.get? b=some o)->Q v { s₀ with heap:=h',toks:=tk }) :
  wpAny (model prog w) A (call (.builtin "min") [.ref l]) Q E s₀:=by
 have hname:(toString "min" ++ toString ".loop" : String) = "min.loop":=by decide
 have ZW:l<s₀.heap.objs.size:=by obtain⟨_,e,_⟩:=hl;exact R7 e
 refine call_function_tree F.kind_min F.plain_min F.entry_min (F.args_min1 _) ?_;show wpAny _ A.in1 (Xc "min" ["key","default"] 0 ⟨[],[]⟩ >>= _) _ _ s₀;refine RO (ZC (show Xc "min" ["key","default"] 0 ⟨[],[]⟩=pure [none,none] from rfl) ?_);refine RO (R1 ?_);refine RO (Ve hl ?_);have st:(s₀.heap.push { cls:=.type "list_iterator",data:=.fields #[.ref l,.int 0 0] }).IsListIter s₀.heap.objs.size l 0/\(s₀.heap.push { cls:=.type "list_iterator",data:=.fields #[.ref l,.int 0 0] }).IsList l items:=⟨⟨_,Si _ rfl,rfl,rfl⟩,hl.push _⟩;refine RO (UE ?_);have hsz:(s₀.heap.push { cls:=.type "list_iterator",data:=.fields #[.ref l,.int 0 0] }).objs.size=s₀.heap.objs.size+1:=TY ..;have B':l≠s₀.heap.objs.size:=Sa ZW;have W:=YT (prog:=prog) (w:=w) (A:=A.in1) hh s₀.heap.objs.size l B' items;have hSf:(s₀.heap.push { cls:=.type "list_iterator",data:=.fields #[.ref l,.int 0 0] }).objs.size∉[s₀.heap.objs.size,l]:=λhm=>by
  rw[hsz]at hm;rcases Sf.mp hm with e|hm
  .exact absurd e (UI (Ui _))
  .have e:s₀.heap.objs.size+1=l:=RX.mp hm;exact absurd (e ▸ ZW) (Nat.not_lt.mpr (T2 _))
 have hold:∀b o,s₀.heap.get? b=some o->b≠s₀.heap.objs.size/\b≠(s₀.heap.push { cls:=.type "list_iterator",data:=.fields #[.ref l,.int 0 0] }).objs.size:=λb o e=>by
  have:=R7 e;rw[hsz];exact⟨Sa this,Sa (Td this)⟩
 rw[hname];refine R1 ⟨Uc U4 _,?_⟩;refine TF Ye ?_;rw[S9 U4 _];show wpAny _ A.in1 (seqItems? (.ref (s₀.heap.push { cls:=.type "list_iterator",data:=.fields #[.ref l,.int 0 0] }).objs.size) >>= _) _ _ _;have hS:((s₀.heap.push { cls:=.type "list_iterator",data:=.fields #[.ref l,.int 0 0] }).push { cls:=.type "list",data:=.seq #[] }).get? (s₀.heap.push { cls:=.type "list_iterator",data:=.fields #[.ref l,.int 0 0] }).objs.size=some { cls:=.type "list",dict:=none,data:=.seq #[] 0,slots:=#[] }:=Si _ rfl;refine RO (Vy hS rfl ?_);show wpAny _ A.in1 (tryCatch (pyNext (.ref s₀.heap.objs.size)) _ >>= _) _ _ _;refine RO (WD (W.item 0 _ _ _ hn (W.frame _ _ _ st λb _ o e=>RW _ e) λv h' tk hP hst' g!=>?_));have hSw:(s₀.heap.push { cls:=.type "list_iterator",data:=.fields #[.ref l,.int 0 0] }).objs.size∉[s₀.heap.objs.size]:=λh=>hSf (W.sub _ h);have j!:=g! _ _ hSw hS;show wpAny _ A.in1 (updateSeq (s₀.heap.push { cls:=.type "list_iterator",data:=.fields #[.ref l,.int 0 0] }).objs.size (λ_=>#[v,v]) >>= _) _ _ _;refine RO ?_;refine VO j! rfl ?_;rw[hname];refine R1 ⟨Uc U4 _,HA hh B' hcmp hSf hold _ 0 _ tk v _ rfl hn (W.frame _ _ _ hst' λb hbf o e=>?_) hP (T3 _ j! rfl) (λb o e=>?_) λv' h'' tk'' hP' hk''=>hQ v' h'' tk'' hP' hk''⟩
 .exact(Tu _ _ (λh=>hSf (by rw[h];exact hbf))).trans e
 .exact(Tu _ _ (UA (hold b o e).2)).trans (g! b o (λz=>(hold b o e).1 (RX.mp z)) (RW _ (RW _ e)))
end
def E1(α:Type)[Rep α][DecidableEq α][bf α][cT α](K:RM):List V->Hp->VK->Prop:=λxs H Q=>∃ (p:Addr) (vs:Z7) (L:List α),xs=[.ref p]/\SqL K H p vs/\Tb (Rep.is K H) vs L/\0<L.length /\
 ∀ (i:Nat) x a,vs[i]?=some x->L[i]?=some a->Q x H
theorem Gg{X:Cx}{α:Type}[Rep α][DecidableEq α][bf α][cT α][Inhabited α](hc:X.calm=true)(K:RM)(hK:X.K=K)(hu:X.A.units+1+bf.depth α<cLine):cR X (.builtin "min") (E1 α K):=by
 subst hK;k_all;obtain⟨p,vs,L,rfl,hS,hP,h0,q⟩:=h;f_int;have e1:=rv.length;have e2:=hP.length;have sz:ZV.toArray.size=L.length:=by simp;lia
 have key:∀i v,ZV.toArray[i]?=some v->∃x a,vs[i]?=some x/\L[i]?=some a/\At X.K H x a/\RelV x v/\a=L.getD i default:=λi v e=>by
  have e:ZV[i]?=some v:=by simpa using e
  have hi:i<ZV.length:=(RN.mp e).1;have hv:vs[i]?=some vs[i]:=RL (by lia)
  obtain⟨a,ha,ra⟩:=Paired.getL hP hv;exact⟨_,a,hv,ha,ra,Vals.getL rv hv e,by rw[RT,ha];rfl⟩
 refine G6 (bt:=λi j=>cT.lt (L.getD i default) (L.getD j default)) (I.ok.hd hc) pl.isList (by lia) (λi j vi vj h' tk Q' E' kp hi hj hq=>?_) λv h' tk hv kp=>?_
 .obtain⟨x,a,_,_,ra,rx,rfl⟩:=key i vi hi;obtain⟨y,b,_,_,rb,ry,rfl⟩:=key j vj hj;exact cT.rc (A:=X.A.in1) (I.kept (t':=tk) kp) ra rb rx ry hu X.prog X.w _ _ hq
 .obtain⟨x,a,hx,ha,ra,rx,ea⟩:=key _ v hv;exact⟨x,H,I.kept (t':=tk) kp,rx,q _ x a hx ha⟩
theorem Nm{α:Type}[Rep α][DecidableEq α][bf α][cT α]{K:RM}{H:Hp}{Q:VK}{p:Addr}{vs:Z7}(L:List α)(hS:SqL K H p vs)(hP:Tb (Rep.is K H) vs L)(h0:0<L.length)
  (q:∀ (i:Nat) x a,vs[i]?=some x->L[i]?=some a->Q x H):E1 α K [.ref p] H Q:=⟨p,vs,L,rfl,hS,hP,h0,q⟩
end L2
namespace L2
def Fw(U N:VK):Prop:=∀v H',U v H'->N v H'
theorem Lr{U N:VK}{v:V}{H:Hp}(h:Fw U N)(q:U v H):N v H:=h v H q
def gP(U:Z5)(D:Ends)(G:Ends->Prop):Prop:=∀ (N B:Z5) (R:VK),Back U N->Back D.nx B->Fw D.rt R->G ⟨N,R,B,N⟩
theorem gP.to{U:Z5}{D:Ends}{G:Ends->Prop}(h:gP U D G):G { D with nx:=U,ct:=U,bk:=D.nx }:=h _ _ _ (λ_ _ z=>z) (λ_ _ z=>z) λ_ _ z=>z
end L2
namespace TB
open L2 PySem
section
variable {σ:St}{H:Hp}{D:Ends}{K:RM}{t:TS}{g:TG}{v:V}{a b:Int}
theorem aX{n:Nat}(e:a=(n:Int))(hn:n<=1000000)(Pv:ZT)(h0:Pv 0 σ H)
  (hs:∀i σ' H',i<n->Pv i σ' H'->gP (Pv (i+1)) D λD'=>g (.int i) σ' H' λσ2 H2=>t D' σ2 H2) (hd:∀σ' H',Pv n σ' H'->D.nx σ' H') :
  uw [.int a] H (eJ g t D σ):=L2.aX e hn Pv h0 (λi σ' H' z q=>(hs i σ' H' z q).to) hd
theorem eA{α:Type}[Rep α]{l:List α}(h:At K H v l)(Pv:ZT)(h0:Pv 0 σ H)(hl:∀i σ' H',Pv i σ' H'->ag H H')
  (hs:∀i c w σ' H',l[i]?=some c->At K H' w c->Pv i σ' H'->gP (Pv (i+1)) D λD'=>g w σ' H' λσ2 H2=>t D' σ2 H2) (hd:∀σ' H',Pv l.length σ' H'->D.nx σ' H') :
  gL K v H (eJ g t D σ):=L2.eA h Pv h0 hl (λi c w σ' H' z u q=>(hs i c w σ' H' z u q).to) hd
theorem iG{α:Type}[Rep α]{l:List α}{ia ib:Nat}{H₀:Hp}(h:At K H₀ v l)(Pv:ZT)(h0:Pv 0 σ H)(hl:∀i σ' H',Pv i σ' H'->ag H₀ H')
  (hs:∀i c w σ' H' V' p,l[i]?=some c->At K H₀ w c->Pv i σ' H'->H' p=none->V'=upd H' p (.tup [.int i,w])->ag H' V'->gP (Pv (i+1)) D λD'=>t D' ((σ'.set ia (some (.int i))).set ib (some w)) V')
  (hd:∀σ' H',Pv l.length σ' H'->D.nx σ' H'):vW K [v] H (eJ (BU K 2 (iU (dZ ia) (iU (dZ ib) xf))) t D σ) :=
 L2.iG h Pv h0 hl (λi c w σ' H' V' p z1 z2 z3 z4 z5 z6=>(hs i c w σ' H' V' p z1 z2 z3 z4 z5 z6).to) hd
theorem dQ{H₀:Hp}{α:Type}[Rep α]{l:List α}(h:At K H₀ v l)(Pv:ZT)(h0:Pv 0 σ H)(hl:∀i σ' H',Pv i σ' H'->ag H₀ H')
  (hs:∀i c w σ' H',l[i]?=some c->At K H₀ w c->Pv i σ' H'->gP (Pv (i+1)) D λD'=>g w σ' H' λσ2 H2=>t D' σ2 H2) (hd:∀σ' H',Pv l.length σ' H'->D.nx σ' H') :
  gL K v H (eJ g t D σ):=L2.dQ h Pv h0 hl (λi c w σ' H' z u q=>(hs i c w σ' H' z u q).to) hd
theorem xq{d:Addr}{ps:ZL}(Pv:ZT)(h0:Pv 0 σ H)(hl:∀i σ' H',Pv i σ' H'->H' d=some (.lst (ps.map V.ref)))
  (hs:∀i p σ' H',ps[i]?=some p->Pv i σ' H'->gP (Pv (i+1)) D λD'=>g (.ref p) σ' H' λσ2 H2=>t D' σ2 H2) (hd:∀σ' H',Pv ps.length σ' H'->D.nx σ' H') :
  gL K (.ref d) H (eJ g t D σ):=L2.xq Pv h0 hl (λi p σ' H' z q=>(hs i p σ' H' z q).to) hd
theorem rD{lo n:Nat}(e:a=(lo:Int))(e2:b=((lo+n:Nat):Int))(hn:lo+n<=1000000)(Pv:ZT)(h0:Pv 0 σ H)
  (hs:∀i σ' H',i<n->Pv i σ' H'->gP (Pv (i+1)) D λD'=>g (.int ((lo+i:Nat):Int)) σ' H' λσ2 H2=>t D' σ2 H2) (hd:∀σ' H',Pv n σ' H'->D.nx σ' H'):FA [.int a,.int b] H (eJ g t D σ) :=
 L2.rD e e2 hn Pv h0 (λi σ' H' z q=>(hs i σ' H' z q).to) hd
theorem vZ{P:Sj}{w:World}{a:Addr}{kvs:Z2}{ep:Nat}(h:H a=some (DE P w a kvs ep))(Pv:ZT)(h0:Pv 0 σ H)(hl:∀i σ' H',Pv i σ' H'->H' a=some (DE P w a kvs ep))
  (hs:∀i p σ' H',kvs[i]?=some p->Pv i σ' H'->gP (Pv (i+1)) D λD'=>g (kV p.1) σ' H' λσ2 H2=>t D' σ2 H2) (hd:∀σ' H',Pv kvs.length σ' H'->D.nx σ' H'):E2 P w (.ref a) H (eJ g t D σ) :=
 L2.vZ h Pv h0 hl (λi p σ' H' z q=>(hs i p σ' H' z q).to) hd
end
end TB
namespace L2
inductive CY{α0 α1 α2 α3 α4:Type}(A0:Prop)(A1:Prop)(A2:Prop)(A3:α0->α1->α2->α3->α4->Prop):Prop|mk (_:A0) (_:A1) (_:A2) (x0:α0) (x1:α1) (x2:α2) (x3:α3) (x4:α4) (_:A3 x0 x1 x2 x3 x4)
inductive gv{α0:Type}(A0:Prop)(A1:Prop)(A2:α0->Prop):Prop|mk (_:A0) (_:A1) (x0:α0) (_:A2 x0)
inductive yP{α0 α1 α2 α3 α4 α5 α6:Type}(A0:Prop)(A1:Prop)(A2:α0->Prop)(A3:α0->α1->α2->α3->α4->α5->α6->Prop):Prop|mk (_:A0) (_:A1) (x0:α0) (_:A2 x0) (x1:α1) (x2:α2) (x3:α3) (x4:α4) (x5:α5) (x6:α6) (_:A3 x0 x1 x2 x3 x4 x5 x6)
inductive lK{α0 α1:Type}(A0:Prop)(A1:Prop)(A2:α0->α1->Prop):Prop|mk (_:A0) (_:A1) (x0:α0) (x1:α1) (_:A2 x0 x1)
inductive ED{α0 α1:Type}(A0:Prop)(A1:Prop)(A2:α0->α1->Prop)(A3:α0->α1->Prop)(A4:α0->α1->Prop)(A5:α0->α1->Prop):Prop|mk (_:A0) (_:A1) (x0:α0) (x1:α1) (_:A2 x0 x1) (_:A3 x0 x1) (_:A4 x0 x1) (_:A5 x0 x1)
inductive B1{α0 α1 α2:Type}(A0:Prop)(A1:Prop)(A2:α0->α1->α2->Prop):Prop|mk (_:A0) (_:A1) (x0:α0) (x1:α1) (x2:α2) (_:A2 x0 x1 x2)
inductive GH{α0 α1 α2 α3:Type}(A0:Prop)(A1:Prop)(A2:α0->α1->α2->α3->Prop):Prop|mk (_:A0) (_:A1) (x0:α0) (x1:α1) (x2:α2) (x3:α3) (_:A2 x0 x1 x2 x3)
inductive jW{α0:Type}(A0:Prop)(A1:α0->Prop):Prop|mk (_:A0) (x0:α0) (_:A1 x0)
inductive uX{α0:Type}(A0:Prop)(A1:α0->Prop)(A2:α0->Prop):Prop|mk (_:A0) (x0:α0) (_:A1 x0) (_:A2 x0)
inductive DH{α0:Type}(A0:Prop)(A1:α0->Prop)(A2:α0->Prop)(A3:α0->Prop):Prop|mk (_:A0) (x0:α0) (_:A1 x0) (_:A2 x0) (_:A3 x0)
inductive t9{α0:Type}(A0:Prop)(A1:α0->Prop)(A2:α0->Prop)(A3:α0->Prop)(A4:α0->Prop):Prop|mk (_:A0) (x0:α0) (_:A1 x0) (_:A2 x0) (_:A3 x0) (_:A4 x0)
inductive rP{α0:Type}(A0:Prop)(A1:α0->Prop)(A2:α0->Prop)(A3:α0->Prop)(A4:α0->Prop)(A5:α0->Prop):Prop|mk (_:A0) (x0:α0) (_:A1 x0) (_:A2 x0) (_:A3 x0) (_:A4 x0) (_:A5 x0)
inductive Hu{α0 α1:Type}(A0:Prop)(A1:α0->Prop)(A2:α0->Prop)(A3:α0->Prop)(A4:α0->α1->Prop):Prop|mk (_:A0) (x0:α0) (_:A1 x0) (_:A2 x0) (_:A3 x0) (x1:α1) (_:A4 x0 x1)
inductive GK{α0 α1 α2:Type}(A0:Prop)(A1:α0->Prop)(A2:α0->Prop)(A3:α0->α1->α2->Prop):Prop|mk (_:A0) (x0:α0) (_:A1 x0) (_:A2 x0) (x1:α1) (x2:α2) (_:A3 x0 x1 x2)
inductive CM{α0 α1 α2 α3 α4:Type}(A0:Prop)(A1:α0->Prop)(A2:α0->Prop)(A3:α0->α1->α2->α3->α4->Prop):Prop|mk (_:A0) (x0:α0) (_:A1 x0) (_:A2 x0) (x1:α1) (x2:α2) (x3:α3) (x4:α4) (_:A3 x0 x1 x2 x3 x4)
inductive Ak{α0 α1:Type}(A0:Prop)(A1:α0->α1->Prop):Prop|mk (_:A0) (x0:α0) (x1:α1) (_:A1 x0 x1)
inductive Cn{α0 α1:Type}(A0:Prop)(A1:α0->α1->Prop)(A2:α0->α1->Prop)(A3:α0->α1->Prop):Prop|mk (_:A0) (x0:α0) (x1:α1) (_:A1 x0 x1) (_:A2 x0 x1) (_:A3 x0 x1)
inductive xX{α0 α1:Type}(A0:Prop)(A1:α0->α1->Prop)(A2:α0->α1->Prop)(A3:α0->α1->Prop)(A4:α0->α1->Prop):Prop|mk (_:A0) (x0:α0) (x1:α1) (_:A1 x0 x1) (_:A2 x0 x1) (_:A3 x0 x1) (_:A4 x0 x1)
inductive DA{α0 α1 α2:Type}(A0:Prop)(A1:α0->α1->α2->Prop):Prop|mk (_:A0) (x0:α0) (x1:α1) (x2:α2) (_:A1 x0 x1 x2)
inductive JT{α0 α1 α2:Type}(A0:Prop)(A1:α0->α1->α2->Prop)(A2:α0->α1->α2->Prop):Prop|mk (_:A0) (x0:α0) (x1:α1) (x2:α2) (_:A1 x0 x1 x2) (_:A2 x0 x1 x2)
inductive Ig{α0 α1 α2:Type}(A0:Prop)(A1:α0->α1->α2->Prop)(A2:α0->α1->α2->Prop)(A3:α0->α1->α2->Prop):Prop|mk (_:A0) (x0:α0) (x1:α1) (x2:α2) (_:A1 x0 x1 x2) (_:A2 x0 x1 x2) (_:A3 x0 x1 x2)
inductive pO{α0 α1 α2:Type}(A0:Prop)(A1:α0->α1->α2->Prop)(A2:α0->α1->α2->Prop)(A3:α0->α1->α2->Prop)(A4:α0->α1->α2->Prop):Prop|mk (_:A0) (x0:α0) (x1:α1) (x2:α2) (_:A1 x0 x1 x2) (_:A2 x0 x1 x2) (_:A3 x0 x1 x2) (_:A4 x0 x1 x2)
inductive C6{α0 α1 α2:Type}(A0:Prop)(A1:α0->α1->α2->Prop)(A2:α0->α1->α2->Prop)(A3:α0->α1->α2->Prop)(A4:α0->α1->α2->Prop)(A5:α0->α1->α2->Prop):Prop|mk (_:A0) (x0:α0) (x1:α1) (x2:α2) (_:A1 x0 x1 x2) (_:A2 x0 x1 x2) (_:A3 x0 x1 x2) (_:A4 x0 x1 x2) (_:A5 x0 x1 x2)
inductive so{α0 α1 α2:Type}(A0:Prop)(A1:α0->α1->α2->Prop)(A2:α0->α1->α2->Prop)(A3:α0->α1->α2->Prop)(A4:α0->α1->α2->Prop)(A5:α0->α1->α2->Prop)(A6:α0->α1->α2->Prop):Prop|mk (_:A0) (x0:α0) (x1:α1) (x2:α2) (_:A1 x0 x1 x2) (_:A2 x0 x1 x2) (_:A3 x0 x1 x2) (_:A4 x0 x1 x2) (_:A5 x0 x1 x2) (_:A6 x0 x1 x2)
inductive zp{α0 α1 α2 α3:Type}(A0:Prop)(A1:α0->α1->α2->α3->Prop)(A2:α0->α1->α2->α3->Prop)(A3:α0->α1->α2->α3->Prop)(A4:α0->α1->α2->α3->Prop)(A5:α0->α1->α2->α3->Prop)(A6:α0->α1->α2->α3->Prop):Prop|mk (_:A0) (x0:α0) (x1:α1) (x2:α2) (x3:α3) (_:A1 x0 x1 x2 x3) (_:A2 x0 x1 x2 x3) (_:A3 x0 x1 x2 x3) (_:A4 x0 x1 x2 x3) (_:A5 x0 x1 x2 x3) (_:A6 x0 x1 x2 x3)
inductive yU{α0 α1 α2 α3 α4:Type}(A0:Prop)(A1:α0->α1->α2->α3->α4->Prop)(A2:α0->α1->α2->α3->α4->Prop)(A3:α0->α1->α2->α3->α4->Prop)(A4:α0->α1->α2->α3->α4->Prop)(A5:α0->α1->α2->α3->α4->Prop):Prop|mk (_:A0) (x0:α0) (x1:α1) (x2:α2) (x3:α3) (x4:α4) (_:A1 x0 x1 x2 x3 x4) (_:A2 x0 x1 x2 x3 x4) (_:A3 x0 x1 x2 x3 x4) (_:A4 x0 x1 x2 x3 x4) (_:A5 x0 x1 x2 x3 x4)
inductive nA{α0 α1 α2 α3 α4:Type}(A0:Prop)(A1:α0->α1->α2->α3->α4->Prop)(A2:α0->α1->α2->α3->α4->Prop)(A3:α0->α1->α2->α3->α4->Prop)(A4:α0->α1->α2->α3->α4->Prop)(A5:α0->α1->α2->α3->α4->Prop)(A6:α0->α1->α2->α3->α4->Prop)(A7:α0->α1->α2->α3->α4->Prop):Prop|mk (_:A0) (x0:α0) (x1:α1) (x2:α2) (x3:α3) (x4:α4) (_:A1 x0 x1 x2 x3 x4) (_:A2 x0 x1 x2 x3 x4) (_:A3 x0 x1 x2 x3 x4) (_:A4 x0 x1 x2 x3 x4) (_:A5 x0 x1 x2 x3 x4) (_:A6 x0 x1 x2 x3 x4) (_:A7 x0 x1 x2 x3 x4)
inductive we{α0 α1 α2 α3 α4 α5:Type}(A0:Prop)(A1:α0->α1->α2->α3->α4->α5->Prop)(A2:α0->α1->α2->α3->α4->α5->Prop)(A3:α0->α1->α2->α3->α4->α5->Prop)(A4:α0->α1->α2->α3->α4->α5->Prop)(A5:α0->α1->α2->α3->α4->α5->Prop):Prop|mk (_:A0) (x0:α0) (x1:α1) (x2:α2) (x3:α3) (x4:α4) (x5:α5) (_:A1 x0 x1 x2 x3 x4 x5) (_:A2 x0 x1 x2 x3 x4 x5) (_:A3 x0 x1 x2 x3 x4 x5) (_:A4 x0 x1 x2 x3 x4 x5) (_:A5 x0 x1 x2 x3 x4 x5)
inductive uh{α0 α1 α2 α3 α4 α5 α6:Type}(A0:Prop)(A1:α0->α1->α2->α3->α4->α5->α6->Prop)(A2:α0->α1->α2->α3->α4->α5->α6->Prop)(A3:α0->α1->α2->α3->α4->α5->α6->Prop)(A4:α0->α1->α2->α3->α4->α5->α6->Prop)(A5:α0->α1->α2->α3->α4->α5->α6->Prop)(A6:α0->α1->α2->α3->α4->α5->α6->Prop):Prop|mk (_:A0) (x0:α0) (x1:α1) (x2:α2) (x3:α3) (x4:α4) (x5:α5) (x6:α6) (_:A1 x0 x1 x2 x3 x4 x5 x6) (_:A2 x0 x1 x2 x3 x4 x5 x6) (_:A3 x0 x1 x2 x3 x4 x5 x6) (_:A4 x0 x1 x2 x3 x4 x5 x6) (_:A5 x0 x1 x2 x3 x4 x5 x6) (_:A6 x0 x1 x2 x3 x4 x5 x6)
end L2
namespace L2
section
variable {σ:St}{H:Hp}{Q:VK}{QB:Bool->Hp->Prop}{D:Ends}{K:RM}{t u:TS}{ta tb:TE}{g:TG}{v x y:V}{tt tu:TT}{tA:TA}{c:Bool}
def kOp(r:R2)(tb:TE)(σ:St)(Q:VK):VK:=λx H1=>tb σ H1 λy H2=>r x y H2 Q
def Ot(r:R2)(x:V)(Q:VK):VK:=λy H2=>r x y H2 Q
theorem QQ{r:R2}(h:tb σ H (Ot r x Q)):kOp r tb σ Q x H:=h
theorem Oa{r:R2}(h:r x y H Q):Ot r x Q y H:=h
def kUn(r:V->Hp->VK->Prop)(Q:VK):VK:=λx H1=>r x H1 Q
theorem PH{r:V->Hp->VK->Prop}(h:r x H Q):kUn r Q x H:=h
def Ku(tA:TA)(σ:St)(QA:List V->Hp->Prop):VK:=λx H1=>tA σ H1 λxs H2=>QA (x :: xs) H2
def Gx(x:V)(QA:List V->Hp->Prop):List V->Hp->Prop:=λxs H2=>QA (x :: xs) H2
theorem ME{QA:List V->Hp->Prop}(h:tA σ H (Gx x QA)):Ku tA σ QA x H:=h
theorem J0{QA:List V->Hp->Prop}{xs:Z7}(h:QA (x :: xs) H):Gx x QA xs H:=h
def kCB(r:List V->Hp->VK->Prop)(Q:VK):List V->Hp->Prop:=λvs H1=>r vs H1 Q
theorem Qy{r:List V->Hp->VK->Prop}{vs:Z7}(h:r vs H Q):kCB r Q vs H:=h
def KN(sp:Sp)(Q:VK)(E:XK):List V->Hp->Prop:=λvs H1=>sp (vs++[]) H1 Q E
theorem Mm{sp:Sp}{E:XK}{vs:Z7}(h:sp (vs++[]) H Q E):KN sp Q E vs H:=h
def NF(g:TG)(σ:St)(N:Z5):VK:=λx H1=>g x σ H1 N
theorem Ow{N:Z5}(h:g x σ H N):NF g σ N x H:=h
def OR(t u:TS)(D:Ends)(σ:St):Bool->Hp->Prop:=λb H1=>if b=true then t D σ H1 else u D σ H1
theorem NI(h:t D σ H):OR t u D σ true H:=HC h
def kB(QB:Bool->Hp->Prop):VK:=λx H1=>isB x H1 QB
theorem Rz(h:isB x H QB):kB QB x H:=h
end
end L2
namespace TB
open L2
section
variable {σ:St}{H:Hp}{Q:VK}{QB:Bool->Hp->Prop}{D:Ends}{t u:TS}{ta tb:TE}{g:TG}{tt:TT}{tA:TA}
theorem Ry{r:R2}(h:ta σ H (kOp r tb σ Q)):tOp r ta tb σ H Q:=h
theorem Q6{r:V->Hp->VK->Prop}(h:ta σ H (kUn r Q)):tUn r ta σ H Q:=h
theorem MJ{QA:List V->Hp->Prop}(h:ta σ H (Ku tA σ QA)):iX ta tA σ H QA:=h
theorem RG{r:List V->Hp->VK->Prop}(h:tA σ H (kCB r Q)):tCB r tA σ H Q:=h
theorem Oq{sp:Sp}{E:XK}(h:tA σ H (KN sp Q E)):pU sp [] E tA σ H Q:=h
theorem La(h:tt σ H (OR t u D σ)):JH tt t u D σ H:=h
theorem Om(h:ta σ H (kB QB)):Fx ta σ H QB:=h
theorem Rf(h:ta σ H (kB QB)):tB ta σ H QB:=h
end
end TB
namespace L2
open PySem
section
variable {σ:St}{H:Hp}{Q:VK}{QB:Bool->Hp->Prop}{QS:Z5}{D:Ends}{K:RM}{ta tb to ti:TE}{v x y:V}{tA:TA}{c:Bool}{R:It->Hp->Prop}{vs xs:Z7}
def kS2(ts:rH)(o v:V)(σ:St)(QS:Z5):VK:=λi H2=>ts o i v H2 λH3=>QS σ H3
def kS(ti:TE)(ts:rH)(v:V)(σ:St)(QS:Z5):VK:=λo H1=>ti σ H1 (kS2 ts o v σ QS)
theorem Rj{ts:rH}{o:V}(h:ti σ H (kS2 ts o v σ QS)):kS ti ts v σ QS o H:=h
theorem Qv{ts:rH}{o i:V}(h:ts o i v H λH3=>QS σ H3):kS2 ts o v σ QS i H:=h
def kL(K:RM)(R:It->Hp->Prop):VK:=λx H1=>gL K x H1 R
theorem Rw(h:gL K x H R):kL K R x H:=h
def kR(R:It->Hp->Prop):List V->Hp->Prop:=λvs H1=>uw vs H1 R
theorem RC(h:uw vs H R):kR R vs H:=h
def kE(K:RM)(R:It->Hp->Prop):List V->Hp->Prop:=λvs H1=>vW K vs H1 R
theorem Rg(h:vW K vs H R):kE K R vs H:=h
def kF(K:RM)(f:Str)(Q:VK):VK:=λx H1=>isF K f x H1 Q
theorem Rl{f:Str}(h:isF K f x H Q):kF K f Q x H:=h
def IQ(r:ZU)(x:V)(Q:VK):List V->Hp->Prop:=λxs H2=>r x xs H2 Q
def kBm(K:RM)(T:String)(r:ZU)(tA:TA)(σ:St)(Q:VK):VK:=λx H1=>tyV K T x H1/\tA σ H1 (IQ r x Q)
theorem O3{T:String}{r:ZU}(h:tyV K T x H/\tA σ H (IQ r x Q)):kBm K T r tA σ Q x H:=h
theorem Nh{r:ZU}(h:r x xs H Q):IQ r x Q xs H:=h
def MT(K:RM)(T:String)(r:ZU)(Q:VK):VK:=λx H1=>tyV K T x H1/\r x [] H1 Q
theorem OX{T:String}{r:ZU}(h:tyV K T x H/\r x [] H Q):MT K T r Q x H:=h
def Ou(Q:VK):List V->Hp->Prop:=λxs H1=>xs.length<=SG/\∀p,H1 p=none->Q (.ref p) (upd H1 p (.lst xs))
theorem Nf(h:xs.length<=SG/\∀p,H p=none->Q (.ref p) (upd H p (.lst xs))):Ou Q xs H:=h
def Oy(Q:VK):List V->Hp->Prop:=λxs H1=>xs.length<=SG/\∀p,H1 p=none->Q (.ref p) (upd H1 p (.tup xs))
theorem NC(h:xs.length<=SG/\∀p,H p=none->Q (.ref p) (upd H p (.tup xs))):Oy Q xs H:=h
def Ox(QB:Bool->Hp->Prop):Bool->Hp->Prop:=λc H1=>QB (!c) H1
theorem NB(h:QB (!c) H):Ox QB c H:=h
end
end L2
namespace TB
open L2 PySem
section
variable {σ:St}{H:Hp}{Q:VK}{QB:Bool->Hp->Prop}{K:RM}{ta to ti:TE}{v:V}{tt:TT}{tA:TA}{R:It->Hp->Prop}
theorem OI{ts:rH}{QS:Z5}(h:to σ H (kS ti ts v σ QS)):ND to ti ts v σ H QS:=h
theorem LS(h:ta σ H (kL K R)):zH K ta σ H R:=h
theorem LY(h:tA σ H (kR R)):zP tA σ H R:=h
theorem Lo(h:tA σ H (kE K R)):EU K tA σ H R:=h
theorem PD{f:Str}(h:ta σ H (kF K f Q)):FI K ta f σ H Q:=h
theorem Rq{T:String}{r:ZU}(h:ta σ H (kBm K T r tA σ Q)):tBM K T r ta tA σ H Q:=h
theorem P7{T:String}{r:ZU}(h:ta σ H (MT K T r Q)):J5 K T r ta σ H Q:=h
theorem cH(h:tA σ H (Ou Q)):Bo tA σ H Q:=h
theorem jS(h:tA σ H (Oy Q)):Np tA σ H Q:=h
theorem QV(h:tt σ H (Ox QB)):N8 tt σ H QB:=h
end
end TB
namespace L2
open PySem PySem.W PyProof.Rows
instance:cT Nat where
 lt:=λa b=>decide (a<b)
 rc:=λ{X dh σ H s A x y u v a b} _ hx hy ru rv _ prog w E Q h=>by
  cases(show x=V.int a from hx);cases(show y=V.int b from hy);obtain⟨t,rfl⟩:∃t,u=.int a t:=ru;obtain⟨t',rfl⟩:∃t,v=.int b t:=rv;refine Ym (Ww _ _ t) (Ww _ _ t') slot_int_lt (call_int_lt ⟨nofun,?_⟩);have e:decide ((a:Int)<(b:Int))=decide (a<b):=decide_eq_decide.mpr (by lia)
  rw[e];exact h
theorem Gy{X:Cx}(hc:X.calm=true)(K:RM)(hK:X.K=K)(hu:X.A.units+64<cLine):cR X (.builtin "min") (E1 AT K):=Gg hc K hK (by show X.A.units+1+(0+1)<cLine;lia)
end L2
namespace TB
open L2 PySem
section
variable {σ:St}{H:Hp}{r:VK}{n b c:Z5}{t u:TS}{ta:TE}{g:TG}{D:Ends}{K:RM}
theorem MN(h:∀N:St->Hp->Prop,Back (u ⟨n,r,b,c⟩) N->t ⟨N,r,b,c⟩ σ H):dk t u ⟨n,r,b,c⟩ σ H:=h _ λ_ _ z=>z
theorem MW{t1 t2:TS}(h:∀N2:St->Hp->Prop,Back (u ⟨n,r,b,c⟩) N2->∀N1:St->Hp->Prop,Back (t2 ⟨N2,r,b,c⟩) N1->t1 ⟨N1,r,b,c⟩ σ H):dk t1 (dk t2 u) ⟨n,r,b,c⟩ σ H:=h _ (λ_ _ z=>z) _ (λ_ _ z=>z)
theorem OL{t1 t2 t3:TS}(h:∀N3:St->Hp->Prop,Back (u ⟨n,r,b,c⟩) N3->∀N2:St->Hp->Prop,Back (t3 ⟨N3,r,b,c⟩) N2->∀N1:St->Hp->Prop,Back (t2 ⟨N2,r,b,c⟩) N1->t1 ⟨N1,r,b,c⟩ σ H):dk t1 (dk t2 (dk t3 u)) ⟨n,r,b,c⟩ σ H:=h _ (λ_ _ z=>z) _ (λ_ _ z=>z) _ (λ_ _ z=>z)
theorem Ob{t1 t2 t3 t4:TS}(h:∀N4:St->Hp->Prop,Back (u ⟨n,r,b,c⟩) N4->∀N3:St->Hp->Prop,Back (t4 ⟨N4,r,b,c⟩) N3->∀N2:St->Hp->Prop,Back (t3 ⟨N3,r,b,c⟩) N2->∀N1:St->Hp->Prop,Back (t2 ⟨N2,r,b,c⟩) N1->t1 ⟨N1,r,b,c⟩ σ H):dk t1 (dk t2 (dk t3 (dk t4 u))) ⟨n,r,b,c⟩ σ H:=h _ (λ_ _ z=>z) _ (λ_ _ z=>z) _ (λ_ _ z=>z) _ (λ_ _ z=>z)
theorem Nj{t1 t2 t3 t4 t5:TS}(h:∀N5:St->Hp->Prop,Back (u ⟨n,r,b,c⟩) N5->∀N4:St->Hp->Prop,Back (t5 ⟨N5,r,b,c⟩) N4->∀N3:St->Hp->Prop,Back (t4 ⟨N4,r,b,c⟩) N3->∀N2:St->Hp->Prop,Back (t3 ⟨N3,r,b,c⟩) N2->∀N1:St->Hp->Prop,Back (t2 ⟨N2,r,b,c⟩) N1->t1 ⟨N1,r,b,c⟩ σ H):dk t1 (dk t2 (dk t3 (dk t4 (dk t5 u)))) ⟨n,r,b,c⟩ σ H:=h _ (λ_ _ z=>z) _ (λ_ _ z=>z) _ (λ_ _ z=>z) _ (λ_ _ z=>z) _ (λ_ _ z=>z)
theorem Nb{t1 t2 t3 t4 t5 t6:TS}(h:∀N6:St->Hp->Prop,Back (u ⟨n,r,b,c⟩) N6->∀N5:St->Hp->Prop,Back (t6 ⟨N6,r,b,c⟩) N5->∀N4:St->Hp->Prop,Back (t5 ⟨N5,r,b,c⟩) N4->∀N3:St->Hp->Prop,Back (t4 ⟨N4,r,b,c⟩) N3->∀N2:St->Hp->Prop,Back (t3 ⟨N3,r,b,c⟩) N2->∀N1:St->Hp->Prop,Back (t2 ⟨N2,r,b,c⟩) N1->t1 ⟨N1,r,b,c⟩ σ H):dk t1 (dk t2 (dk t3 (dk t4 (dk t5 (dk t6 u))))) ⟨n,r,b,c⟩ σ H:=h _ (λ_ _ z=>z) _ (λ_ _ z=>z) _ (λ_ _ z=>z) _ (λ_ _ z=>z) _ (λ_ _ z=>z) _ (λ_ _ z=>z)
theorem Nu{t1 t2 t3 t4 t5 t6 t7:TS}(h:∀N7:St->Hp->Prop,Back (u ⟨n,r,b,c⟩) N7->∀N6:St->Hp->Prop,Back (t7 ⟨N7,r,b,c⟩) N6->∀N5:St->Hp->Prop,Back (t6 ⟨N6,r,b,c⟩) N5->∀N4:St->Hp->Prop,Back (t5 ⟨N5,r,b,c⟩) N4->∀N3:St->Hp->Prop,Back (t4 ⟨N4,r,b,c⟩) N3->∀N2:St->Hp->Prop,Back (t3 ⟨N3,r,b,c⟩) N2->∀N1:St->Hp->Prop,Back (t2 ⟨N2,r,b,c⟩) N1->t1 ⟨N1,r,b,c⟩ σ H):dk t1 (dk t2 (dk t3 (dk t4 (dk t5 (dk t6 (dk t7 u)))))) ⟨n,r,b,c⟩ σ H:=h _ (λ_ _ z=>z) _ (λ_ _ z=>z) _ (λ_ _ z=>z) _ (λ_ _ z=>z) _ (λ_ _ z=>z) _ (λ_ _ z=>z) _ (λ_ _ z=>z)
theorem NA(h:n σ H):KA ⟨n,r,b,c⟩ σ H:=h
theorem PK(h:ta σ H (NF g σ n)):BI ta g ⟨n,r,b,c⟩ σ H:=h
def Ky(σ:St)(N:Z5):VK:=λ_ H1=>N σ H1
theorem MH{N:Z5}{x:V}(h:N σ H):Ky σ N x H:=h
theorem Ol(h:ta σ H (Ky σ n)):KU ta ⟨n,r,b,c⟩ σ H:=h
theorem Pg(h:ta σ H r):Nt ta ⟨n,r,b,c⟩ σ H:=h
theorem Cg{U:Z5}{G:Ends->Prop}(h:∀ (N B:Z5) (R:VK),Back U N->Back n B->Fw r R->G ⟨N,R,B,N⟩):gP U ⟨n,r,b,c⟩ G:=h
end
end TB
namespace L2
open PySem PySem.Spec PyProof.Rows
abbrev fsC(ns:List (Str×VC)):Scope:={ kind:=.function,names:=ns,isGenerator:=false,isCoroutine:=false,more:=[] }
section
variable {X:Cx}{a b e o:Expr}{ta tb te to:TE}{pos p pos' apos d5:Pos}{x f:Str}{r:R2}{st:Stmt}{ps:ZN}{sp:Sp}{k k':Nat}{es:Z9}{t:TA}
theorem pa1(ha:PE X e te)(hn:isStar e=false:=by rfl):PA X [e] (iX te nF):=paF ha bT hn
theorem pxl(K:RM)(ha:PE X a ta)(hb:PE X b tb)(hs:Dv b:=by exact λ_ _=>rfl)(hK:X.K=K:=by rfl):PE X (.Subscript a b pos) (tOp (mG K) ta tb):=dY (Jz K hK) ha hb hs
theorem pfl(K:RM)(he:PE X e ta)(hb:attributeBase e f X.env (eval e X.env)=eval e X.env:=by rfl)(hK:X.K=K:=by rfl):PE X (.Attribute e f pos) (FI K ta f):=LU K hK he hb
theorem pcm{op:CmpOp}(ho:OpR X (compareOp op) r)(ha:PE X a ta)(hb:PE X b tb)(h:op≠.In:=by decide)(h2:op≠.NotIn:=by decide):PT X (.Compare a [op] [b] pos) (Fx (tOp r ta tb)):=oi ho ha hb (iT b h h2)
theorem pdf(d:Df X.K X.mg x st ps)(G:aE X.prog X.w X.K X.mg X.base CX0 k d.f d.fd ps sp)(hr:bP k' X.A)(ha:PA X (e :: es) t)(hk:k<=k':=by decide)(hg:Gl X x:=by rfl)(hn:isStar e=false:=by rfl)(f':es.all (λe=>!isStar e)=true:=by rfl)(t!:(x == ("__debug__" : Str))=false:=by decide) :
  PE X (.Call (.Name x p) (e :: es) [] pos) (pU sp [] E0 t):=Nr d G (hr.mono hk) hg ha hn f' t!
theorem pln(K:RM)(hm:X.mg "len" = none)(ha:PE X e te)(hK:X.K=K:=by rfl)(hg:Gl X "len":=by rfl)(hn:isStar e=false:=by rfl):PE X (.Call (.Name "len" p) [e] [] pos) (tCB (Jl K) (iX te nF)):=cO (HD K hK) hg hm PySem.boot_len (paF ha bT hn) hn rfl
theorem pap(K:RM)(ho:PE X o to)(ha:PE X e te)(hK:X.K=K:=by rfl)(Y':attributeBase o "append" X.env (eval o X.env)=eval o X.env:=by rfl)(hn:isStar e=false:=by rfl)(Z':(apos.endLine == d5.line)=true:=by rfl) :
  PE X (.Call (.Attribute o "append" apos) [e] [] d5) (tBM K "list" oI to (iX te nF)):=rm K hK Us PySem.F.slot_list_append PySem.F.type_list_append xU ho (paF ha bT hn) Y' hn rfl (by show 1<30;decide) Z'
theorem pil(K:RM){tg:Expr}(hl:PE X e te)(hK:X.K=K:=by rfl):PI X tg e (zH K te):=JQ K hK hl
theorem prg{tg:Expr}(hm:X.mg "range" = none)(ha:PE X a ta)(hg:Gl X "range":=by rfl)(hn:isStar a=false:=by rfl):PI X tg (.Call (.Name "range" p) [a] [] pos) (zP (iX ta nF)):=Fj hg hm (paF ha bT hn) hn
theorem pgn(i:Nat)(hN:X.N.Nodup)(hi:X.N[i]?=some x:=by rfl)(hx:Loc X.env.scope x:=by first|exact .inl rfl|exact .inr rfl)(hf:X.fn x=true\/X.env.scope.names.lookup x=some .local:=by first|exact .inl rfl|exact .inr rfl|assumption):PG X (.Name x pos) (dZ i):=oj hN hi hx hf
theorem pz(i:Nat)(hN:X.N.Nodup)(he:PE X e te)(hi:X.N[i]?=some x:=by rfl)(hx:Loc X.env.scope x:=by first|exact .inl rfl|exact .inr rfl)(hs:swapsWith e (some (.Name x pos')) pos.line X.env=pure false:=by rfl)(hf:X.fn x=true\/X.env.scope.names.lookup x=some .local:=by first|exact .inl rfl|exact .inr rfl|assumption) :
  PS X (.Assign [.Name x pos'] e pos) (BI te (dZ i)):=NN hN hi hx he hs hf
theorem pfo{tg iter:Expr}{body:List Stmt}{wi:TI}{g:TG}{tb:TS}(hi:PI X tg iter wi)(hg:PG X tg g)(hb:PSs X body tb)(hp:ZI (model X.prog X.w) X.A X.env X.xe:=by exact Ut)(hc:X.calm=true:=by rfl)(hs:∀x,foldedSetIterable iter X.env x=pure x:=by intro _;rfl):PS X (.For tg iter body [] pos) (Iz wi g tb):=OM hp hc hi hg hb hs
end
end L2
namespace L2
open PySem PySem.W PySem.Spec PyProof.Rows
theorem F7{X:Cx}{dh:Z0}{σ:St}{H:Hp}{s:RV}{A:S7}{E:Value->RV->Prop}{α:Type}[Rep α][DecidableEq α][bf α][cT α]{x y:V}{u v:Value}{as bs:List α}(I:Inv X dh σ H s)(hx:At X.K H x as)(hy:At X.K H y bs)(ru:RelV x u)(rv:RelV y v)(hu:A.units+(bf.depth α+1)<cLine){Q:Bool->RV->Prop}(h:Q (kM cT.lt as bs) s) :
  wpAny (model X.prog X.w) A (keyLt' oneType' u v) Q E s:=by
 walk_at "126";obtain⟨ZV,ZY,l1,l2,e1,e2,hc⟩:=AX (A:=A) I h1 r1 h2 r2 hu;rw[keyLt'_oneType,oneLt'_eq];simp only[if_true];obtain⟨⟨cls,dd,data,sl⟩,ho,q!,n,hd⟩:=id l1;obtain⟨⟨cls2,dd2,data2,sl2⟩,X!,hc2,n2,hd2⟩:=id l2;simp only at q! hd hc2 hd2;subst q! hd hc2 hd2;refine RO (wpAny_cRoomFor (by lia) ?_)
 refine RO (wpAny_callSpecialIfBound?_slot (T:="list") ⟨_,ho,rfl⟩ Y4 (V5 Y4 ⟨_,ho,rfl⟩ F.entry_list_lt (F.args_list_lt_2 _ _) (Bg p q _ _ n n2 dd dd2 sl sl2 as bs e1 e2) ⟨ho,X!,hc,?_⟩));exact Um h
def Ri(a b:AT):Bool:=cT.lt a b
def yC(K:RM):List V->Hp->VK->Prop:=λxs H Q=>∃ (p:Addr) (vs:Z7) (L:AC),xs=[.ref p]/\SqL K H p vs/\Tb (Rep.is K H) vs L/\L.length<64 /\
 ∀ (d:Addr) (zs:List (V×AT)),H d=none->zs.Perm (vs.zip L)->Q (.ref d) (upd H d (.lst (zs.map (·.1))))
theorem qD{X:Cx}(K:RM)(hK:X.K=K)(hu:X.A.units+64<cLine):cR X (.builtin "sorted") (yC K):=by
 subst hK;k_all;obtain⟨p,vs,L,rfl,hS,hP,P!,q⟩:=h;f_int;have hl1:=rv.length;have hl2:=hP.length;have row:∀i,i<ZV.length->∃x,At X.K H x (L.getD i [])/\RelV x (ZV.getD i Tq):=λi hi=>by
  have hv:i<vs.length:=by lia
  obtain⟨b,hb,rb⟩:=Paired.getL hP (RL hv);refine⟨vs[i],?_,?_⟩
  .rw[RT,hb];exact rb
  .rw[RT,RL hi];exact Vals.getL rv (RL hv) (RL hi)
 refine FZ (lt:=λi j=>Ri (L.getD i []) (L.getD j [])) pl.isList (by lia) (λh' k v hv=>?_) (λh' k i j C hi hj hC=>?_) λpr a1=>?_
 .obtain⟨i,hi⟩:=Sk hv;obtain⟨x,⟨p1,xs1,ex,hS1,_⟩,rx⟩:=row i (RN.mp hi).1;rw[RT,hi,ex]at rx;cases(show v=SR p1 from rx);obtain⟨_,_,pl1,_⟩:=I.list hS1;obtain⟨o,ho,hc,_⟩:=Di pl1.isList k;exact λA' Q' E' s' k' q'=>V6 (T:="list") ⟨o,k' _ _ ho,hc⟩ q'
 .obtain⟨x,hx,rx⟩:=row i hi;obtain⟨y,hy,ry⟩:=row j hj;unfold ZH;exact F7 (I.kept (h':=h') (t':=s.toks) k) hx hy rx ry (by show X.A.units+1+1+(0+1)<cLine;lia) hC
 .obtain⟨c,hc⟩:=sortedAll_at s.heap ZV (SN (pr.toList.map λi=>ZV.getD i Tq));have hn:H (s.heap.objs.size+1)=none:=I.hok.fresh (T2 _);have psz:pr.size=ZV.length:=by have:=a1.size_eq;simpa using this
  have pm:pr.toList.Perm (RS ZV.length):=by
   have:=a1.toList
   simpa using this
  have L!:∀i∈pr.toList,i<vs.length:=λi hi=>by
   have:=RU.mp (pm.mem_iff.mp hi);lia
  refine⟨.ref (s.heap.objs.size+1),_,I.laid (o:=.lst ((pr.toList.map λi=>(vs.getD i .non,L.getD i [])).map (·.1))) (λb o e=>sortedAll_old e) (T2 _) ⟨?_,_,c,?_,hc⟩,rfl,q _ (pr.toList.map λi=>(vs.getD i .non,L.getD i [])) hn ?_⟩
  .rw[RP,RP,SM,psz];exact small (by lia)
  .rw[Ux];exact rZ rv pr.toList L!
  .have:=pm.map λi=>(vs.getD i V.non,L.getD i []);rw[<- hl1,JJ (by lia)]at this
   l_out
theorem uM{K:RM}{H0 H:Hp}{Q:VK}{d:Addr}{L:AC}(s0:ag H0 H)(h:Rows H0 H d L)(hl:L.length<64)
  (q:∀ (d':Addr) (L':AC) (H':Hp),H d'=none->ag H H'->L'.Perm L->Rows H0 H' d' L'->Q (.ref d') H'):yC K [.ref d] H Q:=by
 obtain⟨h1,ps,h2,h3⟩:=h;refine⟨d,_,L,rfl,SqL.of h2,jV (λp r z=>⟨p,_,rfl,SqL.of z.2.2,dG⟩) h3,hl,λd' zs hd hz=>?_⟩;obtain⟨w!,e,h'⟩:=wy h3 hz;have sm:=ar hd (.lst (zs.map (·.1)));have w:(upd H d' (.lst (zs.map (·.1)))) d'=some (.lst (zs.map (·.1))):=aj;rw[e]at w ⊢;rw[e]at sm;refine q d' (zs.map (·.2)) _ hd sm ?_ ⟨s0.free hd,w!,w,Paired.bK h' λ_ _ z=>⟨z.1,bC z.2.2 hd,sm _ _ z.2.2⟩⟩
 .have:=hz.map (·.2)
  rwa[tm (by rw[RP];exact h3.length)]at this
end L2
set_option maxHeartbeats 4000000
namespace TB
open PySem L2
seal PE PA PS PSs PT PI PG PGs PO
local macro_rules|`(tactic|fin2)=>`(tactic|walk_at "rn")
local macro_rules|`(tactic|k_go)=>`(tactic|walk_at "rx")
local macro_rules|`(tactic|k_in)=>`(tactic|walk_at "rd")
local macro_rules|`(tactic|k_ne)=>`(tactic|walk_at "ifs")
variable {XP:(Z6)->Heap->Prop}{C dx g p q:Addr}{o:HO}{base:Heap}{H H' H0:Hp}{Ls:List (AC)}{D:List (Z3)}{L rows t:AC}{r:Z3}{ps:ZL}{d:ZM}{F M P R S S' W acc fr l qs wa π:AT}{z:AT×AT}{loose own:ZN}{A I a b c e h i j k m n s x y:Nat}{f:Nat->Nat}{ad:Nat->Nat->Nat}{G:Nat->Option Nat}{K:RM}{σ σ':St}{N:Z5}{mg:Z6}{ta:TE}{tt:TT}{Q:VK}{YP:World->Heap->Prop}
local macro_rules | `(tactic| left)=>`(tactic| with_reducible first|refine Ov ?_|refine KL ?_|refine HC ?_|(refine' QT ?e ?_;(case e=>with_unfolding_all exact rfl)))
local macro_rules | `(tactic| left)=>`(tactic| with_reducible first|refine PD ?_|refine Nk ?_|refine M5 ?_|refine O7 ?_|refine MS ?_|refine OI ?_|refine Lo ?_|refine Pp ?_)
local macro_rules | `(tactic| left)=>`(tactic| with_reducible first|refine LS ?_|refine LY ?_|refine NP ?_|refine Q2 ?_|refine IG ?_|refine Nc ?_|refine MR ?_|refine Rq ?_)
local macro_rules | `(tactic| left)=>`(tactic| with_reducible first|refine QR ?_|refine r_notV ?_|refine r_if ?_|refine QX ?_|refine MJ ?_|refine RG ?_|refine Oq ?_|refine Pj ?_)
local macro_rules | `(tactic| left)=>`(tactic| with_reducible first|refine Q6 ?_|refine Om ?_|refine Rf ?_|refine RH ?_|refine QD ?_|refine Q7 ?_|refine QV ?_|refine OT ?_)
local macro_rules | `(tactic| left)=>`(tactic| with_reducible first|refine MH ?_|refine NA ?_|refine PK ?_|refine F9 ?_|refine Ol ?_|refine Pg ?_|refine r_retN ?_|refine Ry ?_)
local macro_rules | `(tactic| left)=>`(tactic| with_reducible first|refine Rg ?_|refine Rl ?_|refine Nh ?_|refine O3 ?_|refine OX ?_|refine Nf ?_|refine NC ?_|refine NB ?_)
local macro_rules | `(tactic| left)=>`(tactic| with_reducible first|refine Qy ?_|refine PH ?_|refine Rz ?_|refine NI ?_|refine Qv ?_|refine Rj ?_|refine Rw ?_|refine RC ?_)
local macro_rules | `(tactic| left)=>`(tactic| with_reducible first|refine Cg (fun _ _ _ _ _ _=>?_)|refine Lr (by assumption) ?_|refine Oa ?_|refine QQ ?_|refine Ow ?_|refine J0 ?_|refine ME ?_|refine Mm ?_)
local macro_rules | `(tactic| left)=>`(tactic| with_reducible first|refine Nu (fun _ _ _ _ _ _ _ _ _ _ _ _ _ _=>?_)|refine Nb (fun _ _ _ _ _ _ _ _ _ _ _ _=>?_)|refine Nj (fun _ _ _ _ _ _ _ _ _ _=>?_)|refine Ob (fun _ _ _ _ _ _ _ _=>?_)|refine OL (fun _ _ _ _ _ _=>?_)|refine MW (fun _ _ _ _=>?_)|refine MN (fun _ _=>?_)|refine bL (by assumption) ?_)
local macro_rules | `(tactic| walk_at "rw1")=>`(tactic| with_reducible first|left|refine r_C ?_|refine Ko ?_|refine EV ?_|refine E7 ?_)
local macro_rules | `(tactic| walk_at "rs1")=>`(tactic| with_reducible first|walk_at "rw1" | refine cH ?_|refine jS ?_)
local macro_rules | `(tactic| walk_at "rd1")=>`(tactic| with_reducible first|walk_at "rs1" | refine La ?_)
local macro_rules | `(tactic| walk_at "rs")=>`(tactic| repeat walk_at "rs1")
local macro_rules | `(tactic| walk_at "rd")=>`(tactic| repeat walk_at "rd1")
local macro_rules | `(tactic| walk_at "rw")=>`(tactic| repeat walk_at "rw1")
local macro_rules | `(tactic| walk_at "wr")=>`(tactic| repeat (first|exact jj|refine wz ?_ ?_|refine Gv ?_ (by decide)|exact HN rfl))
local macro_rules | `(tactic| right)=>`(tactic| with_reducible first|refine P9 ?_|refine AM (by first|assumption|lia) ?_|refine Ht (by first|assumption|lia) (by first|assumption|lia) ?_|refine Ny (by lia) ?_|refine Ko ?_|refine EV ?_|refine E7 ?_|refine P7 ?_)
local macro_rules | `(tactic| right)=>`(tactic| with_reducible first|refine Rp ?_|refine r_C ?_|refine Rc ?_|refine Nz ?_|refine Qm ?_|refine Qw ?_|refine Qp ?_|refine O1 ?_|refine Pm ?_)
local macro_rules | `(tactic| right)=>`(tactic| left)
local macro_rules | `(tactic| walk_at "rx1")=>`(tactic| first|right|refine bw (by assumption) (by rfl) ?_|refine cS (by assumption) ?_|refine r_in (by assumption) ?_|refine xa (by assumption) ?_)
local macro_rules | `(tactic| walk_at "rx")=>`(tactic| repeat walk_at "rx1")
local macro_rules | `(tactic| walk_at "ifs")=>`(tactic| with_reducible refine La ?_)
local macro_rules | `(tactic| walk_at "rn")=>`(tactic| repeat right)
local macro_rules | `(tactic| symm) => `(tactic| walk_at "rg")
def top(i:Nat):Stmt:=PySem.Challenge.pw_tracebook_k53_rows_are_traces.main.body.getD i (.Pass ⟨0,0,0,0⟩)
abbrev pJ:Stmt:=top 17
abbrev rC:Stmt:=top 18
abbrev kW:Stmt:=top 19
abbrev yy:Stmt:=top 20
abbrev rF:Stmt:=top 21
abbrev pP:Stmt:=top 22
abbrev xJ:Stmt:=top 23
abbrev mF:Stmt:=top 24
abbrev xw:Stmt:=top 25
abbrev D7:Stmt:=top 26
abbrev Eg:Stmt:=top 27
abbrev sy:Stmt:=top 28
abbrev AG:Stmt:=top 30
abbrev yw:Stmt:=top 31
abbrev oY:Stmt:=top 32
abbrev tw:Stmt:=top 33
abbrev qM:Stmt:=top 35
abbrev yd:Stmt:=top 36
abbrev mw:Stmt:=top 37
abbrev wH:Stmt:=top 38
abbrev mB:Stmt:=top 39
abbrev qU:Stmt:=top 40
abbrev DB:Stmt:=top 41
abbrev sN:Stmt:=top 42
abbrev qO:Stmt:=top 43
abbrev kN:Stmt:=top 44
abbrev yb:Stmt:=top 45
abbrev Dk:Stmt:=top 47
abbrev mR:Stmt:=top 48
abbrev n9:Stmt:=top 51
abbrev As:Stmt:=top 52
abbrev qu:Stmt:=top 53
abbrev xR:Stmt:=top 54
abbrev yo:Stmt:=top 57
abbrev kO:Stmt:=top 58
abbrev qC:Stmt:=top 59
abbrev tM:Stmt:=top 60
abbrev tP:Stmt:=top 61
abbrev sg:Stmt:=top 62
abbrev DR:Stmt:=top 63
abbrev pV:Stmt:=top 64
abbrev rV:Stmt:=top 65
abbrev vT:Stmt:=top 66
abbrev Ag:Stmt:=top 67
abbrev mC:Stmt:=top 71
abbrev uk:Stmt:=top 74
abbrev yF:Stmt:=top 75
abbrev n0:Stmt:=top 76
abbrev rQ:Stmt:=top 77
abbrev jC:Stmt:=top 78
abbrev lR:Stmt:=top 79
abbrev n5:Stmt:=top 80
abbrev vR:Stmt:=top 82
abbrev sV:Stmt:=top 83
abbrev vv:Stmt:=top 84
abbrev uL:Stmt:=top 85
abbrev rY:Stmt:=top 86
abbrev yD:Stmt:=top 87
abbrev qe:Stmt:=top 88
abbrev tL:Stmt:=top 89
abbrev jM:Stmt:=top 90
abbrev qB:Stmt:=top 91
abbrev jY:Stmt:=top 93
abbrev jR:Stmt:=top 94
abbrev jh:Stmt:=top 95
abbrev mD:Stmt:=top 96
abbrev vq:Stmt:=top 97
abbrev FD:Stmt:=top 98
abbrev rA:Stmt:=inClass (top 16) 0
abbrev rW:Stmt:=inClass (top 55) 0
abbrev oA:Stmt:=inClass (top 55) 1
abbrev qP:Stmt:=inClass (top 55) 2
abbrev uR:Stmt:=inClass (top 69) 0
abbrev tF:Stmt:=inClass (top 69) 2
abbrev kP:Stmt:=inClass (top 70) 0
abbrev nR:Stmt:=inClass (top 73) 0
theorem jN:av ["table","rows","unit","backs"] ["table"] (ah pJ):=fsc
theorem kH:av ["rows","many","row"] ["rows"] (ah rC):=fsc
theorem eC:av ["rows","many","row","column"] ["rows"] (ah kW):=fsc
theorem uW:av ["rows","thing"] ["rows"] (ah yy):=fsc
theorem qt:av ["rows","thing","other"] ["rows","thing"] (ah rF):=fsc
theorem Ct:av ["rows","unit"] ["rows","unit"] (ah pP):=fsc
theorem uY:av ["rows","unit","thing","other"] ["rows","unit","thing"] (ah xJ):=fsc
theorem dO:av ["rows","many","one","two","three"] ["rows"] (ah mF):=fsc
theorem lC:av ["group","things","reached","thing"] ["group","things"] (ah xw):=fsc
theorem Cm:av ["group","thing","many","left"] ["group","thing","many"] (ah D7):=fsc
theorem mr:av ["group","thing","many","reached"] ["group","thing"] (ah Eg):=fsc
theorem pT:av ["group","orders","many"] ["group"] (ah sy):=fsc
theorem GZ:av ["group","thing","by"] ["group","thing","by"] (ah AG):=fsc
theorem gE:av ["group","found","seen","thing","fellows","fellow"] ["group"] (ah yw):=fsc
theorem CS:av ["group","thing"] ["group","thing"] (ah oY):=fsc
theorem rK:av ["group","thing","others","other"] ["group","thing","others"] (ah tw):=fsc
theorem zu:av ["group","some"] ["group","some"] (ah qM):=fsc
theorem F1:av ["group","some"] ["group","some"] (ah yd):=fsc
theorem yS:av ["group","some"] ["group","some"] (ah mw):=fsc
theorem Ju:av ["some"] ["some"] (ah wH):=fsc
theorem gK:av ["group","some","one","other"] ["group","some"] (ah mB):=fsc
theorem eD:av ["group","some","words","reached","place","thing","further","part"] ["group","some"] (ah qU):=fsc
theorem p6:av ["group","part","found","one","other"] ["group","part"] (ah DB):=fsc
theorem AO:av ["group","part","by_thing"] ["group","part"] (ah sN):=fsc
theorem EA:av ["group","part","thing"] ["group","part","thing"] (ah qO):=fsc
theorem xm:av ["group","part"] ["group","part"] (ah kN):=fsc
theorem vx:av ["group","part","by","thing"] ["group","part","by"] (ah yb):=fsc
theorem qd:av ["group","found","thing"] ["group"] (ah Dk):=fsc
theorem mq:av ["group","part","thing"] ["group","part"] (ah mR):=fsc
theorem vH:av ["many"] ["many"] (ah n9):=fsc
theorem rR:av ["many","found","divisor"] ["many"] (ah As):=fsc
theorem gD:av ["many","found","left","divisor"] ["many","found"] (ah qu):=fsc
theorem fG:av ["polynomial","divider","degree","left","taken","times","start","place"] ["polynomial","divider"] (ah xR):=fsc
theorem vN:av ["group","spokes","least"] ["group","spokes"] (ah yo):=fsc
theorem xr:av ["part","marks","spokes"] ["part","marks","spokes"] (ah kO):=fsc
theorem eY:av ["group","part","marks","spokes","many","mark","one","other"] ["group","part","marks","spokes"] (ah qC):=fsc
theorem qL:av ["group","part","marks","spokes","found"] ["group","part","marks","spokes"] (ah tM):=fsc
theorem qW:av ["group","part","by","thing"] ["group","part","by"] (ah tP):=fsc
theorem kQ:av ["group","part","marks","by","mark","thing"] ["group","part","marks","by"] (ah sg):=fsc
theorem JN:av ["group","part","marks","thing","spokes"] ["group","part","marks","thing","spokes"] (ah DR):=fsc
theorem cX:av ["group","part","marks","thing","spokes","mark","steps","aim","origins","many","base","greater","found","own"] ["group","part","marks","thing","spokes"] (ah pV):=fsc
theorem kJ:av ["group","part","thing","steps"] ["group","part","thing"] (ah rV):=fsc
theorem iD:av ["group","part","spokes","many","reached","found","thing","taken"] ["group","part","spokes"] (ah vT):=fsc
theorem qV:av ["lists","found","some"] ["lists"] (ah Ag):=fsc
theorem dM:av ["group","part","carriers","found","number","carrier","k","thing"] ["group","part"] (ah mC):=fsc
theorem xv:av ["way","wheel"] ["way"] (ah uk):=fsc
theorem vm:av ["group","spokes","many"] ["group","spokes"] (ah yF):=fsc
theorem vO:av ["way"] ["way"] (ah n0):=fsc
theorem lz:av ["group","spokes","found","ways","marks"] ["group","spokes"] (ah rQ):=fsc
theorem mL:av ["group","part","marks","by","mark"] ["group","part","marks","by"] (ah jC):=fsc
theorem kK:av ["group","part","marks","leading","spokes","keeper","taken"] ["group","part","marks","leading","spokes"] (ah lR):=fsc
theorem iS:av ["group","part","marks","leading","times"] ["group","part","marks","leading"] (ah n5):=fsc
theorem C8:av ["_law_script","_law_k"] ["_law_script","_law_k"] (ah vR):=fsc
theorem b8:av ["_law_one","_law_two","_law_number","_law_some","_law_top","_law_steps","_law_room","_law_first","_law_second","_law_third"] ["_law_one","_law_two"] (ah sV):=fsc
theorem sW:av ["_law_sizes_here","_law_number","_law_kinds"] ["_law_sizes_here","_law_number"] (ah vv):=fsc
theorem eL:av ["_law_many","_law_steps","_law_number","_law_units","_law_u","_law_found","_law_k"] ["_law_many","_law_steps","_law_number"] (ah uL):=fsc
theorem cg:av ["_law_place","_law_sizes_here","_law_kind_here","_law_units","_law_x","_law_y","_law_w"] ["_law_place","_law_sizes_here","_law_kind_here","_law_units"] (ah rY):=fsc
theorem i4:av ["_law_one","_law_other","_law_sizes_here","_law_both","_law_x","_law_y","_law_w"] ["_law_one","_law_other","_law_sizes_here"] (ah yD):=fsc
theorem b9:av ["_law_sizes_here","_law_turn","_law_end","_law_calm","_law_rows_here","_law_led","_law_i","_law_one","_law_row","_law_j","_law_other","_law_place"] ["_law_sizes_here","_law_turn","_law_end"] (ah qe):=fsc
theorem i7:av ["_law_many","_law_number","_law_names_here","_law_k"] ["_law_many","_law_number"] (ah tL):=fsc
theorem a7:av ["_law_script","_law_start","_law_one","_law_two","_law_sizes_here","_law_stirred","_law_kind_here","_law_units","_law_k","_law_calm","_law_turn","_law_end","_law_rows_here","_law_names_here","_law_row","_law_table","_law_a","_law_b","_law_thing"] ["_law_script","_law_start"] (ah jM):=fsc
theorem ow:av ["_law_table","_law_a"] ["_law_table"] (ah qB):=fsc
theorem eZ:av ["_law_table","_law_units","_law_powers","_law_many"] ["_law_table"] (ah jY):=fsc
theorem cE:av ["_law_table","_law_part","_law_marks","_law_unit_here","_law_mark_of","_law_seen","_law_carriers","_law_x","_law_h","_law_stays_here","_law_a","_law_found"] ["_law_table","_law_part","_law_marks"] (ah jR):=fsc
theorem cG:av ["_law_counts_here","_law_many","_law_found","_law_left","_law_prime","_law_step"] ["_law_counts_here"] (ah jh):=fsc
theorem kT:av ["_law_some","_law_spokes","_law_counts_here","_law_spoke"] ["_law_some","_law_spokes"] (ah mD):=fsc
theorem eN:av ["_law_table","_law_book","_law_k","_law_way","_law_stays_here","_law_j","_law_thing","_law_counts_here","_law_i"] ["_law_table","_law_book","_law_k"] (ah vq):=fsc
theorem gQ:av ["_law_script","_law_table","_law_least","_law_spokes","_law_book","_law_many","_law_some","_law_k"] ["_law_script"] (ah FD):=fsc
theorem zk:av ["self","rows","unit","backs"] ["self","rows","unit","backs"] (ah rA):=fsc
theorem zw:av ["self","many"] ["self","many"] (ah rW):=fsc
theorem uK:av ["self","counts"] ["self","counts"] (ah oA):=fsc
theorem fM:av ["self","counts","step","start","totals","k","many","place"] ["self","counts","step","start"] (ah qP):=fsc
theorem CQ:av ["self","group","spokes","deeds"] ["self","group","spokes","deeds"] (ah uR):=fsc
theorem i6:av ["self","thing","counts","place","move"] ["self","thing"] (ah tF):=fsc
theorem oN:av ["self","group","part","marks","spokes","deeds"] ["self","group","part","marks","spokes"] (ah kP):=fsc
theorem AR:av ["self","group","spokes","ways"] ["self","group","spokes","ways"] (ah nR):=fsc
theorem qy:aJ (ah pJ) ["table","rows","unit","backs"] (fsC [(".0",.local),("row",.local),("list",.globalImplicit)]) ["row"] []:=bX
theorem qp:aJ (ah pP) ["rows","unit"] (fsC [(".0",.local),("thing",.local),("back_of",.globalImplicit),("rows",.free),("unit",.free)]) ["thing"] [0,1]:=bX
theorem uJ:aJ (ah sy) ["group","orders","many"] (fsC [(".0",.local),("thing",.local),("order",.globalImplicit),("group",.free)]) ["thing"] [0]:=bX
theorem u9:aJ (ah sy) ["group","orders","many"] (fsC [(".0",.local),("times",.local),("many",.free)]) ["times"] [2]:=bX
theorem qw:aJ (ah oY) ["group","thing"] (fsC [(".0",.local),("by",.local),("turned",.globalImplicit),("group",.free),("thing",.free)]) ["by"] [0,1]:=bX
theorem mO:aJ (ah mw) ["group","some"] (fsC [(".0",.local),("number",.local),("group",.free)]) ["number"] [0]:=bX
theorem u6:aJ (ah wH) ["some"] (fsC [(".0",.local),("place",.local),("some",.free)]) ["place"] [0]:=bX
theorem qI:aJ (ah qU) ["group","some","words","reached","place","thing","further","part"] (fsC [(".0",.local),("thing",.local),("words",.free)]) ["thing"] [2]:=bX
theorem vA:aJ (ah sN) ["group","part","by_thing"] (fsC [(".0",.local),("thing",.local),("side_of",.globalImplicit),("group",.free),("part",.free)]) ["thing"] [0,1]:=bX
theorem vB:aJ (ah sN) ["group","part","by_thing"] (fsC [(".0",.local),("thing",.local),("side",.local)]) ["thing","side"] []:=bX
theorem qJ:aJ (ah qO) ["group","part","thing"] (fsC [(".0",.local),("other",.local),("group",.free),("thing",.free)]) ["other"] [0,2]:=bX
theorem mf:aJ (ah kN) ["group","part"] (fsC [(".0",.local),("side",.local)]) ["side"] []:=bX
theorem lT:aJ (ah kO) ["part","marks","spokes"] (fsC [(".0",.local),("mark",.local),("spokes",.free)]) ["mark"] [2]:=bX
theorem qk:aJ (ah pV) ["group","part","marks","thing","spokes","mark","steps","aim","origins","many","base","greater","found","own"] (fsC [(".0",.local),("one",.local),("origins",.free),("own",.free),("spokes",.free)]) ["one"] [8,13,4]:=bX
theorem xN:aJ (ah vT) ["group","part","spokes","many","reached","found","thing","taken"] (fsC [(".0",.local),("marks",.local),("taken_on",.globalImplicit),("group",.free),("many",.free),("reached",.free),("thing",.free)]) ["marks"] [0,3,4,6]:=bX
theorem yA:aJ (ah vT) ["group","part","spokes","many","reached","found","thing","taken"] (fsC [(".0",.local),("greater",.local),("ways",.local)]) ["greater","ways"] []:=bX
theorem m7:aJ (ah mC) ["group","part","carriers","found","number","carrier","k","thing"] (fsC [(".0",.local),("row",.cell),("carriers",.free),("found",.free)]) ["row"] [2,3]:=bX
theorem m9:aJ (fsC [(".0",.local),("row",.cell),("carriers",.cell),("found",.cell)]) ["row","carriers","found"] (fsC [(".0",.local),("carrier",.local),("found",.free),("row",.free)]) ["carrier"] [2,0]:=bX
theorem sZ:aJ (ah uk) ["way","wheel"] (fsC [(".0",.local),("fellows",.local),("way",.free),("wheel",.free)]) ["fellows"] [0,1]:=bX
theorem rB:aJ (ah rQ) ["group","spokes","found","ways","marks"] (fsC [(".0",.local),("by",.local),("marks_turned",.globalImplicit),("found",.free),("group",.free),("marks",.free)]) ["by"] [2,0,4]:=bX
theorem kU:aJ (ah jC) ["group","part","marks","by","mark"] (fsC [(".0",.local),("thing",.local),("turned",.globalImplicit),("by",.free),("group",.free),("mark",.free)]) ["thing"] [3,0,4]:=bX
theorem nr:aJ (ah lR) ["group","part","marks","leading","spokes","keeper","taken"] (fsC [(".0",.local),("more",.local),("Lifted",.globalImplicit),("group",.free),("spokes",.free),("taken",.free)]) ["more"] [0,4,6]:=bX
theorem qo:aJ (ah qe) ["_law_sizes_here","_law_turn","_law_end","_law_calm","_law_rows_here","_law_led","_law_i","_law_one","_law_row","_law_j","_law_other","_law_place"] (fsC [(".0",.local),("_law_place",.local),("_law_turn",.free)]) ["_law_place"] [1]:=bX
theorem oq:aJ (ah jM) ["_law_script","_law_start","_law_one","_law_two","_law_sizes_here","_law_stirred","_law_kind_here","_law_units","_law_k","_law_calm","_law_turn","_law_end","_law_rows_here","_law_names_here","_law_row","_law_table","_law_a","_law_b","_law_thing"] (fsC [(".0",.local),("_law_place",.local),("_law_turned",.globalImplicit),("_law_kind_here",.free),("_law_sizes_here",.free),("_law_units",.free)]) ["_law_place"] [6,4,7]:=bX
theorem nX:aJ (ah jM) ["_law_script","_law_start","_law_one","_law_two","_law_sizes_here","_law_stirred","_law_kind_here","_law_units","_law_k","_law_calm","_law_turn","_law_end","_law_rows_here","_law_names_here","_law_row","_law_table","_law_a","_law_b","_law_thing"] (fsC [(".0",.local),("_law_row",.local),("list",.globalImplicit)]) ["_law_row"] []:=bX
theorem oy:aJ (ah jY) ["_law_table","_law_units","_law_powers","_law_many"] (fsC [(".0",.local),("_law_a",.local),("_law_unit_of",.globalImplicit),("_law_table",.free)]) ["_law_a"] [0]:=bX
theorem oe:aJ (ah jY) ["_law_table","_law_units","_law_powers","_law_many"] (fsC [(".0",.local),("_law_a",.local),("_law_powers",.free),("_law_table",.free)]) ["_law_a"] [2,0]:=bX
theorem oR:aJ (ah jR) ["_law_table","_law_part","_law_marks","_law_unit_here","_law_mark_of","_law_seen","_law_carriers","_law_x","_law_h","_law_stays_here","_law_a","_law_found"] (fsC [(".0",.local),("_law_x",.local),("_law_back",.local),("_law_a",.free),("_law_table",.free)]) ["_law_x","_law_back"] [10,0]:=bX
theorem nZ:aJ (ah jR) ["_law_table","_law_part","_law_marks","_law_unit_here","_law_mark_of","_law_seen","_law_carriers","_law_x","_law_h","_law_stays_here","_law_a","_law_found"] (fsC [(".0",.local),("_law_h",.local),("_law_mark_of",.free)]) ["_law_h"] [4]:=bX
theorem nt:aJ (ah jh) ["_law_counts_here","_law_many","_law_found","_law_left","_law_prime","_law_step"] (fsC [(".0",.local),("_law_k",.local),("_law_found",.free),("_law_step",.free)]) ["_law_k"] [2,5]:=bX
theorem nv:aJ (ah jh) ["_law_counts_here","_law_many","_law_found","_law_left","_law_prime","_law_step"] (fsC [(".0",.local),("_law_k",.local)]) ["_law_k"] []:=bX
theorem nu:aJ (ah mD) ["_law_some","_law_spokes","_law_counts_here","_law_spoke"] (fsC [(".0",.local),("_law_k",.local)]) ["_law_k"] []:=bX
theorem By:aJ (ah FD) ["_law_script","_law_table","_law_least","_law_spokes","_law_book","_law_many","_law_some","_law_k"] (fsC [(".0",.local),("_law_row",.local),("list",.globalImplicit)]) ["_law_row"] []:=bX
theorem lW:aJ (ah kP) ["self","group","part","marks","spokes","deeds"] (fsC [(".0",.local),("moves",.local),("marks",.free)]) ["moves"] [3]:=bX
theorem lU:aJ (fsC [(".0",.local),("moves",.local),("marks",.cell)]) ["moves","marks"] (fsC [(".0",.local),("number",.local),("k",.local),("marks",.free)]) ["number","k"] [1]:=bX
theorem ox:aJ (ah nR) ["self","group","spokes","ways"] (fsC [(".0",.local),("way",.local),("row_of",.globalImplicit)]) ["way"] []:=bX
abbrev Fa(P:Sj)(w:World)(base:Heap){x:Str}{st:Stmt}{ps:ZN}(d:Df K mg x st ps)(k:Nat)(sp:Sp):Prop:=aE P w K mg base CX0 k d.f d.fd ps sp
abbrev R?(a:Addr):Option V:=some (.ref a)
abbrev I?(a:Int):Option V:=some (.int a)
set_option genInjectivity false in
set_option genSizeOf false in
structure Txt(K:RM)(mg:Z6) where
 lg:Df K mg "group_of" pJ ["table"]
 jc:Df K mg "check_size" rC ["rows"]
 eQ:Df K mg "check_strangers" kW ["rows"]
 nq:Df K mg "unit_of" yy ["rows"]
 je:Df K mg "leaves_all" rF ["rows","thing"]
 lE:Df K mg "backs_of" pP ["rows","unit"]
 nC:Df K mg "back_of" xJ ["rows","unit","thing"]
 fA:Df K mg "check_together" mF ["rows"]
 iO:Df K mg "product" xw ["group","things"]
 iM:Df K mg "power" D7 ["group","thing","many"]
 oo:Df K mg "order" Eg ["group","thing"]
 sA:Df K mg "turns" sy ["group"]
 iq:Df K mg "turned" AG ["group","thing","by"]
 ku:Df K mg "classes" yw ["group"]
 kY:Df K mg "class_of" oY ["group","thing"]
 jQ:Df K mg "goes_with" tw ["group","thing","others"]
 dX:Df K mg "check_part" qM ["group","some"]
 mI:Df K mg "is_part" yd ["group","some"]
 jo:Df K mg "all_things" mw ["group","some"]
 sG:Df K mg "rises" wH ["some"]
 fD:Df K mg "holds_products" mB ["group","some"]
 iP:Df K mg "closure" qU ["group","some"]
 nW:Df K mg "mixed" DB ["group","part"]
 sE:Df K mg "sides" sN ["group","part"]
 mP:Df K mg "side_of" qO ["group","part","thing"]
 hX:Df K mg "carriers_of" kN ["group","part"]
 mW:Df K mg "led_out" yb ["group","part","by"]
 sF:Df K mg "heart" Dk ["group"]
 fU:Df K mg "least_leading" mR ["group","part"]
 eT:Df K mg "check_spokes" n9 ["many"]
 pB:Df K mg "circle" As ["many"]
 hZ:Df K mg "next_circle" qu ["many","found"]
 ky:Df K mg "divided" xR ["polynomial","divider"]
 fg:Df K mg "serving" yo ["group","spokes"]
 ik:Df K mg "check_marks" kO ["part","marks","spokes"]
 ic:DfD K mg "first_break" qC ["group","part","marks","spokes"] "spokes" 3
 gN:Df K mg "check_way" tM ["group","part","marks","spokes"]
 jK:Df K mg "check_led" tP ["group","part","by"]
 jg:Df K mg "check_kept" sg ["group","part","marks","by"]
 sD:DfD K mg "grown" DR ["group","part","marks","thing","spokes"] "spokes" 4
 i5:Df K mg "taken_on" pV ["group","part","marks","thing","spokes"]
 jk:Df K mg "steps_into" rV ["group","part","thing"]
 uA:DfD K mg "ones" vT ["group","part","spokes"] "spokes" 2
 qg:Df K mg "joined" Ag ["lists"]
 jm:Df K mg "side_moves" mC ["group","part"]
 mh:Df K mg "row_of" uk ["way"]
 ni:DfD K mg "book_of" yF ["group","spokes"] "spokes" 1
 gH:Df K mg "size_and_row" n0 ["way"]
 mT:Df K mg "ways_of" rQ ["group","spokes"]
 e8:Df K mg "marks_turned" jC ["group","part","marks","by"]
 jd:Df K mg "ways_above" lR ["group","part","marks","leading","spokes"]
 gB:Df K mg "least_keeper" n5 ["group","part","marks","leading"]
 fv:Df K mg "_law_cell" vR ["_law_script","_law_k"]
 jU:Df K mg "_law_sizes" sV ["_law_one","_law_two"]
 lF:Df K mg "_law_kind" vv ["_law_sizes_here","_law_number"]
 kX:Df K mg "_law_unit" uL ["_law_many","_law_steps","_law_number"]
 jq:Df K mg "_law_turned" rY ["_law_place","_law_sizes_here","_law_kind_here","_law_units"]
 kb:Df K mg "_law_sum" yD ["_law_one","_law_other","_law_sizes_here"]
 kZ:Df K mg "_law_rows" qe ["_law_sizes_here","_law_turn","_law_end"]
 j7:Df K mg "_law_names" tL ["_law_many","_law_number"]
 jZ:Df K mg "_law_group" jM ["_law_script","_law_start"]
 fN:Df K mg "_law_unit_of" qB ["_law_table"]
 jO:Df K mg "_law_turns" jY ["_law_table"]
 jX:Df K mg "_law_stays" jR ["_law_table","_law_part","_law_marks"]
 iZ:Df K mg "_law_nought" jh ["_law_counts_here"]
 ju:Df K mg "_law_counts" mD ["_law_some","_law_spokes"]
 lq:Df K mg "_law_good" vq ["_law_table","_law_book","_law_k"]
 sI:Df K mg "law" FD ["_law_script"]
 aB:Addr
 wV:Addr
 v8:TC
 L1:mg "Group" = some (.ref aB)
 fQ:Cls K aB
 My:Mk K aB wV
 Mt:Fun K "__init__" "Group.__init__" rA wV v8
 Lq:Binds K v8 ["self","rows","unit","backs"] []
 rg:bG K aB "many"
 mj:bG K aB "rows"
 lX:bG K aB "unit"
 ql:bG K aB "backs"
 cq:Addr
 xl:Addr
 wm:TC
 Mp:mg "Wheel" = some (.ref cq)
 gF:Cls K cq
 Lh:Mk K cq xl
 LD:Fun K "__init__" "Wheel.__init__" rW xl wm
 LV:Binds K wm ["self","many"] []
 nG:bG K cq "rim"
 jx:bG K cq "spokes"
 Bb:bG K cq "size"
 jw:Addr
 jF:TC
 xp:Meth K cq "lowest" jw
 xb:Fun K "lowest" "Wheel.lowest" oA jw jF
 xo:Binds K jF ["self","counts"] []
 l9:Addr
 l8:TC
 Al:Meth K cq "laid" l9
 Bf:Fun K "laid" "Wheel.laid" qP l9 l8
 AZ:Binds K l8 ["self","counts","step","start"] []
 lh:Addr
 zS:Addr
 Fi:TC
 QI:mg "Way" = some (.ref lh)
 RK:Cls K lh
 RJ:Mk K lh zS
 P6:Fun K "__init__" "Way.__init__" uR zS Fi
 Pw:Binds K Fi ["self","group","spokes","deeds"] []
 Qq:Ek K lh "__init__" zS
 O0:bG K lh "group"
 MX:bG K lh "spokes"
 Qi:bG K lh "size"
 OY:bG K lh "deeds"
 jL:Addr
 nK:TC
 OZ:Meth K lh "trace" jL
 CC:Fun K "trace" "Way.trace" tF jL nK
 tG:Binds K nK ["self","thing"] []
 aD:Addr
 tT:Addr
 uc:TC
 Ij:mg "Lifted" = some (.ref aD)
 c9:Cls K aD
 Jy:Mk K aD tT
 Ci:eS K "__init__" "Lifted.__init__" kP tT uc
 oU:Meth K aD "trace" jL
 qx:bG K aD "part"
 oz:bG K aD "marks"
 oH:bG K aD "group"
 nB:bG K aD "spokes"
 qE:bG K aD "size"
 oO:bG K aD "deeds"
 bh:Addr
 Bj:Addr
 BQ:TC
 OP:mg "Book" = some (.ref bh)
 jn:Cls K bh
 Of:Mk K bh Bj
 OQ:Fun K "__init__" "Book.__init__" nR Bj BQ
 OW:Binds K BQ ["self","group","spokes","ways"] []
 BV:bG K bh "group"
 qj:bG K bh "spokes"
 nY:bG K bh "classes"
 tj:bG K bh "ways"
 tJ:bG K bh "rows"
 zj:Tok
 yT:mg "MOST_SPOKES" = some (.int 60 zj)
 yL:Tok
 zy:mg "MOST_THINGS" = some (.int 23 yL)
 K9:mg "all" = none
 Kt:mg "any" = none
 rM:mg "dict" = none
 eM:mg "enumerate" = none
 bz:mg "len" = none
 f6:mg "list" = none
 QN:mg "min" = none
 aK:mg "range" = none
 FH:mg "reversed" = none
 Kx:mg "set" = none
 gg:mg "sorted" = none
 va:mg "zip" = none
theorem Txt.Im(T:Txt K mg):Binds K T.uc ["self","group","part","marks","spokes"] []:=bc5 T.Ci
def tb(t:AC)(i j:Nat):Nat:=(t.getD i []).getD j 0
structure Sq(n:Nat)(t:AC):Prop where
 len:t.length=n
 pos:1<=n
 le:n<=23
 row:∀ (i:Nat) (r:AT),t[i]?=some r->r.length=n
structure Gd(n:Nat)(t:AC):Prop extends Sq n t where
 lt:∀i j,i<n->j<n->tb t i j<n
structure GT(n:Nat)(t:AC)(e:Nat):Prop extends Gd n t where
 elt:e<n
 unl:∀i,i<n->tb t e i=i
 unr:∀i,i<n->tb t i e=i
 back:∀i,i<n->∃b,b<n/\tb t i b=e/\tb t b i=e
 assoc:∀i j k,i<n->j<n->k<n->tb t (tb t i j) k=tb t i (tb t j k)
theorem Sq.get(s:Sq n t)(h:i<n):t[i]?=some (t.getD i []):=by
 have hl:i<t.length:=by rw[s.len];exact h
 rw[RT,RL hl];simp
theorem Sq.c8(s:Sq n t)(h:i<n)(h':j<n):(t.getD i [])[j]?=some (tb t i j):=by
 have hr:(t.getD i []).length=n:=s.row i _ (s.get h);have hl:j<(t.getD i []).length:=by rw[hr];exact h'
 unfold tb;rw[RT (l:=t.getD i []),RL hl];simp
def rG(n:Nat)(t:AC)(x:Nat):Prop:=∀o,o<n->tb t x o=o/\tb t o x=o
instance :Decidable (rG n t x):=inferInstanceAs (Decidable (∀o,o<n->tb t x o=o/\tb t o x=o))
theorem GT.vF(g:GT n t e)(hx:x<n):rG n t x↔x=e:=by
 constructor
 .intro h;have h1:=(h e g.elt).1;have h2:=g.unr x hx;rw[h2]at h1;exact h1
 .rintro rfl o ho;exact⟨g.unl o ho,g.unr o ho⟩
def ay(n:Nat)(t:AC)(e a:Nat):Nat:=((RS n).find? λb=>decide (tb t a b=e/\tb t b a=e)).getD 0
theorem LO(hb:b<n)(h:tb t a b=e/\tb t b a=e)(hn:∀c,c<b->¬ (tb t a c=e/\tb t c a=e)):ay n t e a=b:=by
 unfold ay;have:(RS n).find? (λb=>decide (tb t a b=e/\tb t b a=e))=some b:=by
  rw[XQ];refine⟨by simpa using h,by simpa using hb,λj hj=>?_⟩
  have:=hn j hj;simp only[XN,decide_eq_false_iff_not];l_out
 rw[this];rfl
theorem GT.bk(g:GT n t e)(ha:a<n):ay n t e a<n/\tb t a (ay n t e a)=e/\tb t (ay n t e a) a=e:=by
 obtain⟨b,hb,h⟩:=g.back a ha;unfold ay;cases q:(RS n).find? (λb=>decide (tb t a b=e/\tb t b a=e)) with
 | none =>
  rw[XR]at q;have:=q b hb;simp at this;exact this.elim (λz=>absurd h.1 z) λz=>absurd h.2 z
 | some c =>
  have h1:=List.find?_some q;have h2:=RU.mp (XA q);simp only[decide_eq_true_eq]at h1;exact⟨h2,h1⟩
def bks(n:Nat)(t:AC)(e:Nat):AT:=(RS n).map (ay n t e)
def prd(t:AC)(e:Nat)(l:AT):Nat:=l.foldl (tb t) e
theorem Gd.Hb{n:Nat}{t:AC}(g:Gd n t):∀ {l:AT} {e:Nat},e<n->(∀x∈l,x<n)->prd t e l<n
 | [],_,h,_=>h
 | x :: r,e,h,hl=>by
  show prd t (tb t e x) r<n;exact Gd.Hb g (g.lt e x h (hl x R4)) λy hy=>hl y (R3 _ hy)
theorem Kh(h:l[i]?=some x):prd t e (l.take (i+1))=tb t (prd t e (l.take i)) x:=by
 unfold prd;rw[Sw,h];simp
theorem bE{β:Type}(f:Nat->β)(n i:Nat)(h:i<n):((RS n).map f).take (i+1)=((RS n).map f).take i++[f i]:=by
 rw[Sw];simp[h]
def mkT(n:Nat)(f:Nat->Nat->Nat):AC:=(RS n).map λa=>(RS n).map λb=>f a b
theorem vp{f:Nat->Nat->Nat}(ha:a<n)(hb:b<n):tb (mkT n f) a b=f a b:=by
 unfold tb mkT;simp[RT,ha,hb]
theorem Oi{f:Nat->Nat->Nat}(h1:1<=n)(h2:n<=23):Sq n (mkT n f):=by
 refine⟨by simp[mkT],h1,h2,λi r h=>?_⟩
 have:r∈mkT n f:=RQ h;unfold mkT at this;obtain⟨a,_,rfl⟩:=R9.mp this;simp
theorem N9{f:Nat->Nat->Nat}(h1:1<=n)(h2:n<=23)(lt:∀a b,a<n->b<n->f a b<n)(elt:e<n)(unl:∀a,a<n->f e a=a)(unr:∀a,a<n->f a e=a)
  (back:∀a,a<n->∃b,b<n/\f a b=e/\f b a=e) (assoc:∀a b c,a<n->b<n->c<n->f (f a b) c=f a (f b c)):GT n (mkT n f) e:=by
 have q:∀ {a b:Nat},a<n->b<n->tb (mkT n f) a b=f a b:=λha hb=>vp ha hb;refine⟨⟨Oi h1 h2,λi j hi hj=>by rw[q hi hj];exact lt i j hi hj⟩,elt,λi hi=>by rw[q elt hi];exact unl i hi,λi hi=>by rw[q hi elt];exact unr i hi,λi hi=>?_,λi j k hi hj hk=>?_⟩
 .obtain⟨b,hb,x,y⟩:=back i hi;exact⟨b,hb,by rw[q hi hb];exact x,by rw[q hb hi];exact y⟩
 .rw[q hi hj,q hj hk,q (lt i j hi hj) hk,q hi (lt j k hj hk)];exact assoc i j k hi hj hk
structure Ab(m:Nat)(ad:Nat->Nat->Nat):Prop where
 pos:0<m
 lt:∀x y,x<m->y<m->ad x y<m
 assoc:∀x y z,x<m->y<m->z<m->ad (ad x y) z=ad x (ad y z)
 comm:∀x y,x<m->y<m->ad x y=ad y x
 zero:∀x,x<m->ad x 0=x
 neg:∀x,x<m->∃y,y<m/\ad x y=0
structure Tn(m:Nat)(ad:Nat->Nat->Nat)(f:Nat->Nat)(s e:Nat):Prop extends Ab m ad where
 iu:0<s
 flt:∀x,x<m->f x<m
 fad:∀x y,x<m->y<m->f (ad x y)=ad (f x) (f y)
 per:∀x,x<m->Nat.repeat f s x=x
 elt:e<m
 fe:f e=e
def tim(ad:Nat->Nat->Nat)(e:Nat):Nat->Nat
 | 0=>0
 | k+1=>ad (tim ad e k) e
def cyc(m:Nat)(ad:Nat->Nat->Nat)(f:Nat->Nat)(s e I J:Nat):Nat :=
 (let p:=ad (I % m) (Nat.repeat f (I / m) (J % m));if I / m+J / m >= s then ad p e else p)+m * ((I / m+J / m) % s)
theorem eX(T:Tn m ad f s e):∀ (k:Nat) {x:Nat},x<m->Nat.repeat f k x<m
 | 0,_,h=>h
 | k+1,_,h=>T.flt _ (eX T k h)
theorem qG(T:Tn m ad f s e):∀ (k:Nat) {x y:Nat},x<m->y<m->Nat.repeat f k (ad x y)=ad (Nat.repeat f k x) (Nat.repeat f k y)
 | 0,_,_,_,_=>rfl
 | k+1,x,y,hx,hy=>by
  show f (Nat.repeat f k (ad x y))=ad (f (Nat.repeat f k x)) (f (Nat.repeat f k y));rw[qG T k hx hy,T.fad _ _ (eX T k hx) (eX T k hy)]
theorem Ks(T:Tn m ad f s e):∀k:Nat,Nat.repeat f k e=e
 | 0=>rfl
 | k+1=>by show f (Nat.repeat f k e)=e;rw[Ks T k,T.fe]
theorem lP(f:Nat->Nat)(x:Nat):∀i j:Nat,Nat.repeat f (i+j) x=Nat.repeat f i (Nat.repeat f j x)
 | 0,j=>by rw[To];rfl
 | i+1,j=>by
  have e:i+1+j=(i+j)+1:=by lia
  rw[e];show f (Nat.repeat f (i+j) x)=f (Nat.repeat f i (Nat.repeat f j x));rw[lP f x i j]
theorem L9(T:Tn m ad f s e)(hx:x<m)(hk:k<2 * s):Nat.repeat f (k % s) x=Nat.repeat f k x:=by
 have hs:=T.iu
 by_cases h:k<s
 .rw[Ss h]
 .have e1:k % s=k - s:=by rw[Xp (by lia),Ss (by lia)]
  have e2:k=(k - s)+s:=by lia
  rw[e1]
  conv=>rhs;rw[e2,lP,T.per x hx]
theorem dS(T:Tn m ad f s e):∀k,tim ad e k<m
 | 0=>T.pos
 | k+1=>T.lt _ _ (dS T k) T.elt
theorem Hq(T:Ab m ad)(hx:x<m):ad 0 x=x:=by rw[T.comm 0 x T.pos hx,T.zero x hx]
theorem wZ(T:Tn m ad f s e):∀i j,tim ad e (i+j)=ad (tim ad e i) (tim ad e j)
 | i,0=>by rw[Uh];show _=ad _ 0;rw[T.zero _ (dS T i)]
 | i,j+1=>by
  show ad (tim ad e (i+j)) e=ad (tim ad e i) (ad (tim ad e j) e);rw[wZ T i j,T.assoc _ _ _ (dS T i) (dS T j) T.elt]
theorem wj(T:Tn m ad f s e)(k:Nat):∀j,Nat.repeat f k (tim ad e j)=tim ad e j
 | 0=>by
  show Nat.repeat f k 0=0;have h0:Nat.repeat f k 0<m:=eX T k T.pos;have h1:ad (Nat.repeat f k 0) (Nat.repeat f k 0)=Nat.repeat f k 0:=by rw[<- qG T k T.pos T.pos,T.zero 0 T.pos]
  obtain⟨y,hy,e1⟩:=T.neg _ h0;have h2:ad (ad (Nat.repeat f k 0) (Nat.repeat f k 0)) y=ad (Nat.repeat f k 0) y:=by rw[h1]
  rw[T.assoc _ _ _ h0 h0 hy,e1,T.zero _ h0]at h2;exact h2
 | j+1=>by
  show Nat.repeat f k (ad (tim ad e j) e)=ad (tim ad e j) e;rw[qG T k (dS T j) T.elt,wj T k j,Ks T k]
theorem f7(T:Tn m ad f s e)(hx:x<m)(hy:y<m)(hi:i<s)(hj:j<s) :
  cyc m ad f s e (x+m * i) (y+m * j)=ad (ad x (Nat.repeat f i y)) (tim ad e ((i+j) / s))+m * ((i+j) % s):=by
 have hm:=T.pos;have d1:(x+m * i) / m=i:=by rw[Ue _ _ hm,T8 hx,To]
 have d2:(y+m * j) / m=j:=by rw[Ue _ _ hm,T8 hy,To]
 have r1:(x+m * i) % m=x:=by rw[TL,Ss hx]
 have r2:(y+m * j) % m=y:=by rw[TL,Ss hy]
 unfold cyc;rw[d1,d2,r1,r2];o_src;have hp:ad x (Nat.repeat f i y)<m:=T.lt _ _ hx (eX T i hy)
 by_cases h:i+j >= s
 .have q:(i+j) / s=1:=by
   have:i+j=(i+j - s)+s * 1:=by lia
   rw[this,Ue _ _ T.iu,T8 (by lia)]
  rw[if_pos h,q];show _=ad _ (ad 0 e)+_;rw[Hq T.toAb T.elt]
 .have q:(i+j) / s=0:=T8 (by lia)
  rw[if_neg h,q];show _=ad _ 0+_;rw[T.zero _ hp]
theorem dm(m:Nat)(I:Nat):I=I % m+m * (I / m):=(YG I m).symm
theorem G5(T:Tn m ad f s e){J:Nat}(hI:I<m * s)(hJ:J<m * s):cyc m ad f s e I J<m * s:=by
 have hm:=T.pos;have hi:I / m<s:=Tz hI;have hj:J / m<s:=Tz hJ;rw[dm m I,dm m J,f7 T (Sy _ hm) (Sy _ hm) hi hj];have h1:ad (ad (I % m) (Nat.repeat f (I / m) (J % m))) (tim ad e ((I / m+J / m) / s))<m:=T.lt _ _ (T.lt _ _ (Sy _ hm) (eX T _ (Sy _ hm))) (dS T _);have h2:(I / m+J / m) % s<s:=Sy _ T.iu;have h3:m * ((I / m+J / m) % s)+m<=m * s:=by
  rw[<- UL];exact Te _ h2
 lia
theorem qK(T:Tn m ad f s e){J L:Nat}(hI:I<m * s)(hJ:J<m * s)(hL:L<m * s):cyc m ad f s e (cyc m ad f s e I J) L=cyc m ad f s e I (cyc m ad f s e J L):=by
 have hm:=T.pos;have hi:I / m<s:=Tz hI;have hj:J / m<s:=Tz hJ;have hl:L / m<s:=Tz hL;rw[dm m I,dm m J,dm m L];generalize I / m=i at hi;generalize J / m=j at hj;generalize L / m=l at hl;have hx:I % m<m:=Sy _ hm;have hy:J % m<m:=Sy _ hm;have hz:L % m<m:=Sy _ hm;generalize I % m=x at hx;generalize J % m=y at hy;generalize L % m=z at hz;have hs:=T.iu;have hij:(i+j) % s<s:=Sy _ hs;have hjl:(j+l) % s<s:=Sy _ hs;have fy:=eX T i hy;have fz:=eX T j hz;have t1:=dS T ((i+j) / s);have t2:=dS T ((j+l) / s);have p1:ad x (Nat.repeat f i y)<m:=T.lt _ _ hx fy;have p2:ad y (Nat.repeat f j z)<m:=T.lt _ _ hy fz;rw[f7 T hx hy hi hj,f7 T hy hz hj hl,f7 T (T.lt _ _ p1 t1) hz hij hl,f7 T hx (T.lt _ _ p2 t2) hi hjl];have em:((i+j) % s+l) % s=(i+(j+l) % s) % s:=by rw[Tp,Vr,VS]
 have ed:(i+j) / s+((i+j) % s+l) / s=(j+l) / s+(i+(j+l) % s) / s:=by
  have a1:=UZ (i+j) s;have a2:=UZ (j+l) s;have a3:=UZ ((i+j) % s+l) s;have a4:=UZ (i+(j+l) % s) s;rw[em]at a3;have:s * ((i+j) / s+((i+j) % s+l) / s)=s * ((j+l) / s+(i+(j+l) % s) / s):=by
   rw[WA,WA];lia
  exact UH hs this
 rw[em]
 congr 1
 have fz2:Nat.repeat f ((i+j) % s) z<m:=eX T _ hz;have efz:Nat.repeat f ((i+j) % s) z=Nat.repeat f i (Nat.repeat f j z):=by rw[L9 T hz (by lia),lP]
 have fz3:Nat.repeat f i (Nat.repeat f j z)<m:=eX T i fz;rw[qG T i p2 t2,qG T i hy fz,wj T i,efz];have t3:=dS T (((i+j) % s+l) / s);have t4:=dS T ((i+(j+l) % s) / s);rw[T.assoc _ _ _ p1 t1 fz3,T.comm _ _ t1 fz3,<- T.assoc _ _ _ p1 fz3 t1,T.assoc _ _ _ (T.lt _ _ p1 fz3) t1 t3,<- wZ T,ed];rw[T.assoc _ _ _ hx fy fz3,<- T.assoc _ _ _ hx (T.lt _ _ fy fz3) t2,T.assoc _ _ _ (T.lt _ _ hx (T.lt _ _ fy fz3)) t2 t4,<- wZ T]
theorem Le(T:Tn m ad f s e)(hI:I<m * s):cyc m ad f s e 0 I=I:=by
 have hm:=T.pos;have hi:I / m<s:=Tz hI;have hx:I % m<m:=Sy _ hm;have h:=f7 T (x:=0) (y:=I % m) (i:=0) (j:=I / m) hm hx T.iu hi;rw[<- dm m I,U8,Uh,To,T8 hi,Ss hi]at h;rw[h];show ad (ad 0 (I % m)) 0+_=_;rw[Hq T.toAb hx,T.zero _ hx,<- dm m I]
theorem vY(T:Tn m ad f s e)(hI:I<m * s):cyc m ad f s e I 0=I:=by
 have hm:=T.pos;have hi:I / m<s:=Tz hI;have hx:I % m<m:=Sy _ hm;have h:=f7 T (x:=I % m) (y:=0) (i:=I / m) (j:=0) hx hm hi T.iu;rw[<- dm m I,U8,Uh,Uh,T8 hi,Ss hi]at h;rw[h];have z0:Nat.repeat f (I / m) 0=0:=wj T (I / m) 0;show ad (ad (I % m) (Nat.repeat f (I / m) 0)) 0+_=_;rw[z0,T.zero _ hx,T.zero _ hx,<- dm m I]
theorem ye(T:Tn m ad f s e)(hI:I<m * s):∃J,J<m * s/\cyc m ad f s e I J=0:=by
 have hm:=T.pos;have hs:=T.iu;have hi:I / m<s:=Tz hI;have hx:I % m<m:=Sy _ hm;have hj:(s - I / m) % s<s:=Sy _ hs;have hw:ad (I % m) (tim ad e ((I / m+(s - I / m) % s) / s))<m:=T.lt _ _ hx (dS T _);obtain⟨v,hv,ev⟩:=T.neg _ hw;have hy:Nat.repeat f ((s - I / m) % s) v<m:=eX T _ hv;refine⟨Nat.repeat f ((s - I / m) % s) v+m * ((s - I / m) % s),?_,?_⟩
 .have h3:m * ((s - I / m) % s)+m<=m * s:=by
   rw[<- UL];exact Te _ hj
  lia
 .have h:=f7 T (x:=I % m) (y:=Nat.repeat f ((s - I / m) % s) v) (i:=I / m) (j:=(s - I / m) % s) hx hy hi hj;rw[<- dm m I]at h;rw[h];have er:Nat.repeat f (I / m) (Nat.repeat f ((s - I / m) % s) v)=v:=by
   rw[<- lP]
   by_cases h0:I / m=0
   .rw[h0,Nat.sub_zero,V8];rfl
   .rw[Ss (Nat.sub_lt hs (Nat.pos_of_ne_zero h0))];have:I / m+(s - I / m)=s:=XS (Uw hi);rw[this,T.per v hv]
  have e0:(I / m+(s - I / m) % s) % s=0:=by
   rw[Vr];have:I / m+(s - I / m)=s:=XS (Uw hi);rw[this,V8]
  rw[er,e0,U8,Uh,T.assoc _ _ _ hx hv (dS T _),T.comm _ _ hv (dS T _),<- T.assoc _ _ _ hx (dS T _) hv];exact ev
theorem IK(T:Tn m ad f s e)(hI:I<m * s):∃J,J<m * s/\cyc m ad f s e I J=0/\cyc m ad f s e J I=0:=by
 obtain⟨J,hJ,e1⟩:=ye T hI;obtain⟨L,hL,e2⟩:=ye T hJ;refine⟨J,hJ,e1,?_⟩;have hJI:=G5 T hJ hI;have h1:cyc m ad f s e J I=cyc m ad f s e (cyc m ad f s e J I) (cyc m ad f s e J L):=by rw[e2,vY T hJI]
 rw[h1,<- qK T hJI hJ hL,qK T hJ hI hJ,e1,vY T hJ,e2]
def lsum(a b c p q:Nat):Nat:=(p+q) % a+a * ((p / a+q / a) % b)+a * b * ((p / (a * b)+q / (a * b)) % c)
theorem K1{w:Nat}(hx:x<a):(x+a * y+a * b * w) % a=x:=by
 rw[Vw,VS,<- WA,TL,Ss hx]
theorem K7{w:Nat}(ha:0<a)(hx:x<a):(x+a * y+a * b * w) / a=y+b * w:=by
 rw[Vw,VS,<- WA,Ue _ _ ha,T8 hx,To]
theorem KZ{w:Nat}(ha:0<a)(hx:x<a)(hy:y<b):(x+a * y+a * b * w) / a % b=y:=by
 rw[K7 ha hx,TL,Ss hy]
theorem Kv{w:Nat}(ha:0<a)(hb:0<b)(hx:x<a)(hy:y<b):(x+a * y+a * b * w) / (a * b)=w:=by
 rw[<- Yn,K7 ha hx,Ue _ _ hb,T8 hy,To]
theorem HZ{w:Nat}(hx:x<a)(hy:y<b)(hw:w<c):x+a * y+a * b * w<a * b * c:=by
 have h1:a * y+a<=a * b:=by rw[<- UL];exact Te _ hy
 have h2:a * b * w+a * b<=a * b * c:=by rw[<- UL];exact Te _ hw
 lia
theorem Oo(ha:0<a)(hb:0<b)(p:Nat):p % a+a * (p / a % b)+a * b * (p / (a * b))=p:=by
 rw[<- Yn,Vw,VS,<- WA,YG,YG]
theorem DV{p:Nat}(hp:p<a * b * c):p / (a * b)<c:=Tz hp
theorem GL(ha:0<a)(p q:Nat):lsum a b c p q % a=(p+q) % a:=K1 (Sy _ ha)
theorem Hm(ha:0<a)(hb:0<b)(p q:Nat):lsum a b c p q / a % b=(p / a+q / a) % b:=KZ ha (Sy _ ha) (Sy _ hb)
theorem G7(ha:0<a)(hb:0<b)(p q:Nat):lsum a b c p q / (a * b)=(p / (a * b)+q / (a * b)) % c:=Kv ha hb (Sy _ ha) (Sy _ hb)
theorem gS(x y k:Nat):(x % k+y) % k=(x+y) % k:=Tp x k y
theorem LW(ha:0<a)(hb:0<b)(hc:0<c):Ab (a * b * c) (lsum a b c) where
 pos:=Uu (Uu ha hb) hc
 lt:=λx y _ _=>HZ (Sy _ ha) (Sy _ hb) (Sy _ hc)
 comm:=λx y _ _=>by unfold lsum;rw[UT x y,UT (x / a),UT (x / (a * b))]
 assoc:=λx y z _ _ _=>by
  have e1:(lsum a b c x y+z) % a=(x+lsum a b c y z) % a:=by
   rw[<- gS,GL ha,gS,UT x (lsum a b c y z),<- gS (lsum a b c y z),GL ha,gS]
   congr 1;lia
  have e2:(lsum a b c x y / a+z / a) % b=(x / a+lsum a b c y z / a) % b:=by
   rw[<- gS,Hm ha hb,gS,UT (x / a) (lsum a b c y z / a),<- gS (lsum a b c y z / a),Hm ha hb,gS]
   congr 1;lia
  have e3:(lsum a b c x y / (a * b)+z / (a * b)) % c=(x / (a * b)+lsum a b c y z / (a * b)) % c:=by
   rw[G7 ha hb,G7 ha hb,gS,UT (x / (a * b)) (_ % c),gS]
   congr 1;lia
  show (lsum a b c x y+z) % a+a * ((lsum a b c x y / a+z / a) % b)+a * b * ((lsum a b c x y / (a * b)+z / (a * b)) % c)=(x+lsum a b c y z) % a+a * ((x / a+lsum a b c y z / a) % b)+a * b * ((x / (a * b)+lsum a b c y z / (a * b)) % c);rw[e1,e2,e3]
 zero:=λx hx=>by
  unfold lsum;rw[Xq,Xq,Uh,Uh,Uh,Ss (DV hx),Oo ha hb]
 neg:=λx hx=>by
  have hx1:x % a<a:=Sy _ ha;have hy1:x / a % b<b:=Sy _ hb;have U':x / (a * b)<c:=DV hx;have lx:(a - x % a) % a<a:=Sy _ ha;have ly:(b - x / a % b) % b<b:=Sy _ hb;have lw:(c - x / (a * b)) % c<c:=Sy _ hc;refine⟨(a - x % a) % a+a * ((b - x / a % b) % b)+a * b * ((c - x / (a * b)) % c),HZ lx ly lw,?_⟩;have f1:(x+((a - x % a) % a+a * ((b - x / a % b) % b)+a * b * ((c - x / (a * b)) % c))) % a=0:=by
   rw[Xd,K1 lx,Vr];have:x % a+(a - x % a)=a:=by lia
   rw[this,V8]
  have f2:(x / a+((a - x % a) % a+a * ((b - x / a % b) % b)+a * b * ((c - x / (a * b)) % c)) / a) % b=0:=by
   rw[Xd,KZ ha lx ly,Vr];have:x / a % b+(b - x / a % b)=b:=by lia
   rw[this,V8]
  have f3:(x / (a * b)+((a - x % a) % a+a * ((b - x / a % b) % b)+a * b * ((c - x / (a * b)) % c)) / (a * b)) % c=0:=by
   rw[Kv ha hb lx ly,Vr];have:x / (a * b)+(c - x / (a * b))=c:=XS (Uw U');rw[this,V8]
  unfold lsum;rw[f1,f2,f3,U8,U8]
def d8(a b c kind u0 u1 u2 p:Nat):Nat :=
 let x:=p % a
 let y:=p / a % b
 let w:=p / (a * b) * u2 % c
 match kind with
 | 1=>y+a * (x+b * w)
 | 2=>(a - y) % a+a * ((x+a - y) % a+b * w)
 | 3=>x+a * ((y+x) % b+b * w)
 | 4=>(x+a / 2 * y) % a+a * (y+b * w)
 | _=>x * u0 % a+a * (y * u1 % b+b * w)
def iter(f:Nat->Nat):Nat->Nat->Nat
 | 0,x=>x
 | n+1,x=>iter f n (f x)
def pw(u m:Nat):Nat->Nat
 | 0=>1
 | n+1=>pw u m n * u % m
def uB(a b c s kind u0 u1 u2:Nat):Bool :=
 (RS (a * b * c)).all λp=>Nat.blt (d8 a b c kind u0 u1 u2 p) (a * b * c) && (U2 (iter (d8 a b c kind u0 u1 u2) s p) p &&
  (RS (a * b * c)).all λq=>U2 (d8 a b c kind u0 u1 u2 (lsum a b c p q)) (lsum a b c (d8 a b c kind u0 u1 u2 p) (d8 a b c kind u0 u1 u2 q)))
def eE(a b s kind:Nat):Bool:=kind == 0 || (kind == 1 && (a == b && s % 2 == 0)) || (kind == 2 && (a == b && s % 3 == 0)) || (kind == 3 && (a % b == 0 && (decide (1<b) && s % b == 0))) || (kind == 4 && (a % 2 == 0 && (b % 2 == 0 && s % 2 == 0)))
def unitsOf(m s:Nat):AT:=(RS m).filter λu=>U2 (pw u m s) (1 % m)
def G9:Bool:=(RS 4).all λs'=>let s:=s'+1
 (RS (23 / s)).all λa'=>let a:=a'+1
 (RS (23 / (s * a))).all λb'=>let b:=b'+1
 (RS (23 / (s * a * b))).all λc'=>let c:=c'+1
 (RS 5).all λk=>!eE a b s k || ((if U2 k 0 then unitsOf a s else [0]).all λu0=>(if U2 k 0 then unitsOf b s else [0]).all λu1=>(unitsOf c s).all λu2=>uB a b c s k u0 u1 u2)
set_option maxRecDepth 1000000 in
theorem Ha:G9=true:=by trivial
theorem Au(f:Nat->Nat):∀ (n x:Nat),iter f n x=Nat.repeat f n x
 | 0,_=>rfl
 | n+1,x=>by
  show iter f n (f x)=f (Nat.repeat f n x);rw[Au f n (f x)];have h1:=lP f x n 1;have h2:=lP f x 1 n;rw[UT]at h2;have e:Nat.repeat f n (Nat.repeat f 1 x)=Nat.repeat f 1 (Nat.repeat f n x):=h1.symm.trans h2;exact e
theorem sj{u:Nat}:u∈unitsOf m s↔u<m/\pw u m s=1 % m:=by
 unfold unitsOf;rw[Sx,RU];simp
structure Par(a b c s kind u0 u1 u2:Nat):Prop where
 a1:1<=a
 b1:1<=b
 c1:1<=c
 s1:1<=s
 s4:s<=4
 le:a * b * c * s<=23
 k5:kind<5
 kind:eE a b s kind=true
 v0:u0∈unitsOf a s
 v1:u1∈unitsOf b s
 v2:u2∈unitsOf c s
theorem qX(hx:1<=x)(hk:1<=k)(h:k * x<=n):x - 1<n / k:=by
 have:x<=n / k:=(YH (by lia)).mpr (by rw[UU];exact h)
 lia
theorem LJ{kind u0 u1 u2:Nat}(h:kind≠0)(h5:kind<5):d8 a b c kind u0 u1 u2=d8 a b c kind 0 0 u2:=by
 match kind,h,h5 with
 | 1,_,_=>rfl
 | 2,_,_=>rfl
 | 3,_,_=>rfl
 | 4,_,_=>rfl
 | 0,h,_=>exact absurd rfl h
theorem Par.chk{kind u0 u1 u2:Nat}(P:Par a b c s kind u0 u1 u2):uB a b c s kind u0 u1 u2=true:=by
 have hle:=P.le;have h1:s * a<=23:=by
  have:s * a * (b * c)=a * b * c * s:=by simp only[UU,WB]
  have z:s * a * 1<=s * a * (b * c):=Te _ (Uu P.b1 P.c1);lia
 have h2:s * a * b<=23:=by
  have:s * a * b * c=a * b * c * s:=by simp only[UU,WB]
  have z:s * a * b * 1<=s * a * b * c:=Te _ P.c1;lia
 have h3:s * a * b * c<=23:=by
  have:s * a * b * c=a * b * c * s:=by simp only[UU,WB]
  lia
 have sa:1<=s * a:=Uu P.s1 P.a1;have sab:1<=s * a * b:=Uu sa P.b1;have q0:=Ha;unfold G9 at q0;have q1:=SF.mp q0 (s - 1) (RU.mpr (by have:=P.s1;have:=P.s4;lia))
 have es:s - 1+1=s:=by have:=P.s1;lia
 have ea:a - 1+1=a:=by have:=P.a1;lia
 have eb:b - 1+1=b:=by have:=P.b1;lia
 have ec:c - 1+1=c:=by have:=P.c1;lia
 try dsimp only at q1
 rw[es]at q1;have q2:=SF.mp q1 (a - 1) (RU.mpr (qX P.a1 P.s1 h1))
 try dsimp only at q2
 rw[ea]at q2;have q3:=SF.mp q2 (b - 1) (RU.mpr (qX P.b1 sa h2))
 try dsimp only at q3
 rw[eb]at q3;have q4:=SF.mp q3 (c - 1) (RU.mpr (qX P.c1 sab h3))
 try dsimp only at q4
 rw[ec]at q4;have q5:=SF.mp q4 kind (RU.mpr P.k5);rw[P.kind]at q5;simp only[Bool.not_true,Bool.false_or]at q5
 by_cases hk:kind=0
 .subst hk;have q6:=SF.mp q5 u0 P.v0;have q7:=SF.mp q6 u1 P.v1;exact SF.mp q7 u2 P.v2
 .have hb:U2 kind 0=false:=by
   cases h:U2 kind 0 with
   | false=>rfl
   | true=>exact absurd (UM h) hk
  rw[hb]at q5;have q6:=SF.mp q5 0 (RX.mpr rfl);have q7:=SF.mp q6 0 (RX.mpr rfl);have q8:=SF.mp q7 u2 P.v2;unfold uB at q8 ⊢;rw[LJ hk P.k5];exact q8
theorem Par.tn{kind u0 u1 u2:Nat}(P:Par a b c s kind u0 u1 u2)(he:e<a * b * c)(fe:d8 a b c kind u0 u1 u2 e=e):Tn (a * b * c) (lsum a b c) (d8 a b c kind u0 u1 u2) s e:=by
 have q:=P.chk;unfold uB at q;have q':∀p,p<a * b * c->_:=λp hp=>SF.mp q p (RU.mpr hp);simp only[Uj,SF,RU]at q';refine { LW P.a1 P.b1 P.c1 with iu:=P.s1,flt:=λx hx=>?_,fad:=λx y hx hy=>?_,per:=λx hx=>?_,elt:=he,fe:=fe }
 .have z:=(q' x hx).1;exact Nat.le_of_ble_eq_true z
 .exact UM ((q' x hx).2.2 y hy)
 .rw[<- Au];exact UM (q' x hx).2.1
theorem GT.rel{t':AC}(g:GT n t e)(π:AT)(hl:π.length=n)(hm:∀x,x∈π↔x<n)(sq:Sq n t')
  (h:∀a b,a<n->b<n->tb t' (π.getD a 0) (π.getD b 0)=π.getD (tb t a b) 0):GT n t' (π.getD e 0):=by
 have into:∀a,a<n->π.getD a 0<n:=λa ha=>by
  have:π.getD a 0∈π:=by
   rw[RT,RL (by lia)]
   exact S3 _
  exact(hm _).mp this
 have onto:∀i,i<n->∃a,a<n/\π.getD a 0=i:=λi hi=>by
  obtain⟨a,ha,e'⟩:=YY.mp ((hm i).mpr hi);refine⟨a,by lia,?_⟩
  rw[RT,RL ha,e'];rfl
 refine⟨⟨sq,λi j hi hj=>?_⟩,into e g.elt,λi hi=>?_,λi hi=>?_,λi hi=>?_,λi j k hi hj hk=>?_⟩
 .obtain⟨a,ha,rfl⟩:=onto i hi;obtain⟨b,hb,rfl⟩:=onto j hj;rw[h a b ha hb];exact into _ (g.lt a b ha hb)
 .obtain⟨a,ha,rfl⟩:=onto i hi;rw[h e a g.elt ha,g.unl a ha]
 .obtain⟨a,ha,rfl⟩:=onto i hi;rw[h a e ha g.elt,g.unr a ha]
 .obtain⟨a,ha,rfl⟩:=onto i hi;obtain⟨b,hb,x,y⟩:=g.back a ha;exact⟨π.getD b 0,into b hb,by rw[h a b ha hb,x],by rw[h b a hb ha,y]⟩
 .obtain⟨a,ha,rfl⟩:=onto i hi;obtain⟨b,hb,rfl⟩:=onto j hj;obtain⟨d,hd,rfl⟩:=onto k hk;rw[h a b ha hb,h b d hb hd,h _ d (g.lt a b ha hb) hd,h a _ ha (g.lt b d hb hd),g.assoc a b d ha hb hd]
theorem NO(T:Tn m ad f s e)(h:m * s<=23):GT (m * s) (mkT (m * s) (cyc m ad f s e)) 0 :=
 N9 (Uu T.pos T.iu) h (λ_ _ ha hb=>G5 T ha hb) (Uu T.pos T.iu) (λ_ ha=>Le T ha) (λ_ ha=>vY T ha) (λ_ ha=>IK T ha) (λ_ _ _ ha hb hc=>qK T ha hb hc)
theorem getD_some{α:Type}{l:List α}(d:α)(h:i<l.length):l[i]?=some (l.getD i d):=by
 rw[RT,RL h];rfl
theorem OA(hx:x<m)(hy:y<m) :
  cyc m ad f s e (x+m * i) (y+m * j)=(if s<=i+j then ad (ad x (Nat.repeat f i y)) e else ad x (Nat.repeat f i y))+m * ((i+j) % s):=by
 have hm:0<m:=by lia
 have d1:(x+m * i) / m=i:=by rw[Ue _ _ hm,T8 hx,To]
 have d2:(y+m * j) / m=j:=by rw[Ue _ _ hm,T8 hy,To]
 have r1:(x+m * i) % m=x:=by rw[TL,Ss hx]
 have r2:(y+m * j) % m=y:=by rw[TL,Ss hy]
 unfold cyc;rw[d1,d2,r1,r2]
theorem FU(a b c kind u0 u1 u2:Nat):d8 a b c kind u0 u1 u2 0=0:=by
 unfold d8;have e1:(0:Nat) / (a * b) * u2 % c=0:=by rw[Xq,V9,U9]
 have e2:(0:Nat) / a % b=0:=by rw[Xq,U9]
 simp only[e1,e2,U9]
 split <;> simp
def M9:Bool:=(RS 24).all λm=>(RS 5).all λs=>U2 m 0 || (U2 s 0 || !(unitsOf m s).isEmpty)
theorem Li:M9=true:=by trivial
theorem Jt(h1:1<=m)(h2:m<=23)(h3:1<=s)(h4:s<=4):unitsOf m s≠[]:=by
 have q0:=Li;unfold M9 at q0;have q1:=SF.mp q0 m (RU.mpr (by lia))
 have q2:=SF.mp q1 s (RU.mpr (by lia))
 have b1:U2 m 0=false:=by
  cases h:U2 m 0 with
  | false=>rfl
  | true=>have:=UM h;lia
 have b2:U2 s 0=false:=by
  cases h:U2 s 0 with
  | false=>rfl
  | true=>have:=UM h;lia
 rw[b1,b2]at q2;intro e;rw[e]at q2;exact absurd q2 (by decide)
theorem vI(m s i:Nat):((RS (i+1)).filter λu=>U2 (pw u m s) (1 % m))=(if pw i m s=1 % m then ((RS i).filter λu=>U2 (pw u m s) (1 % m))++[i] else (RS i).filter λu=>U2 (pw u m s) (1 % m)):=by
 rw[Vs,VE]
 by_cases h:pw i m s=1 % m
 .rw[if_pos h];have:U2 (pw i m s) (1 % m)=true:=by rw[h];exact Nat.beq_refl _
  simp[this]
 .rw[if_neg h];have:U2 (pw i m s) (1 % m)=false:=by
   cases q:U2 (pw i m s) (1 % m) with
   | false=>rfl
   | true=>exact absurd (UM q) h
  simp[this]
theorem JA(h:π.Perm (RS i)):(π.take k++i :: π.drop k).Perm (RS (i+1)):=by
 refine Yb.trans ?_;rw[UK,Vs];exact(List.Perm.cons i h).trans (List.perm_append_singleton i (RS i)).symm
theorem OD{i' j':Nat}(hl:rows.length=n)(hr:∀ (k:Nat) (r:AT),rows[k]?=some r->r.length=n)(hi:i<n)(hj:j<n) :
  tb (rows.set i ((rows.getD i []).set j x)) i' j'=if i'=i/\j'=j then x else tb rows i' j':=by
 have hi2:i<rows.length:=by lia
 unfold tb
 by_cases e:i'=i
 .subst e;have c!:(rows.getD i' []).length=n:=hr i' _ (by rw[RT,RL hi2];rfl)
  have e1:(rows.set i' ((rows.getD i' []).set j x)).getD i' []=(rows.getD i' []).set j x:=by
   rw[RT,UB hi2];rfl
  rw[e1]
  by_cases e2:j'=j
  .subst e2;rw[if_pos ⟨rfl,rfl⟩,RT,UB (by lia)]
   rfl
  .rw[if_neg (λz=>e2 z.2),RT,UO (UA e2),<- RT]
 .rw[if_neg (λz=>e z.1)];have e1:(rows.set i ((rows.getD i []).set j x)).getD i' []=rows.getD i' []:=by
   rw[RT,UO (UA e),<- RT]
  rw[e1]
theorem mK(h:π.Perm (RS n))(ha:a<n):π.getD a 0<n:=by
 have hl:π.length=n:=by rw[h.length_eq,Sv]
 have:π.getD a 0∈π:=by
  rw[RT,RL (by lia)]
  exact S3 _
 exact RU.mp (h.mem_iff.mp this)
theorem AY(h:π.Perm (RS n))(ha:a<n)(hb:b<n)(e:π.getD a 0=π.getD b 0):a=b:=by
 have hl:π.length=n:=by rw[h.length_eq,Sv]
 have nd:π.Nodup:=h.nodup_iff.mpr T6;have R!:a<π.length:=by lia
 have A':b<π.length:=by lia
 rw[RT,RT,RL R!,RL A']at e;exact(WJ nd).mp e
structure Ren(n:Nat)(π:AT)(R rows:AC)(A B:Nat):Prop where
 len:rows.length=n
 row:∀ (i:Nat) (r:AT),rows[i]?=some r->r.length=n
 at_:∀a b,a<n->b<n->(a<A\/(a=A/\b<B))->tb rows (π.getD a 0) (π.getD b 0)=π.getD (tb R a b) 0
theorem Ren.put{R:AC}{B:Nat}(h:Ren n π R rows A B)(hp:π.Perm (RS n))(hA:A<n)(hB:B<n) :
  Ren n π R (rows.set (π.getD A 0) ((rows.getD (π.getD A 0) []).set (π.getD B 0) (π.getD (tb R A B) 0))) A (B+1):=by
 have iA:=mK hp hA;have iB:=mK hp hB;refine⟨by rw[VJ];exact h.len,λi r e=>?_,λa b ha hb c=>?_⟩
 .by_cases q:i=π.getD A 0
  .subst q;rw[UB (by rw[h.len];exact iA)]at e
   cases e;rw[VJ];exact h.row (π.getD A 0) _ (getD_some [] (by rw[h.len];exact iA))
  .rw[UO (UA q)]at e;exact h.row i r e
 .rw[OD h.len h.row iA iB]
  by_cases q:a=A/\b=B
  .obtain⟨rfl,rfl⟩:=q;rw[if_pos ⟨rfl,rfl⟩]
  .rw[if_neg λz=>q ⟨AY hp ha hA z.1,AY hp hb hB z.2⟩];refine h.at_ a b ha hb ?_;lia
theorem Ren.next{R:AC}(h:Ren n π R rows A n):Ren n π R rows (A+1) 0 :=
 ⟨h.len,h.row,λa b ha hb c=>h.at_ a b ha hb (by lia)⟩
theorem Ren.gt{R:AC}(h:Ren n π R rows n 0)(hp:π.Perm (RS n))(g:GT n R e):GT n rows (π.getD e 0) :=
 g.rel π (by rw[hp.length_eq,Sv]) (λx=>by rw[hp.mem_iff,RU]) ⟨h.len,g.pos,g.le,h.row⟩ λa b ha hb=>h.at_ a b ha hb (.inl ha)
def IZ:AC:=[[2,2,1,3],[7,1,1,3],[5,1,1,4],[4,2,1,2],[3,3,1,2],[8,1,1,2],[4,1,1,2],[2,2,2,2],[3,1,1,4],[2,2,1,2],[5,1,1,2],[9,1,1,2]]
theorem fI(p:Nat->Bool)(i:Nat):((RS i).filter p).length<=i:=by
 have:=Up p (RS i);rw[Sv]at this;l_out
theorem sub_len:∀ {l1 l2:AT},l1.Nodup->(∀x∈l1,x∈l2)->l1.length<=l2.length
 | [],_,_,_=>SO _
 | a :: l1,l2,nd,h=>by
  have ha:a∈l2:=h a R4;rw[SS]at nd;have ih:=sub_len (l1:=l1) (l2:=l2.erase a) nd.2 λx hx=>(List.mem_erase_of_ne (show x≠a from λe=>nd.1 (by rw[<- e];exact hx))).mpr (h x (R3 _ hx))
  rw[XT ha]at ih;have:0<l2.length:=List.length_pos_of_mem ha;rw[SU];lia
theorem fh{f:Nat->Nat}:∀ {l:AT},l.Nodup->(∀x∈l,∀y∈l,f x=f y->x=y)->(l.map f).Nodup
 | [],_,_=>by simp
 | a :: l,nd,h=>by
  rw[SS]at nd;rw[S6,SS];refine⟨λz=>?_,fh nd.2 λx hx y hy=>h x (R3 _ hx) y (R3 _ hy)⟩;obtain⟨b,hb,e⟩:=R9.mp z;exact nd.1 (h b (R3 _ hb) a R4 e ▸ hb)
theorem yz(p:Nat->Bool):∀l:AT,l.length=(l.filter p).length+(l.filter λy=>!p y).length
 | []=>rfl
 | a :: l=>by
  have ih:=yz p l;cases h:p a with
  | true =>
   rw[X8 h,Wm (by simp[h]),SU,SU]
   lia
  | false =>
   rw[Wm (by simp[h]),X8 (by simp[h]),SU,SU]
   lia
theorem php(h:∀i,i<=n->f i<n):∃i j,i<j/\j<=n/\f i=f j:=by
 by_cases q:∃i j,i<j/\j<=n/\f i=f j
 .exact q
 .exfalso
  have nd:((RS (n+1)).map f).Nodup:=fh T6 λx hx y hy e=>by
   have z!:=RU.mp hx;have W!:=RU.mp hy;rcases TN x y with z|z|z
   .exact absurd ⟨x,y,z,by lia,e⟩ q
   .exact z
   .exact absurd ⟨y,x,z,by lia,e.symm⟩ q
  have:=sub_len nd (l2:=RS n) λx hx=>by
   obtain⟨i,hi,rfl⟩:=R9.mp hx;exact RU.mpr (h i (by have:=RU.mp hi;lia))
  simp at this;lia
theorem GT.aO(g:GT n t e)(ha:a<n):ay n t e a<n:=(g.bk ha).1
theorem GT.ef(g:GT n t e)(ha:a<n):tb t a (ay n t e a)=e:=(g.bk ha).2.1
theorem GT.fS(g:GT n t e)(ha:a<n):tb t (ay n t e a) a=e:=(g.bk ha).2.2
theorem GT.cK(g:GT n t e){z:Nat}(hx:x<n)(hy:y<n)(hz:z<n)(h:tb t x y=tb t x z):y=z:=by
 have hb:=g.aO hx;have h1:tb t (ay n t e x) (tb t x y)=tb t (ay n t e x) (tb t x z):=by rw[h]
 rw[<- g.assoc _ _ _ hb hx hy,<- g.assoc _ _ _ hb hx hz,g.fS hx,g.unl y hy,g.unl z hz]at h1;exact h1
theorem GT.pG(g:GT n t e){z:Nat}(hx:x<n)(hy:y<n)(hz:z<n)(h:tb t y x=tb t z x):y=z:=by
 have hb:=g.aO hx;have h1:tb t (tb t y x) (ay n t e x)=tb t (tb t z x) (ay n t e x):=by rw[h]
 rw[g.assoc _ _ _ hy hx hb,g.assoc _ _ _ hz hx hb,g.ef hx,g.unr y hy,g.unr z hz]at h1;exact h1
theorem GT.idem(g:GT n t e)(hx:x<n):tb t x x=x↔x=e:=by
 constructor
 .intro h;refine g.cK hx hx g.elt ?_;rw[h,g.unr x hx]
 .rintro rfl;exact g.unl _ hx
theorem GT.F8(g:GT n t e)(ha:a<n)(hb:b<n)(h:tb t a b=e):b=ay n t e a :=
 g.cK ha hb (g.aO ha) (h.trans (g.ef ha).symm)
def ax(t:AC)(e a:Nat):Nat->Nat
 | 0=>e
 | k+1=>tb t (ax t e a k) a
theorem bp(g:GT n t e)(ha:a<n):∀k,ax t e a k<n
 | 0=>g.elt
 | k+1=>g.lt _ _ (bp g ha k) ha
theorem mz(g:GT n t e)(ha:a<n):ax t e a 1=a:=g.unl a ha
theorem cJ(g:GT n t e)(ha:a<n)(i:Nat):∀j,ax t e a (i+j)=tb t (ax t e a i) (ax t e a j)
 | 0=>(g.unr _ (bp g ha i)).symm
 | j+1=>by
  show tb t (ax t e a (i+j)) a=tb t (ax t e a i) (tb t (ax t e a j) a);rw[cJ g ha i j,g.assoc _ _ _ (bp g ha i) (bp g ha j) ha]
theorem B5(k:Nat):prd t e (RZ k a)=ax t e a k:=by
 induction k with
 | zero=>rfl
 | succ k ih =>
  unfold prd at ih ⊢;rw[Vc,VT,ih];rfl
theorem Mq(g:GT n t e)(ha:a<n):∃k,k<n/\ax t e a (k+1)=e:=by
 obtain⟨i,j,hij,hj,q⟩:=php (f:=ax t e a) (n:=n) λi _=>bp g ha i;refine⟨j - i - 1,by lia,?_⟩
 have e1:j=i+(j - i - 1+1):=by lia
 rw[e1,cJ g ha]at q;refine(g.cK (bp g ha i) (bp g ha _) g.elt ?_);rw[<- q,g.unr _ (bp g ha i)]
def aI(n:Nat)(t:AC)(e a:Nat):Nat:=((RS n).find? λk=>decide (ax t e a (k+1)=e)).getD 0+1
theorem dD(g:GT n t e)(ha:a<n):aI n t e a<=n/\ax t e a (aI n t e a)=e/\∀k,1<=k->k<aI n t e a->ax t e a k≠e:=by
 obtain⟨k,hk,h⟩:=Mq g ha;unfold aI;cases q:(RS n).find? (λk=>decide (ax t e a (k+1)=e)) with
 | none =>
  rw[XR]at q;have:=q k hk;simp at this;exact absurd h this
 | some c =>
  rw[XQ]at q;obtain⟨h1,h2,h3⟩:=q;have h2':c<n:=by simpa using h2
  refine⟨by show c+1<=n;lia,by simpa using h1,λk k1 k2 z=>?_⟩
  have k2':k<c+1:=k2;have:=h3 (k - 1) (by lia)
  rw[show k - 1+1=k by lia,z]at this
  simp at this
theorem fP:1<=aI n t e a:=Nat.succ_le_succ (SO _)
theorem jA(g:GT n t e)(ha:a<n){o:Nat}(h:ax t e a o=e):∀k,ax t e a (o * k)=e
 | 0=>rfl
 | k+1=>by rw[UL,cJ g ha,jA g ha h k,h,g.unl e g.elt]
theorem ur(g:GT n t e)(ha:a<n)(k:Nat):ax t e a (k % aI n t e a)=ax t e a k:=by
 have h:=(dD g ha).2.1
 conv=>rhs;rw[<- UZ k (aI n t e a),cJ g ha,jA g ha h,g.unl _ (bp g ha _)]
theorem B9(g:GT n t e)(ha:a<n)(hi:i<aI n t e a)(hj:j<aI n t e a)(h:ax t e a i=ax t e a j):i=j:=by
 have key:∀ {i j:Nat},i<j->j<aI n t e a->ax t e a i=ax t e a j->False:=λ{i j} hij hj h=>by
  have e1:j=i+(j - i):=by lia
  rw[e1,cJ g ha]at h;have:=g.cK (bp g ha i) (bp g ha (j - i)) g.elt (by rw[<- h,g.unr _ (bp g ha i)])
  exact(dD g ha).2.2 (j - i) (by lia) (by lia) this
 rcases TN i j with z|z|z
 .exact(key z hj h).elim
 .exact z
 .exact(key z hi h.symm).elim
theorem Mi(g:GT n t e)(ha:a<n)(h:ax t e a k=e):aI n t e a ∣ k:=by
 have h1:=ur g ha k;rw[h]at h1;have h2:k % aI n t e a<aI n t e a:=Sy _ fP;have h3:=B9 g ha h2 (i:=k % aI n t e a) (j:=0) fP h1;exact Tj h3
theorem pZ(g:GT n t e){P:AT}(nd:P.Nodup)(lt:∀h∈P,h<n)(he:e∈P)(cl:∀h∈P,∀k∈P,tb t h k∈P)(bk:∀h∈P,ay n t e h∈P) :
  ∀ (k:Nat) (S:AT),S.length<=k->S.Nodup->(∀x∈S,x<n)->(∀x∈S,∀h∈P,tb t x h∈S)->P.length ∣ S.length
 | 0,S,hk,_,_,_=>by
  have:S.length=0:=by lia
  rw[this];exact Nat.dvd_zero _
 | k+1,[],_,_,_,_=>Nat.dvd_zero _
 | k+1,x :: S,hk,hn,hl,hc=>by
  have hx:x<n:=hl x R4
  let C:=P.map (tb t x)
  have cn:C.Nodup:=fh nd λy hy z hz q=>g.cK hx (lt y hy) (lt z hz) q;have cs:∀y∈C,y∈x :: S:=λy hy=>by
   obtain⟨h,hh,rfl⟩:=R9.mp hy;exact hc x R4 h hh
  have xC:x∈C:=R9.mpr ⟨e,he,g.unr x hx⟩;have ih:=pZ g nd lt he cl bk k ((x :: S).filter λy=>!decide (y∈C)) (by
    have:((x :: S).filter λy=>!decide (y∈C))=S.filter λy=>!decide (y∈C):=by
     rw[Wm];simp[xC]
    rw[this];have:=Up (λy=>!decide (y∈C)) S;rw[SU]at hk;lia)
   (hn.sublist Y9) (λy hy=>hl y (Sx.mp hy).1) λy hy h hh=>by
    have hy1:=Sx.mp hy;have hyn:=hl y hy1.1;refine Sx.mpr ⟨hc y hy1.1 h hh,?_⟩;have ny:y∉C:=by simpa using hy1.2
    simp only[XN,decide_eq_false_iff_not];intro z;obtain⟨h',x!,q⟩:=R9.mp z;have hb:=bk h hh;refine ny (R9.mpr ⟨tb t h' (ay n t e h),cl h' x! _ hb,?_⟩);rw[<- g.assoc _ _ _ hx (lt h' x!) (lt _ hb),q,g.assoc _ _ _ hyn (lt h hh) (lt _ hb),g.ef (lt h hh),g.unr y hyn]
  have e1:((x :: S).filter λy=>decide (y∈C)).length=P.length:=by
   have l1:((x :: S).filter λy=>decide (y∈C)).length<=C.length:=sub_len (hn.sublist Y9) λy hy=>by simpa using (Sx.mp hy).2
   have l2:C.length<=((x :: S).filter λy=>decide (y∈C)).length:=sub_len cn λy hy=>Sx.mpr ⟨cs y hy,by simpa using hy⟩
   have l3:C.length=P.length:=RP ..;lia
  have e2:(x :: S).length=((x :: S).filter λy=>decide (y∈C)).length+((x :: S).filter λy=>!decide (y∈C)).length:=yz _ _;rw[e2,e1];exact(Nat.dvd_add_right (Nat.dvd_refl _)).mpr ih
theorem GW(g:GT n t e)(ha:a<n):aI n t e a ∣ n:=by
 let P:=(RS (aI n t e a)).map (ax t e a)
 have mem:∀k,ax t e a k∈P:=λk=>by
  rw[<- ur g ha k];exact R9.mpr ⟨_,RU.mpr (Sy _ fP),rfl⟩
 have frm:∀h∈P,∃k,k<aI n t e a/\ax t e a k=h:=λh hh=>by
  obtain⟨k,hk,q⟩:=R9.mp hh;exact⟨k,RU.mp hk,q⟩
 have r:=pZ g (P:=P) (fh T6 λx hx y hy q=>B9 g ha (RU.mp hx) (RU.mp hy) q)
  (λh hh=>by obtain⟨k,_,rfl⟩:=frm h hh;exact bp g ha k) (mem 0)
  (λh hh k hk=>by
   obtain⟨i,_,rfl⟩:=frm h hh;obtain⟨j,_,rfl⟩:=frm k hk;rw[<- cJ g ha];exact mem _)
  (λh hh=>by
   obtain⟨i,hi,rfl⟩:=frm h hh;have q:tb t (ax t e a i) (ax t e a (aI n t e a - i))=e:=by
    rw[<- cJ g ha,show i+(aI n t e a - i)=aI n t e a by lia]
    exact(dD g ha).2.1
   rw[<- g.F8 (bp g ha i) (bp g ha _) q];exact mem _)
  n (RS n) (by simp) T6 (λx hx=>RU.mp hx) λx hx h hh=>by
   obtain⟨k,_,rfl⟩:=frm h hh;exact RU.mpr (g.lt _ _ (RU.mp hx) (bp g ha k))
 have e1:P.length=aI n t e a:=by simp[P]
 rw[e1,Sv]at r;exact r
theorem MY(g:GT n t e)(ha:a<n):ax t e a n=e:=by
 obtain⟨k,hk⟩:=GW g ha
 conv=>lhs;rw[hk]
 exact jA g ha (dD g ha).2.1 k
structure cA(l:AT)(k:Nat):Prop where
 pos:1<=k
 all:∀s∈l,k % s=0
 least:∀j,1<=j->j<k->∃s,s∈l/\j % s≠0
theorem cA.uni{k':Nat}(h:cA l k)(h':cA l k'):k=k':=by
 rcases TN k k' with z|z|z
 .obtain⟨s,hs,q⟩:=h'.least k h.pos z;exact absurd (h.all s hs) q
 .exact z
 .obtain⟨s,hs,q⟩:=h.least k' h'.pos z;exact absurd (h'.all s hs) q
def bnd:AT->Nat
 | []=>1
 | s :: l=>s * bnd l
theorem Ef:∀ {l:AT},(∀s∈l,1<=s)->1<=bnd l
 | [],_=>R6 _
 | s :: l,h=>Uu (h s R4) (Ef λx hx=>h x (R3 _ hx))
theorem D2:∀ {l:AT} {s:Nat},s∈l->bnd l % s=0
 | a :: l,s,h=>by
  rcases Sf.mp h with z|z
  .subst z;exact XU s (bnd l)
  .have ih:=D2 z;obtain⟨c,hc⟩:=Tj ih;show a * bnd l % s=0;rw[hc,WB];exact XU s _
theorem eF:∀ {l r:AT},l.Pairwise (· < ·)->r.Pairwise (· < ·)->(∀x,x∈l↔x∈r)->l=r
 | [],[],_,_,_=>rfl
 | [],b :: r,_,_,h=>absurd ((h b).mpr R4) (by simp)
 | a :: l,[],_,_,h=>absurd ((h a).mp R4) (by simp)
 | a :: l,b :: r,hl,hr,h=>by
  rw[Ug]at hl hr;have e:a=b:=by
   rcases Sf.mp ((h a).mp R4) with z|z
   .exact z
   .rcases Sf.mp ((h b).mpr R4) with y|y
    .exact y.symm
    .have h1:=hr.1 a z;have h2:=hl.1 b y;lia
  subst e;refine congrArg (a :: ·) (eF hl.2 hr.2 λx=>?_);constructor
  .intro hx;rcases Sf.mp ((h x).mp (R3 _ hx)) with z|z
   .have:=hl.1 x hx;lia
   .exact z
  .intro hx;rcases Sf.mp ((h x).mpr (R3 _ hx)) with z|z
   .have:=hr.1 x hx;lia
   .exact z
theorem kC:∀ {l:AT},l.Nodup->l.Pairwise (·<=·)->l.Pairwise (· < ·)
 | [],_,_=>.nil
 | a :: l,nd,h=>by
  rw[SS]at nd;rw[Ug]at h ⊢;refine⟨λb hb=>?_,kC nd.2 h.2⟩;have h1:=h.1 b hb;have h2:a≠b:=λz=>nd.1 (by rw[z];exact hb)
  lia
theorem aA(h:l.Pairwise (· < ·)):l.Nodup:=h.imp λz=>Sa z
theorem cx(nd:l.Nodup)(h:∀x∈l,x<n):l.length<=n:=by
 have:=sub_len nd (l2:=RS n) λx hx=>RU.mpr (h x hx)
 simpa using this
theorem Hy(g:GT n t e){x:Nat}(hx:x<n):∀ (l:AT) {a:Nat},a<n->(∀y∈l,y<n)->prd t (tb t x a) l=tb t x (prd t a l)
 | [],_,_,_=>rfl
 | y :: l,a,ha,hl=>by
  have hy:=hl y R4;show prd t (tb t (tb t x a) y) l=tb t x (prd t (tb t a y) l);rw[g.assoc x a y hx ha hy];exact Hy g hx l (g.lt a y ha hy) λz hz=>hl z (R3 _ hz)
theorem B7(g:GT n t e)(hx:x<n)(hl:∀y∈l,y<n):prd t x l=tb t x (prd t e l):=by
 rw[<- Hy g hx l g.elt hl,g.unr x hx]
theorem DQ(a:Nat)(l r:AT):prd t a (l++r)=prd t (prd t a l) r:=by
 unfold prd;rw[VT]
structure Gen(n:Nat)(t:AC)(e:Nat)(S P:AT):Prop where
 srt:P.Pairwise (· < ·)
 lt:∀x∈P,x<n
 un:e∈P
 cl:∀x∈P,∀s∈S,tb t x s∈P
 wd:∀x∈P,∃l,(∀y∈l,y∈S)/\prd t e l=x
structure IsPart(n:Nat)(t:AC)(P:AT):Prop where
 srt:P.Pairwise (· < ·)
 lt:∀x∈P,x<n
 ne:P≠[]
 cl:∀x∈P,∀y∈P,tb t x y∈P
theorem Gen.walk(G:Gen n t e S P):∀ (l:AT) {x:Nat},x∈P->(∀y∈l,y∈S)->prd t x l∈P
 | [],_,hx,_=>hx
 | y :: l,x,hx,hl=>G.walk l (G.cl x hx y (hl y R4)) λz hz=>hl z (R3 _ hz)
theorem Gen.part(G:Gen n t e S P)(g:GT n t e)(hS:∀s∈S,s<n):IsPart n t P:=by
 refine⟨G.srt,G.lt,UN G.un,λx hx y hy=>?_⟩;obtain⟨l,hl,rfl⟩:=G.wd y hy;rw[<- B7 g (G.lt x hx) λz hz=>hS z (hl z hz)];exact G.walk l hx hl
theorem IsPart.pow(h:IsPart n t P)(g:GT n t e){x:Nat}(hx:x∈P):∀k,ax t e x (k+1)∈P
 | 0=>by rw[mz g (h.lt x hx)];exact hx
 | k+1=>h.cl _ (h.pow g hx k) _ hx
theorem IsPart.un(h:IsPart n t P)(g:GT n t e):e∈P:=by
 obtain⟨x,hx⟩:=List.exists_mem_of_ne_nil _ h.ne;have o:=dD g (h.lt x hx);have:=h.pow g hx (aI n t e x - 1);rw[show aI n t e x - 1+1=aI n t e x by have:=fP (n:=n) (t:=t) (e:=e) (a:=x);lia,o.2.1]at this
 l_out
theorem IsPart.bk(h:IsPart n t P)(g:GT n t e)(hx:x∈P):ay n t e x∈P:=by
 have hn:=h.lt x hx;have o:=dD g hn;have op:1<=aI n t e x:=fP;have q:tb t x (ax t e x (aI n t e x - 1))=e:=by
  have:=cJ g hn 1 (aI n t e x - 1);rw[show 1+(aI n t e x - 1)=aI n t e x by lia,o.2.1,mz g hn]at this
  exact this.symm
 rw[<- g.F8 hn (bp g hn _) q];cases h1:aI n t e x - 1 with
 | zero=>exact h.un g
 | succ k=>exact h.pow g hx k
theorem IsPart.len(h:IsPart n t P):P.length<=n:=cx (aA h.srt) h.lt
theorem Gen.len(G:Gen n t e S P):P.length<=n:=cx (aA G.srt) G.lt
theorem Gen.has(G:Gen n t e S P)(g:GT n t e)(hs:s∈S)(hn:s<n):s∈P:=by
 have:=G.cl e G.un s hs;rw[g.unl s hn]at this;l_out
theorem Gen.least(G:Gen n t e S P)(he:e∈R)(cl:∀x∈R,∀s∈S,tb t x s∈R):∀x∈P,x∈R:=λx hx=>by
 obtain⟨l,hl,rfl⟩:=G.wd x hx;have key:∀ (l:AT) {a:Nat},a∈R->(∀y∈l,y∈S)->prd t a l∈R:=λl=>by
  induction l with
  | nil=>intro a ha _;exact ha
  | cons y r ih=>intro a ha hy;exact ih (cl a ha y (hy y R4)) λz hz=>hy z (R3 _ hz)
 exact key l he hl
theorem Gen.uni{P':AT}(G:Gen n t e S P)(G':Gen n t e S' P')(h:∀s,s∈S↔s∈S'):P=P' :=
 eF G.srt G'.srt λx=>⟨G.least G'.un (λy hy s hs=>G'.cl y hy s ((h s).mp hs)) x,G'.least G.un (λy hy s hs=>G.cl y hy s ((h s).mpr hs)) x⟩
structure jI(n:Nat)(t:AC)(e:Nat)(S F:AT)(A:Nat):Prop where
 nd:F.Nodup
 lt:∀x∈F,x<n
 un:e∈F
 le:A<=F.length
 cl:∀i x,i<A->F[i]?=some x->∀s∈S,tb t x s∈F
 wd:∀x∈F,∃l,(∀y∈l,y∈S)/\prd t e l=x
theorem jI.len(G:jI n t e S F A):F.length<=n:=cx G.nd G.lt
theorem jI.put(G:jI n t e S F A)(g:GT n t e)(hx:x∈F)(hs:s∈S)(hn:s<n)(h:tb t x s∉F):jI n t e S (F++[tb t x s]) A:=by
 refine⟨?_,λy hy=>?_,Tx _ G.un,by rw[R8];have:=G.le;lia,λi y hi e' r hr=>?_,λy hy=>?_⟩
 .rw[Vh];exact⟨G.nd,by simp,λa ha b hb=>by rw[RX.mp hb];exact λz=>h (z ▸ ha)⟩
 .rcases R5.mp hy with z|z
  .exact G.lt y z
  .rw[RX.mp z];exact g.lt x s (G.lt x hx) hn
 .rw[Sz (Su hi G.le)]at e';exact Tx _ (G.cl i y hi e' r hr)
 .rcases R5.mp hy with z|z
  .exact G.wd y z
  .obtain⟨l,hl,q⟩:=G.wd x hx;refine⟨l++[s],λu hu=>?_,?_⟩
   .rcases R5.mp hu with z' | z'
    .exact hl u z'
    .rw[RX.mp z'];exact hs
   .rw[DQ,q,RX.mp z];rfl
theorem jI.next(G:jI n t e S F A)(hx:F[A]?=some x)(h:∀s∈S,tb t x s∈F):jI n t e S F (A+1) :=
 ⟨G.nd,G.lt,G.un,(RN.mp hx).1,λi y hi e'=>by
  rcases Sb i A with z|z
  .exact G.cl i y z e'
  .have:i=A:=by lia
   subst this;rw[hx]at e';cases e';exact h,G.wd⟩
theorem jI.gen(G:jI n t e S F A)(hA:F.length<=A)(hp:P.Perm F)(hs:P.Pairwise (·<=·)):Gen n t e S P:=by
 refine⟨kC (hp.nodup_iff.mpr G.nd) hs,λx hx=>G.lt x (hp.mem_iff.mp hx),hp.mem_iff.mpr G.un,λx hx s A!=>?_,λx hx=>G.wd x (hp.mem_iff.mp hx)⟩;obtain⟨i,hi,e'⟩:=YY.mp (hp.mem_iff.mp hx);exact hp.mem_iff.mpr (G.cl i x (by lia) (by rw[RL hi,e']) s A!)
def aQ(n:Nat)(t:AC)(e a b:Nat):Nat:=tb t (tb t b a) (ay n t e b)
theorem DM(g:GT n t e)(ha:a<n)(hb:b<n):aQ n t e a b<n:=g.lt _ _ (g.lt _ _ hb ha) (g.aO hb)
structure zW(n:Nat)(t:AC)(e:Nat)(R:AT)(L:AC):Prop where
 ne:∀s∈L,s≠[]
 srt:∀s∈L,s.Pairwise (· < ·)
 lt:∀s∈L,∀x∈s,x<n
 len:∀s∈L,s.length=R.length
 side:∀s∈L,∀x∈s,tb t (ay n t e (s.getD 0 0)) x∈R
 heads:(L.map λs=>s.getD 0 0).Pairwise (· < ·)
 all:L.flatten.Perm (RS n)
def fq(n:Nat)(t:AC)(e:Nat)(R:AT):AT:=R.flatMap λa=>R.map λb=>tb t (tb t (tb t a b) (ay n t e a)) (ay n t e b)
theorem iz :x∈fq n t e R↔∃a,a∈R/\∃b,b∈R/\tb t (tb t (tb t a b) (ay n t e a)) (ay n t e b)=x:=by
 unfold fq;simp only[List.mem_flatMap,R9]
theorem Gen.congr(G:Gen n t e S M)(h:∀x,x∈S↔x∈S'):Gen n t e S' M :=
 ⟨G.srt,G.lt,G.un,λx hx s hs=>G.cl x hx s ((h s).mpr hs),λx hx=>by
  obtain⟨l,hl,e⟩:=G.wd x hx;exact⟨l,λy hy=>(h y).mp (hl y hy),e⟩⟩
structure Words(n:Nat)(t:AC)(e:Nat)(S R:AT)(W:AC):Prop where
 len:W.length=R.length
 word:∀ (i r:Nat) (w:AT),R[i]?=some r->W[i]?=some w->(∀y∈w,y∈S)/\w.length<=n/\prd t e w=r/\(r=e->w=[])
theorem eK(g:GT n t e)(p:IsPart n t R)(hx:x<n)(hy:y<n):tb t (ay n t e x) y∈R↔∃h,h∈R/\tb t x h=y:=by
 have hb:=g.aO hx;constructor
 .intro h;refine⟨_,h,?_⟩;rw[<- g.assoc _ _ _ hx hb hy,g.ef hx,g.unl y hy]
 .rintro⟨h,hh,rfl⟩;rw[<- g.assoc _ _ _ hb hx (p.lt h hh),g.fS hx,g.unl h (p.lt h hh)];exact hh
theorem qS(g:GT n t e)(p:IsPart n t R)(hx:x<n):tb t (ay n t e x) x∈R:=by
 rw[g.fS hx];exact p.un g
theorem iL(g:GT n t e)(p:IsPart n t R)(ha:a<n)(hx:x<n)(hy:y<n)(h1:tb t (ay n t e a) x∈R)(h2:tb t (ay n t e a) y∈R):tb t (ay n t e x) y∈R:=by
 obtain⟨k1,hk1,rfl⟩:=(eK g p ha hx).mp h1;obtain⟨k2,hk2,rfl⟩:=(eK g p ha hy).mp h2;have l1:=p.lt k1 hk1;have l2:=p.lt k2 hk2;have lb:=g.aO l1;refine(eK g p hx hy).mpr ⟨tb t (ay n t e k1) k2,p.cl _ (p.bk g hk1) _ hk2,?_⟩;rw[g.assoc _ _ _ ha l1 (g.lt _ _ lb l2),<- g.assoc k1 _ _ l1 lb l2,g.ef l1,g.unl k2 l2]
theorem dE(g:GT n t e)(p:IsPart n t R)(ha:a<n)(hx:x<n)(h:tb t (ay n t e a) x∈R):tb t (ay n t e x) a∈R:=iL g p ha hx ha h (qS g p ha)
structure dI(n:Nat)(t:AC)(e:Nat)(R:AT)(L:AC)(i:Nat):Prop where
 ne:∀s∈L,s≠[]
 srt:∀s∈L,s.Pairwise (· < ·)
 lt:∀s∈L,∀x∈s,x<n
 len:∀s∈L,s.length=R.length
 full:∀s∈L,∀y,y<n->(y∈s↔tb t (ay n t e (s.getD 0 0)) y∈R)
 heads:(L.map λs=>s.getD 0 0).Pairwise (· < ·)
 hl:∀s∈L,s.getD 0 0<i
 nd:L.flatten.Nodup
 cov:∀y,y<i->y∈L.flatten
theorem dI.nil:dI n t e R [] 0 :=
 ⟨by simp,by simp,by simp,by simp,by simp,by simp,by simp,by simp,λy h=>absurd h (by lia)⟩
theorem head_mem{s:AT}(h:s≠[]):s.getD 0 0∈s:=by
 cases s with
 | nil=>exact absurd rfl h
 | cons a r=>simp
theorem dI.old(S:dI n t e R L i)(h:i∈L.flatten):dI n t e R L (i+1) :=
 ⟨S.ne,S.srt,S.lt,S.len,S.full,S.heads,λs hs=>Td (S.hl s hs),S.nd,λy hy=>by
  rcases Sb y i with z|z
  .exact S.cov y z
  .have:y=i:=by lia
   rw[this];exact h⟩
theorem dI.new{s:AT}(S:dI n t e R L i)(g:GT n t e)(p:IsPart n t R)(hi:i<n)(h:i∉L.flatten)(hs:s.Pairwise (· < ·))(hm:∀y,y∈s↔∃k,k∈R/\tb t i k=y):dI n t e R (L++[s]) (i+1):=by
 have ZW:∀y∈s,y<n:=λy hy=>by
  obtain⟨k,hk,rfl⟩:=(hm y).mp hy;exact g.lt _ _ hi (p.lt k hk)
 have his:i∈s:=(hm i).mpr ⟨e,p.un g,g.unr i hi⟩;have B':s≠[]:=UN his;have apart:∀y∈s,y∉L.flatten:=λy hy hf=>by
  obtain⟨s',A!,W!⟩:=Uz.mp hf;have hn:=ZW y hy;have h0:=S.lt s' A! _ (head_mem (S.ne s' A!));have q1:=(S.full s' A! y hn).mp W!;have q2:tb t (ay n t e i) y∈R:=(eK g p hi hn).mpr ((hm y).mp hy);have q3:=dE g p hi hn q2;have q4:=iL g p hn h0 hi (dE g p h0 hn q1) q3;exact h (Uz.mpr ⟨s',A!,(S.full s' A! i hi).mpr q4⟩)
 have hge:∀y∈s,i<=y:=λy hy=>by
  rcases Sb y i with z|z
  .exact absurd (S.cov y z) (apart y hy)
  .exact z
 have h0:s.getD 0 0=i:=by
  have h1:=hge _ (head_mem B');cases s with
  | nil=>exact absurd rfl B'
  | cons a r =>
   have h1:i<=a:=h1;show a=i;rcases Sf.mp his with z|z
   .exact z.symm
   .have:=(Ug.mp hs).1 i z;lia
 have hnd:=aA hs;have hlen:s.length=R.length:=by
  have m1:(R.map (tb t i)).Nodup:=fh (aA p.srt) λx hx y hy q=>g.cK hi (p.lt x hx) (p.lt y hy) q;have e1:=sub_len hnd (l2:=R.map (tb t i)) λy hy=>by
   obtain⟨k,hk,q⟩:=(hm y).mp hy;exact R9.mpr ⟨k,hk,q⟩
  have e2:=sub_len m1 (l2:=s) λy hy=>by
   obtain⟨k,hk,q⟩:=R9.mp hy;exact(hm y).mpr ⟨k,hk,q⟩
  rw[RP]at e1 e2;lia
 have two:∀ {Z:AT->Prop},(∀s'∈L,Z s')->Z s->∀s'∈L++[s],Z s':=λ{Z} a b s' A!=>by
  rcases R5.mp A! with z|z
  .exact a s' z
  .rw[RX.mp z];exact b
 refine⟨two S.ne B',two S.srt hs,two S.lt ZW,two S.len hlen,two S.full λy hy=>?_,?_,two (λs' A!=>Td (S.hl s' A!)) (by lia),?_,λy hy=>?_⟩
 .rw[h0,hm y];exact(eK g p hi hy).symm
 .rw[SQ];refine YX.mpr ⟨S.heads,by simp,λa ha b hb=>?_⟩
  obtain⟨s',A!,rfl⟩:=R9.mp ha;have:b=s.getD 0 0:=by simpa using hb
  rw[this,h0];exact S.hl s' A!
 .rw[U0];refine Vh.mpr ⟨S.nd,by simpa using hnd,λx hx y hy q=>?_⟩
  have W!:y∈s:=by simpa using hy
  rw[q]at hx;exact apart y W! hx
 .rw[U0];rcases Sb y i with z|z
  .exact Tx _ (S.cov y z)
  .have:y=i:=by lia
   rw[this];exact SJ _ (by simpa using his)
theorem dI.fin(S:dI n t e R L n):zW n t e R L:=by
 refine⟨S.ne,S.srt,S.lt,S.len,λs hs x hx=>(S.full s hs x (S.lt s hs x hx)).mp hx,S.heads,?_⟩;refine(U1 S.nd T6).mpr λx=>⟨λhx=>?_,λhx=>S.cov x (RU.mp hx)⟩;obtain⟨s,hs,z!⟩:=Uz.mp hx;exact RU.mpr (S.lt s hs x z!)
section
variable {W:AC}
structure jt(t:AC)(e:Nat)(S F:AT)(W:AC):Prop where
 len:W.length=F.length
 fst:F[0]?=some e
 word:∀ (i f:Nat) (w:AT),F[i]?=some f->W[i]?=some w->(∀y∈w,y∈S)/\w.length<=i/\prd t e w=f
theorem jt.one:jt t e S [e] [[]]:=by
 refine⟨rfl,rfl,λi f w h1 h2=>?_⟩;cases i with
 | zero =>
  have e1:e=f:=by simpa using h1
  have e2:[]=w:=by simpa using h2
  subst e1 e2;exact⟨by simp,R6 _,rfl⟩
 | succ i=>simp at h1
theorem jt.put(G:jt t e S F W)(hk:F[k]?=some a)(hw:W[k]?=some wa)(hs:s∈S):jt t e S (F++[tb t a s]) (W++[wa++[s]]):=by
 obtain⟨q1,q2,q3⟩:=G.word k a wa hk hw;have kl:k<F.length:=(RN.mp hk).1;refine⟨by simp[G.len],by rw[Sz (by lia)];exact G.fst,λi f w h1 h2=>?_⟩
 rcases TN i F.length with z|z|z
 .rw[Sz z]at h1;rw[Sz (by rw[G.len];exact z)]at h2
  exact G.word i f w h1 h2
 .rw[z,SE (R6 _)]at h1;rw[z,<- G.len,SE (R6 _)]at h2;have e1:tb t a s=f:=by simpa using h1
  have e2:wa++[s]=w:=by simpa using h2
  subst e1 e2;refine⟨λy hy=>?_,by simp;lia,by rw[DQ,q3];rfl⟩
  rcases R5.mp hy with y1|y1
  .exact q1 y y1
  .rw[RX.mp y1];exact hs
 .have:(F++[tb t a s]).length<=i:=by simp;lia
  rw[Sm this]at h1;cases h1
theorem jt.words(G:jt t e S F W)(nd:F.Nodup)(hn:F.length<=n){V:AC}(hl:V.length=R.length)(h:∀ (i r:Nat) (w:AT),R[i]?=some r->V[i]?=some w->∃j:Nat,F[j]?=some r/\W[j]?=some w):Words n t e S R V:=by
 refine⟨hl,λi r w h1 h2=>?_⟩;obtain⟨j,j1,j2⟩:=h i r w h1 h2;obtain⟨q1,q2,q3⟩:=G.word j r w j1 j2;have jl:j<F.length:=(RN.mp j1).1;refine⟨q1,by lia,q3,λz=>?_⟩
 have j0:j=0:=by
  obtain⟨l0,e0⟩:=RN.mp G.fst;obtain⟨l1,e1⟩:=RN.mp j1;rcases Tc j with y|y
  .exact y
  .exact absurd (e0.trans (z.symm.trans e1.symm)) ((SX.mp nd) 0 j l0 l1 y)
 rw[j0]at q2;exact Ud.mp (by lia)
end
theorem DW{s:AT}(hs:s.Pairwise (· < ·))(hx:x∈s):s.getD 0 0<=x:=by
 cases s with
 | nil=>exact absurd hx (by simp)
 | cons a r =>
  show a<=x;rcases Sf.mp hx with rfl|z
  .exact R6 _
  .exact Uw ((Ug.mp hs).1 x z)
theorem dI.step{s:AT}(S:dI n t e R L i)(g:GT n t e)(p:IsPart n t R)(hi:i<n)(hs:s.Pairwise (· < ·))(hm:∀y,y∈s↔∃k,k∈R/\tb t i k=y) :
  i∈s/\(s.getD 0 0=i->i∉L.flatten)/\(s.getD 0 0≠i->i∈L.flatten):=by
 have is:i∈s:=(hm i).mpr ⟨e,p.un g,g.unr i hi⟩;have hh:=head_mem (UN is);have le:=DW hs is;refine⟨is,λeh hf=>?_,λeh=>?_⟩
 .obtain⟨s',A!,v!⟩:=Uz.mp hf;have h1:=S.hl s' A!;have h2:=(S.full s' A! i hi).mp v!;have h3:=dE g p (by lia) hi h2
  obtain⟨k,hk,ek⟩:=(eK g p hi (by lia)).mp h3
  have:=DW hs ((hm _).mpr ⟨k,hk,ek⟩);lia
 .obtain⟨s',A!,v!⟩:=Uz.mp (S.cov (s.getD 0 0) (by lia))
  have h1:=S.hl s' A!;have h2:=(S.full s' A! _ (by lia)).mp v!
  have h3:=dE g p (by lia) (by lia) h2
  have h4:=(eK g p hi (by lia)).mpr ((hm _).mp hh)
  have h5:=dE g p hi (by lia) h4
  exact Uz.mpr ⟨s',A!,(S.full s' A! i hi).mpr (iL g p (by lia) (by lia) hi h3 h5)⟩
def KP(n:Nat)(t:AC)(e:Nat)(R:AT)(b:Nat):Option Nat->Prop
 | none=>∀h∈R,aQ n t e h b∈R
 | some h=>h∈R/\aQ n t e h b∉R/\∀h'∈R,h' < h->aQ n t e h' b∈R
def jz(t:AC)(R M:AT)(m j k:Nat):Prop:=M.getD (R.idxOf (tb t (R.getD j 0) (R.getD k 0))) 0=(M.getD j 0+M.getD k 0) % m
def lO(t:AC)(R M:AT)(m:Nat):Option (Nat×Nat)->Prop
 | none=>∀j,j<R.length->∀k,k<R.length->jz t R M m j k
 | some (a,b)=>∃j k,j<R.length/\k<R.length/\R.getD j 0=a/\R.getD k 0=b/\¬ jz t R M m j k/\(∀j',j' < j->∀k',k' < R.length->jz t R M m j' k')/\∀k',k' < k->jz t R M m j k'
theorem lO.uni{o o':Option (Nat×Nat)}(h:lO t R M m o)(h':lO t R M m o'):o=o':=by
 cases o with
 | none =>
  cases o' with
  | none=>rfl
  | some p =>
   obtain⟨a,b⟩:=p;obtain⟨j,k,hj,hk,_,_,q,_⟩:=h';exact absurd (h j hj k hk) q
 | some p =>
  obtain⟨a,b⟩:=p;obtain⟨j,k,hj,hk,ea,eb,q,q1,q2⟩:=h;cases o' with
  | none=>exact absurd (h' j hj k hk) q
  | some p' =>
   obtain⟨a',b'⟩:=p';obtain⟨j',k',Q!,g!,ea',eb',q',q1',q2'⟩:=h';have ej:j=j':=by
    rcases TN j j' with z|z|z
    .exact absurd (q1' j z k hk) q
    .exact z
    .exact absurd (q1 j' z k' g!) q'
   subst ej;have ek:k=k':=by
    rcases TN k k' with z|z|z
    .exact absurd (q2' k z) q
    .exact z
    .exact absurd (q2 k' z) q'
   subst ek;rw[<- ea,<- eb,<- ea',<- eb']
theorem lJ(h:x∈l):l[l.idxOf x]?=some x:=by
 rw[RL (SY h)];simp
def Sg(m:Nat):Nat->List Int->Nat->Int
 | _,[],_=>0
 | o,x :: l,k=>(if o % m=k then x else 0)+Sg m (o+1) l k
theorem kh(m:Nat):∀ (a b:ZM) (o k:Nat),Sg m o (a++b) k=Sg m o a k+Sg m (o+a.length) b k
 | [],b,o,k=>by simp[Sg]
 | x :: a,b,o,k=>by
  show (if o % m=k then x else 0)+Sg m (o+1) (a++b) k=(if o % m=k then x else 0)+Sg m (o+1) a k+Sg m (o+(a.length+1)) b k;rw[kh m a b,show o+1+a.length=o+(a.length+1) by lia,Int.add_assoc]
theorem BA(m:Nat)(t:Int):∀ (b c:ZM) (o k:Nat),b.length=c.length->Sg m o (Xr (λx y=>x - t * y) b c) k=Sg m o b k - t * Sg m o c k
 | [],[],o,k,_=>by simp[Sg]
 | x :: b,y :: c,o,k,h=>by
  show (if o % m=k then x - t * y else 0)+Sg m (o+1) (Xr (λx y=>x - t * y) b c) k=((if o % m=k then x else 0)+Sg m (o+1) b k) - t * ((if o % m=k then y else 0)+Sg m (o+1) c k);rw[BA m t b c (o+1) k (by simpa using h),ZE]
  split
  .lia
  .rw[Int.mul_zero];lia
 | [],_ :: _,_,_,h=>by simp at h
 | _ :: _,[],_,_,h=>by simp at h
theorem Gk(m:Nat):∀ (n o k:Nat),Sg m o (RZ n 0) k=0
 | 0,_,_=>rfl
 | n+1,o,k=>by
  show (if o % m=k then 0 else 0)+Sg m (o+1) (RZ n 0) k=0;rw[Gk m n]
  split <;> rfl
theorem yp{o:Nat}(hm:0<m)(hk:k<m):(o+s) % m=k↔o % m=(k+(m - s % m)) % m:=by
 have hs:=Sy s hm;have ds:=UZ s m;constructor
 .rintro rfl;rw[Tp,show o+s+(m - s % m)=o+m * (s / m+1) by rw[WA];lia,TL]
 .intro h;have e:(o+s) % m=(o % m+s) % m:=(Tp o m s).symm;rw[e,h,Tp,show k+(m - s % m)+s=k+m * (s / m+1) by rw[WA];lia,TL,Ss hk]
theorem Bi{m:Nat}(hm:0<m)(s:Nat):∀ (d:ZM) (o k:Nat),k<m->Sg m (o+s) d k=Sg m o d ((k+(m - s % m)) % m)
 | [],_,_,_=>rfl
 | x :: d,o,k,hk=>by
  show (if (o+s) % m=k then x else 0)+Sg m (o+s+1) d k=(if o % m=(k+(m - s % m)) % m then x else 0)+Sg m (o+1) d ((k+(m - s % m)) % m);rw[show o+s+1=o+1+s by lia,Bi hm s d (o+1) k hk]
  congr 1
  by_cases h:(o+s) % m=k
  .rw[if_pos h,if_pos ((yp hm hk).mp h)]
  .rw[if_neg h,if_neg λz=>h ((yp hm hk).mpr z)]
def Dm(m q:Nat)(f:Nat->Int)(k:Nat):Int:=f k - f ((k+(m - q)) % m)
def Dq(m:Nat)(qs:AT)(f:Nat->Int):Nat->Int:=qs.foldl (λf q=>Dm m q f) f
theorem Am(m:Nat)(c:Int)(hm:0<m):∀ (qs:AT) (f g h:Nat->Int),(∀k,k<m->h k=f k - c * g k)->∀k,k<m->Dq m qs h k=Dq m qs f k - c * Dq m qs g k
 | [],f,g,h,e,k,hk=>e k hk
 | q :: qs,f,g,h,e,k,hk=>by
  refine Am m c hm qs (Dm m q f) (Dm m q g) (Dm m q h) (λk hk=>?_) k hk;unfold Dm;rw[e k hk,e _ (Sy _ hm),Int.mul_sub];lia
theorem Cf(m r:Nat)(hm:0<m):∀ (qs:AT) (f g:Nat->Int),(∀k,k<m->g k=f ((k+r) % m))->∀k,k<m->Dq m qs g k=Dq m qs f ((k+r) % m)
 | [],f,g,e,k,hk=>e k hk
 | q :: qs,f,g,e,k,hk=>by
  refine Cf m r hm qs (Dm m q f) (Dm m q g) (λk hk=>?_) k hk;unfold Dm;rw[e k hk,e _ (Sy _ hm),Tp,Tp,show k+(m - q)+r=k+r+(m - q) by lia]
def n6(m:Nat)(qs:AT)(l:ZM):Prop:=∀k,k<m->Dq m qs (Sg m 0 l) k=0
def dP(d l:ZM):ZM :=
 l.dropLast.take (l.length - d.length)++Xr (λx c=>x - l.getLastD 0 * c) (l.dropLast.drop (l.length - d.length)) d.dropLast
def ng(d:ZM):Nat->List Int->List Int->List Int×ZM
 | 0,l,tk=>(tk.reverse,l)
 | n+1,l,tk=>ng d n (dP d l) (tk++[l.getLastD 0])
def ir(p d:ZM):ZM×ZM:=ng d (p.length+1 - d.length) p []
theorem sY{l:ZM}(h:l≠[]):l.dropLast++[l.getLastD 0]=l:=by
 have:=WU h;rw[XB,List.getLast?_eq_getLast h];l_out
theorem nU{l:ZM}(hd:d≠[])(hl:d.length<=l.length):(dP d l).length=l.length - 1:=by
 have:=Sr.mpr hd;unfold dP;simp;lia
theorem Em(hm:0<m){l:ZM}(hd:d.getLastD 0=1)(hn:d≠[])(hl:d.length<=l.length)(hk:k<m) :
  Sg m 0 (dP d l) k=Sg m 0 l k - l.getLastD 0 * Sg m (l.length - d.length) d k:=by
 have dp:=Sr.mpr hn;have ln:l≠[]:=λz=>by rw[z]at hl;simp at hl;exact hn hl
 have e1:Sg m 0 l k=Sg m 0 l.dropLast k+Sg m (l.length - 1) [l.getLastD 0] k:=by
  conv=>lhs;rw[<- sY ln]
  rw[kh];simp
 have e2:Sg m (l.length - d.length) d k=Sg m (l.length - d.length) d.dropLast k+Sg m (l.length - 1) [1] k:=by
  have z:=kh m d.dropLast [d.getLastD 0] (l.length - d.length) k;rw[sY hn,hd,UP,show l.length - d.length+(d.length - 1)=l.length - 1 by lia]at z
  exact z
 have e3:Sg m 0 l.dropLast k=Sg m 0 (l.dropLast.take (l.length - d.length)) k+Sg m (l.length - d.length) (l.dropLast.drop (l.length - d.length)) k:=by
  conv=>lhs;rw[<- UK (l.length - d.length) l.dropLast]
  rw[kh];simp;rw[show min (l.length - d.length) (l.length - 1)=l.length - d.length by lia]
 unfold dP;rw[kh,BA _ _ _ _ _ _ (by simp;lia),e1,e2,e3]
 simp only[Sg,Sd,UP];rw[show min (l.length - d.length) (l.length - 1)=l.length - d.length by lia,To,ZE,ZE]
 split <;> simp <;> lia
theorem HW(hm:0<m){l:ZM}(hd:d.getLastD 0=1)(hn:d≠[])(hl:d.length<=l.length)(N:n6 m qs d)(hk:k<m) :
  Dq m qs (Sg m 0 (dP d l)) k=Dq m qs (Sg m 0 l) k:=by
 have h1:=Am m (l.getLastD 0) hm qs (Sg m 0 l) (Sg m (l.length - d.length) d) (Sg m 0 (dP d l)) (λk hk=>Em hm hd hn hl hk) k hk;have h2:=Cf m (m - (l.length - d.length) % m) hm qs (Sg m 0 d) (Sg m (l.length - d.length) d) (λk hk=>by
  have:=Bi hm (l.length - d.length) d 0 k hk;rw[To]at this;exact this) k hk
 rw[h1,h2,N _ (Sy _ hm)];simp
theorem DX{m:Nat}(hm:0<m){qs:AT}{d:ZM}(hd:d.getLastD 0=1)(hn:d≠[])(N:n6 m qs d):∀ (n:Nat) (l tk:ZM),l.length+1 - d.length=n->∀k,k<m->Dq m qs (Sg m 0 (ng d n l tk).2) k=Dq m qs (Sg m 0 l) k
 | 0,l,tk,_,k,hk=>rfl
 | n+1,l,tk,h,k,hk=>by
  have hl:d.length<=l.length:=by lia
  have e:=nU hn hl;have dp:=Sr.mpr hn;show Dq m qs (Sg m 0 (ng d n (dP d l) _).2) k=_;rw[DX hm hd hn N n _ _ (by lia) k hk,HW hm hd hn hl N hk]
theorem Nq(hm:0<m){p:ZM}(hd:d.getLastD 0=1)(hn:d≠[])(N:n6 m qs d)(hk:k<m):Dq m qs (Sg m 0 (ir p d).2) k=Dq m qs (Sg m 0 p) k :=
 DX hm hd hn N _ p [] rfl k hk
theorem xE{d:ZM}(hn:d≠[]):∀ (n:Nat) (l tk:ZM),l.length+1 - d.length=n->d.length<=l.length+1->(ng d n l tk).2.length=d.length - 1
 | 0,l,tk,h,h2=>by show l.length=_;lia
 | n+1,l,tk,h,h2=>by
  have dp:=Sr.mpr hn;have e:=nU hn (show d.length<=l.length by lia)
  exact xE hn n _ _ (by lia) (by lia)
theorem Jr{p:ZM}(hn:d≠[])(h:d.length<=p.length+1):(ir p d).2.length=d.length - 1:=xE hn _ p [] rfl h
def zT(m:Nat)(fs:List (Nat×ZM)):ZM:=fs.foldl (λl f=>if m % f.1=0 then (ir l f.2).1 else l) ([-1]++RZ (m - 1) 0++[1])
def bU(m:Nat):Nat->List (Nat×ZM)
 | 0=>[]
 | k+1=>if m % (k+1)=0 then bU m k++[(k+1,zT (k+1) (bU m k))] else bU m k
def d9(m:Nat):ZM:=zT m (bU m (m - 1))
def strip(p:Nat):Nat->Nat->Nat
 | 0,r=>r
 | f+1,r=>if r % p=0 then strip p f (r / p) else r
def bH(m:Nat):Nat->AT×Nat
 | 0=>([],m)
 | k+1=>let (l,r):=bH m k
  (if r % (k+2)=0 then l++[k+2] else l,strip (k+2) 64 r)
def lI(m:Nat):AT:=(bH m (m - 1)).1
def nL(m:Nat):AT:=(lI m).map λp=>m / p
def tY(m:Nat):Nat:=((RS m).filter λk=>(lI m).all λp=>(k+1) % p≠0).length
def kq(l:ZM):Bool:=l.all λc=>decide (-1000<=c) && decide (c<=1000)
def fO(m:Nat):Bool :=
 decide ((d9 m).length=tY m+1) && decide ((d9 m).getLastD 0=1) && kq (d9 m) && (bU m m).all (λf=>kq f.2 && decide (f.2.getLastD 0=1)) && decide (d9 m≠[]) &&
 (RS m).all (λk=>decide (Dq m (nL m) (Sg m 0 (d9 m)) k=0))
def eP(t:Int)(d:ZM)(st j:Nat)(l:ZM):ZM:=l.mapIdx λi x=>if st<=i/\i<st+j then x - t * d.getD (i - st) 0 else x
theorem iI{t:Int}{l:ZM}{st:Nat}:(eP t d st j l)[i]?=l[i]?.map λx=>if st<=i/\i<st+j then x - t * d.getD (i - st) 0 else x:=by
 unfold eP;rw[List.getElem?_mapIdx]
theorem mZ{t:Int}{l:ZM}{st:Nat}:(eP t d st j l).length=l.length:=by
 unfold eP;rw[List.length_mapIdx]
theorem vz{t:Int}{l:ZM}{st:Nat}:eP t d st 0 l=l:=by
 refine Tr λi=>?_;rw[iI];cases l[i]? with
 | none=>rfl
 | some x=>rw[TQ,if_neg (by lia)]
theorem Bw{t:Int}{l:ZM}{st:Nat}(h:st+j<l.length):(eP t d st j l)[st+j]?=some (l.getD (st+j) 0):=by
 rw[iI,RL h,TQ,if_neg (by lia)]
 simp[V0,RL h]
theorem yg{t:Int}{l:ZM}{st:Nat}(h:st+j<l.length):(eP t d st j l).set (st+j) (l.getD (st+j) 0 - t * d.getD j 0)=eP t d st (j+1) l:=by
 refine Tr λi=>?_;rw[List.getElem?_set,iI,iI,mZ]
 by_cases e:st+j=i
 .subst e;rw[if_pos rfl,if_pos h,RL h,TQ,if_pos (by lia),show st+j - st=j by lia]
  simp[V0,RL h]
 .rw[if_neg e];cases l[i]? with
  | none=>rfl
  | some x =>
   rw[TQ,TQ]
   by_cases c:st<=i/\i<st+j
   .rw[if_pos c,if_pos (by lia)]
   .rw[if_neg c,if_neg (by lia)]
theorem EW{l:ZM}(hn:d≠[])(hl:d.length<=l.length):eP (l.getLastD 0) d (l.length - d.length) (d.length - 1) l.dropLast=dP d l:=by
 have dp:=Sr.mpr hn;refine Tr λi=>?_;rw[iI];unfold dP;rcases Sb i (l.length - d.length) with z|z
 .rw[Sz (by simp;lia),Th z]
  cases l.dropLast[i]? with
  | none=>rfl
  | some x=>rw[TQ,if_neg (by lia)]
 .rw[SE (by simp;lia),YI,Xo]
  simp only[Sd,UP];rw[show min (l.length - d.length) (l.length - 1)=l.length - d.length by lia,show l.length - d.length+(i - (l.length - d.length))=i by lia]
  rcases Sb i (l.length - 1) with y|y
  .have h1:i<l.dropLast.length:=by simp;exact y
   have h2:i - (l.length - d.length)<d.dropLast.length:=by simp;lia
   have h3:i - (l.length - d.length)<d.length:=by lia
   rw[RL h1,RL h2,TQ,if_pos (by lia)]
   simp[V0,RL h3,List.getElem_dropLast]
  .rw[Sm (by simp;lia)]
   rfl
theorem GA{l:ZM}(h:kq l=true)(j:Nat):-1000<=l.getD j 0/\l.getD j 0<=1000:=by
 unfold kq at h;rw[SF]at h
 by_cases hj:j<l.length
 .have:=h l[j] (S3 hj);simp at this;simp[V0,RL hj];l_out
 .rw[V0,Sm (by lia)]
  exact⟨by decide,by decide⟩
theorem xD(d:ZM):∀ (n:Nat) (l tk:ZM),(ng d n l tk).1.length=tk.length+n
 | 0,l,tk=>by show tk.reverse.length=_;simp
 | n+1,l,tk=>by
  show (ng d n (dP d l) (tk++[l.getLastD 0])).1.length=_;rw[xD d n];simp;lia
theorem ID{l:ZM}(hn:d≠[]):(ir l d).1.length<=l.length:=by
 have:=Sr.mpr hn;unfold ir;rw[xD];simp;lia
def pX(m:Nat)(fs:List (Nat×ZM))(l:ZM):ZM:=fs.foldl (λl f=>if m % f.1=0 then (ir l f.2).1 else l) l
theorem FK(m:Nat)(fs:List (Nat×ZM))(f:Nat×ZM)(l:ZM):pX m (fs++[f]) l=if m % f.1=0 then (ir (pX m fs l) f.2).1 else pX m fs l:=by
 unfold pX;rw[VT];rfl
def iV(m:Nat)(sp st:Int)(k:Nat):Nat:=((st+sp * (k:Int)) % (m:Int)).toNat
def fW(m:Nat)(sp st:Int)(l:ZM):ZM:=l.zipIdx.foldl (λC! x=>C!.set (iV m sp st x.2) (C!.getD (iV m sp st x.2) 0+x.1)) (RZ m 0)
theorem xj(hm:0<m)(sp st:Int)(k:Nat):iV m sp st k<m:=by
 unfold iV;have h1:=Wn (st+sp * (k:Int)) (show (m:Int)≠0 by lia)
 have h2:=Xs (st+sp * (k:Int)) (show (0:Int)<m by lia)
 lia
theorem xQ(hm:0<m)(sp st:Int)(k:Nat):((iV m sp st k:Nat):Int)=(st+sp * (k:Int)) % (m:Int):=by
 unfold iV;have h1:=Wn (st+sp * (k:Int)) (show (m:Int)≠0 by lia)
 lia
theorem vh(m:Nat)(sp st:Int)(l:ZM)(x:Int):fW m sp st (l++[x])=(fW m sp st l).set (iV m sp st l.length) ((fW m sp st l).getD (iV m sp st l.length) 0+x):=by
 unfold fW;rw[List.zipIdx_append,VT];simp
theorem m6(m:Nat)(sp st:Int)(l:ZM):(fW m sp st l).length=m:=by
 unfold fW;generalize l.zipIdx=z;have:∀ (z:List (Int×Nat)) (C!:ZM),(z.foldl (λC! x=>C!.set (iV m sp st x.2) (C!.getD (iV m sp st x.2) 0+x.1)) C!).length=C!.length:=λz=>by
  induction z with
  | nil=>intro C!;rfl
  | cons a r ih=>intro C!;rw[Yx,ih,VJ]
 rw[this,VI]
theorem Ga(m:Nat)(x:Int):∀ (C!:ZM) (o p k:Nat),p<C!.length->Sg m o (C!.set p (C!.getD p 0+x)) k=Sg m o C! k+(if (o+p) % m=k then x else 0)
 | [],_,_,_,h=>by simp at h
 | y :: C!,o,0,k,_=>by
  show (if o % m=k then y+x else 0)+Sg m (o+1) C! k=(if o % m=k then y else 0)+Sg m (o+1) C! k+(if (o+0) % m=k then x else 0)
  by_cases c:o % m=k
  .rw[if_pos c,if_pos c,if_pos (by simpa using c)];lia
  .rw[if_neg c,if_neg c,if_neg (by simpa using c)];lia
 | y :: C!,o,p+1,k,h=>by
  show (if o % m=k then y else 0)+Sg m (o+1) (C!.set p (C!.getD p 0+x)) k=(if o % m=k then y else 0)+Sg m (o+1) C! k+(if (o+(p+1)) % m=k then x else 0);rw[Ga m x C! (o+1) p k (by simpa using h),show o+1+p=o+(p+1) by lia,Int.add_assoc]
theorem Hg{m:Nat}(hm:0<m){k:Nat}:∀ (n:Nat) (l:ZM),l.length=n->Sg m 0 (fW m 1 0 l) k=Sg m 0 l k
 | 0,l,h=>by
  have:l=[]:=List.eq_nil_of_length_eq_zero h;subst this;show Sg m 0 (RZ m 0) k=0;exact Gk m m 0 k
 | n+1,l,h=>by
  have ln:l≠[]:=λz=>by rw[z]at h;simp at h
  obtain⟨l',x,rfl⟩:∃l' x,l=l'++[x]:=⟨l.dropLast,l.getLast ln,(WU ln).symm⟩;have hl:l'.length=n:=by simpa using h
  rw[vh,Ga m x _ 0 _ k (by rw[m6];exact xj hm _ _ _),Hg hm n l' hl,kh]
  congr 1
  show _=(if (0+l'.length) % m=k then x else 0)+0;have e:(0+iV m 1 0 l'.length) % m=(0+l'.length) % m:=by
   have c:=xQ hm 1 0 l'.length;rw[To,To,Ss (xj hm _ _ _)];have:((iV m 1 0 l'.length:Nat):Int)=((l'.length % m:Nat):Int):=by rw[c];simp
   exact X2 this
  rw[e,Int.add_zero]
def cU(m:Nat)(l:ZM):ZM:=(ir (fW m 1 0 l) (d9 m)).2
structure lH(m:Nat):Prop where
 len:(d9 m).length=tY m+1
 last:(d9 m).getLastD 0=1
 sm:kq (d9 m)=true
 ne:d9 m≠[]
 no:n6 m (nL m) (d9 m)
theorem pF(h:fO m=true):lH m:=by
 unfold fO at h;simp only[Uj,decide_eq_true_eq]at h;obtain⟨⟨⟨⟨⟨h1,h2⟩,h3⟩,_⟩,h5⟩,h6⟩:=h;refine⟨h1,h2,h3,h5,λk hk=>?_⟩;rw[SF]at h6
 simpa using h6 k (RU.mpr hk)
theorem Od(hm:0<m)(W:lH m)(l:ZM)(hk:k<m):Dq m (nL m) (Sg m 0 (cU m l)) k=Dq m (nL m) (Sg m 0 l) k:=by
 unfold cU;rw[Nq hm W.last W.ne W.no hk];have:=Cf m 0 hm (nL m) (Sg m 0 l) (Sg m 0 (fW m 1 0 l)) (λk hk=>by rw[Uh,Ss hk];exact Hg hm l.length l rfl) k hk
 rw[Uh,Ss hk]at this;l_out
theorem IM(W:lH m)(hd:tY m<=m)(l:ZM):(cU m l).length=tY m:=by
 unfold cU;rw[Jr W.ne (by rw[m6,W.len];lia),W.len]
 rfl
def WG(m:Nat):Prop:=fO m=true/\tY m<=m/\∀p∈lI m,1<=m / p/\m / p<=m/\0<p/\p<=1000
instance (m:Nat):Decidable (WG m):=by unfold WG;infer_instance
theorem Ro:WG 1:=by trivial
theorem RE:WG 2:=by trivial
theorem Rr:WG 3:=by trivial
theorem RI:WG 4:=by trivial
theorem RA:WG 5:=by trivial
theorem Rv:WG 6:=by trivial
theorem Rh:WG 7:=by trivial
theorem Rb:WG 8:=by trivial
theorem Ra:WG 9:=by trivial
theorem Pl:WG 10:=by trivial
theorem PL:WG 11:=by trivial
theorem PR:WG 12:=by trivial
theorem O6:WG 13:=by trivial
theorem Po:WG 14:=by trivial
theorem Qs:WG 15:=by trivial
theorem Qn:WG 16:=by trivial
theorem Qf:WG 17:=by trivial
theorem Qe:WG 18:=by trivial
theorem Qt:WG 19:=by trivial
theorem PM:WG 20:=by trivial
theorem Pd:WG 21:=by trivial
theorem O5:WG 22:=by trivial
theorem Qz:WG 23:=by trivial
theorem QM:WG 24:=by trivial
theorem QZ:WG 25:=by trivial
theorem Ql:WG 26:=by trivial
theorem Ph:WG 27:=by trivial
theorem Pa:WG 28:=by trivial
theorem Qo:WG 29:=by trivial
theorem PF:WG 30:=by trivial
theorem P4:WG 31:=by trivial
theorem O8:WG 32:=by trivial
theorem Qb:WG 33:=by trivial
theorem Qj:WG 34:=by trivial
theorem QW:WG 35:=by trivial
theorem P0:WG 36:=by trivial
theorem PN:WG 37:=by trivial
theorem Pu:WG 38:=by trivial
theorem Pb:WG 39:=by trivial
theorem PB:WG 40:=by trivial
theorem Px:WG 41:=by trivial
theorem Q1:WG 42:=by trivial
theorem QC:WG 43:=by trivial
theorem Qk:WG 44:=by trivial
theorem QY:WG 45:=by trivial
theorem PJ:WG 46:=by trivial
theorem QF:WG 47:=by trivial
theorem Qh:WG 48:=by trivial
theorem Qa:WG 49:=by trivial
theorem Qc:WG 50:=by trivial
theorem QP:WG 51:=by trivial
theorem QK:WG 52:=by trivial
theorem QU:WG 53:=by trivial
theorem PV:WG 54:=by trivial
theorem Qx:WG 55:=by trivial
theorem Pr:WG 56:=by trivial
theorem QJ:WG 57:=by trivial
theorem PX:WG 58:=by trivial
theorem PU:WG 59:=by trivial
theorem Py:WG 60:=by trivial
theorem xZ:∀m,m<61->m=0\/(fO m=true/\tY m<=m/\∀p∈lI m,1<=m / p/\m / p<=m/\0<p/\p<=1000)
 | 0,_=>.inl rfl
 | 1,_=>.inr Ro
 | 2,_=>.inr RE
 | 3,_=>.inr Rr
 | 4,_=>.inr RI
 | 5,_=>.inr RA
 | 6,_=>.inr Rv
 | 7,_=>.inr Rh
 | 8,_=>.inr Rb
 | 9,_=>.inr Ra
 | 10,_=>.inr Pl
 | 11,_=>.inr PL
 | 12,_=>.inr PR
 | 13,_=>.inr O6
 | 14,_=>.inr Po
 | 15,_=>.inr Qs
 | 16,_=>.inr Qn
 | 17,_=>.inr Qf
 | 18,_=>.inr Qe
 | 19,_=>.inr Qt
 | 20,_=>.inr PM
 | 21,_=>.inr Pd
 | 22,_=>.inr O5
 | 23,_=>.inr Qz
 | 24,_=>.inr QM
 | 25,_=>.inr QZ
 | 26,_=>.inr Ql
 | 27,_=>.inr Ph
 | 28,_=>.inr Pa
 | 29,_=>.inr Qo
 | 30,_=>.inr PF
 | 31,_=>.inr P4
 | 32,_=>.inr O8
 | 33,_=>.inr Qb
 | 34,_=>.inr Qj
 | 35,_=>.inr QW
 | 36,_=>.inr P0
 | 37,_=>.inr PN
 | 38,_=>.inr Pu
 | 39,_=>.inr Pb
 | 40,_=>.inr PB
 | 41,_=>.inr Px
 | 42,_=>.inr Q1
 | 43,_=>.inr QC
 | 44,_=>.inr Qk
 | 45,_=>.inr QY
 | 46,_=>.inr PJ
 | 47,_=>.inr QF
 | 48,_=>.inr Qh
 | 49,_=>.inr Qa
 | 50,_=>.inr Qc
 | 51,_=>.inr QP
 | 52,_=>.inr QK
 | 53,_=>.inr QU
 | 54,_=>.inr PV
 | 55,_=>.inr Qx
 | 56,_=>.inr Pr
 | 57,_=>.inr QJ
 | 58,_=>.inr PX
 | 59,_=>.inr PU
 | 60,_=>.inr Py
 | n+61,h=>absurd h (by lia)
def ou(n:Nat)(t:AC)(e:Nat)(R:AT)(x:Nat):Bool:=decide (∀y,y<x->tb t (ay n t e y) x∉R)
def dz(n:Nat)(t:AC)(e:Nat)(R:AT)(i:Nat):AT:=(RS i).filter (ou n t e R)
def aV(n:Nat)(t:AC)(e:Nat)(R:AT):AT:=dz n t e R n
theorem pW :x∈dz n t e R i↔x<i/\∀y,y<x->tb t (ay n t e y) x∉R:=by
 unfold dz ou;rw[Sx,RU,decide_eq_true_iff]
theorem eO :x∈aV n t e R↔x<n/\∀y,y<x->tb t (ay n t e y) x∉R:=pW
theorem Fo :(dz n t e R i).Pairwise (· < ·):=Uv _ TM
theorem oZ:(aV n t e R).Pairwise (· < ·):=Fo
theorem bZ(h:x∈aV n t e R):x<n:=(eO.mp h).1
theorem lZ:(aV n t e R).length<=n:=cx (aA oZ) λx hx=>bZ hx
theorem tD(i:Nat):dz n t e R (i+1)=if ou n t e R i=true then dz n t e R i++[i] else dz n t e R i:=by
 unfold dz;rw[Vs,VE];cases h:ou n t e R i with
 | true=>simp[h]
 | false=>simp[h]
theorem Dz(g:GT n t e)(p:IsPart n t R)(x:Nat)(hx:x<n):∃c,c∈aV n t e R/\tb t (ay n t e c) x∈R:=by
 induction x using Nat.strongRecOn with
 | ind x ih =>
  by_cases h:∀y,y<x->tb t (ay n t e y) x∉R
  .exact⟨x,eO.mpr ⟨hx,h⟩,qS g p hx⟩
  .obtain⟨y,hy⟩:=Classical.not_forall.mp h;obtain⟨yx,hr⟩:=Classical.not_imp.mp hy;have hr':=Classical.not_not.mp hr;have yn:=WI yx hx;obtain⟨c,hc,q⟩:=ih y yx yn;exact⟨c,hc,iL g p yn (bZ hc) hx (dE g p (bZ hc) yn q) hr'⟩
theorem Cp(g:GT n t e)(p:IsPart n t R){c':Nat}(hx:x<n)(hc:c∈aV n t e R)(q!:c'∈aV n t e R)(h:tb t (ay n t e c) x∈R)(h':tb t (ay n t e c') x∈R):c=c':=by
 have l:=bZ hc;have l':=bZ q!;have q:=iL g p hx l l' (dE g p l hx h) (dE g p l' hx h');have q':=dE g p l l' q;rcases TN c c' with z|z|z
 .exact absurd q ((eO.mp q!).2 c z)
 .exact z
 .exact absurd q' ((eO.mp hc).2 c' z)
theorem LP(g:GT n t e)(p:IsPart n t R)(hx:x<n)(hc:c∈aV n t e R)(h:tb t (ay n t e c) x∈R):c<=x:=by
 rcases Sb x c with z|z
 .exact absurd (dE g p (bZ hc) hx h) ((eO.mp hc).2 x z)
 .exact z
theorem AK{s:AT}(h:s.Pairwise (· < ·))(hx:x∈s):s.getD 0 0<=x:=by
 cases s with
 | nil=>cases hx
 | cons a r =>
  show a<=x;rcases Sf.mp hx with z|z
  .lia
  .have:=(Ug.mp h).1 x z;lia
theorem zW.aV{L:AC}(S:zW n t e R L)(g:GT n t e)(p:IsPart n t R):L.map (λs=>s.getD 0 0)=aV n t e R:=by
 refine eF S.heads oZ λx=>?_;have full:∀s∈L,∀y,y<n->tb t (ay n t e (s.getD 0 0)) y∈R->y∈s:=λs hs y hy h=>by
  refine S0 λno=>?_;have h0:=S.lt s hs _ (head_mem (S.ne s hs));have nd:(y :: s).Nodup:=SS.mpr ⟨no,aA (S.srt s hs)⟩;have:=sub_len nd (l2:=R.map (tb t (s.getD 0 0))) λz hz=>by
   have hzr:z<n/\tb t (ay n t e (s.getD 0 0)) z∈R:=by
    rcases Sf.mp hz with q|q
    .rw[q];exact⟨hy,h⟩
    .exact⟨S.lt s hs z q,S.side s hs z q⟩
   obtain⟨k,hk,q⟩:=(eK g p h0 hzr.1).mp hzr.2;exact R9.mpr ⟨k,hk,q⟩
  rw[SU,RP,S.len s hs]at this;lia
 constructor
 .intro hx;obtain⟨s,hs,rfl⟩:=R9.mp hx;have h0:=S.lt s hs _ (head_mem (S.ne s hs));refine eO.mpr ⟨h0,λy hy q=>?_⟩;have hyn:=WI hy h0;have ys:=full s hs y hyn (dE g p hyn h0 q);have:=AK (S.srt s hs) ys;have W!:y<s.getD 0 0:=hy;lia
 .intro hx;obtain⟨hxn,h⟩:=eO.mp hx;obtain⟨s,hs,xs⟩:=Uz.mp (S.all.mem_iff.mpr (RU.mpr hxn));refine R9.mpr ⟨s,hs,?_⟩;have h1:=S.side s hs x xs;have hle:=AK (S.srt s hs) xs;show s.getD 0 0=x;rcases Sb (s.getD 0 0) x with z|z
  .exact absurd h1 (h _ z)
  .lia
def hm(n:Nat)(t:AC)(e:Nat)(R:AT)(x:Nat):Nat:=(aV n t e R).findIdx λc=>decide (tb t (ay n t e c) x∈R)
def ov(n:Nat)(t:AC)(e:Nat)(R:AT)(x:Nat):Nat:=tb t (ay n t e ((aV n t e R).getD (hm n t e R x) 0)) x
theorem FR(g:GT n t e)(p:IsPart n t R)(hx:x<n)(hi:(aV n t e R)[i]?=some c)(h:tb t (ay n t e c) x∈R):hm n t e R x=i:=by
 obtain⟨hl,ec⟩:=RN.mp hi;have hex:∃c,c∈aV n t e R/\decide (tb t (ay n t e c) x∈R)=true:=⟨c,RQ hi,decide_eq_true h⟩;have ZW:hm n t e R x<(aV n t e R).length:=List.findIdx_lt_length_of_exists hex;have hget:=List.findIdx_getElem (w:=ZW);have h2:tb t (ay n t e ((aV n t e R)[hm n t e R x])) x∈R:=of_decide_eq_true hget;have hc2:(aV n t e R)[hm n t e R x]∈aV n t e R:=S3 ZW;have:=Cp g p hx (RQ hi) hc2 h h2;have nd:=aA (oZ (n:=n) (t:=t) (e:=e) (R:=R));exact(WJ nd).mp (by rw[ec,<- this])
theorem uz(g:GT n t e)(p:IsPart n t R)(hx:x<n):∃c,(aV n t e R)[hm n t e R x]?=some c/\c<n/\tb t (ay n t e c) x=ov n t e R x/\ov n t e R x∈R:=by
 obtain⟨c,hc,h⟩:=Dz g p x hx;obtain⟨i,hi⟩:=Sk hc;have q:=FR g p hx hi h;have hg:(aV n t e R).getD i 0=c:=by rw[RT,hi];rfl
 have ho:ov n t e R x=tb t (ay n t e c) x:=by unfold ov;rw[q,hg]
 exact⟨c,by rw[q];exact hi,bZ hc,ho.symm,by rw[ho];exact h⟩
theorem KO(g:GT n t e)(p:IsPart n t R)(hi:(aV n t e R)[i]?=some c)(hk:R[k]?=some h)(q:tb t c h=x):hm n t e R x=i/\R.idxOf (ov n t e R x)=k:=by
 have hc:=RQ hi;have hh:=RQ hk;have cn:=bZ hc;have hn:=p.lt h hh;have hx:x<n:=by rw[<- q];exact g.lt _ _ cn hn
 have hb:=g.aO cn;have e1:tb t (ay n t e c) x=h:=by rw[<- q,<- g.assoc _ _ _ hb cn hn,g.fS cn,g.unl h hn]
 have h1:=FR g p hx hi (by rw[e1];exact hh)
 obtain⟨c',a1,_,a3,_⟩:=uz g p hx;rw[h1,hi]at a1;cases a1;refine⟨h1,?_⟩;rw[<- a3,e1];obtain⟨hl,eh⟩:=RN.mp hk;rw[<- eh];exact(aA p.srt).idxOf_getElem k hl
theorem zK(g:GT n t e)(p:IsPart n t R)(hx:x<n):∃c k,(aV n t e R)[hm n t e R x]?=some c/\R[k]?=some (ov n t e R x)/\R.idxOf (ov n t e R x)=k/\tb t c (ov n t e R x)=x:=by
 obtain⟨c,a1,a2,a3,a4⟩:=uz g p hx;refine⟨c,_,a1,?_,rfl,?_⟩
 .rw[RL (SY a4),VD]
 .rw[<- a3,<- g.assoc _ _ _ a2 (g.aO a2) hx,g.ef a2,g.unl x hx]
def mU(n:Nat)(t:AC)(e:Nat)(R:AT):List (Z3):=(RS n).map λa=>(aV n t e R).map λc=>(hm n t e R (tb t a c),R.idxOf (ov n t e R (tb t a c)))
def dy(n:Nat)(t:AC)(e:Nat)(R M:AT):List (Z3):=(RS n).map λa=>(aV n t e R).map λc=>(hm n t e R (tb t a c),M.getD (R.idxOf (ov n t e R (tb t a c))) 0)
theorem ES(g:GT n t e)(hx:x<n)(hy:y<n)(h:tb t x y=e):ay n t e x=y:=by
 refine g.cK hx (g.aO hx) hy ?_;rw[g.ef hx,h]
theorem DN(g:GT n t e)(hx:x<n)(hy:y<n):ay n t e (tb t x y)=tb t (ay n t e y) (ay n t e x):=by
 have bx:=g.aO hx;have b2:=g.aO hy;refine ES g (g.lt x y hx hy) (g.lt _ _ b2 bx) ?_;rw[g.assoc x y _ hx hy (g.lt _ _ b2 bx),<- g.assoc y _ _ hy b2 bx,g.ef hy,g.unl _ bx,g.ef hx]
theorem gh(g:GT n t e)(ha:a<n)(hb:b<n)(hc:c<n):aQ n t e (aQ n t e a b) c=aQ n t e a (tb t c b):=by
 have bb:=g.aO hb;have bc:=g.aO hc;have ba:=g.lt b a hb ha;unfold aQ;rw[DN g hc hb,<- g.assoc c (tb t b a) _ hc ba bb,<- g.assoc c b a hc hb ha,g.assoc (tb t (tb t c b) a) _ _ (g.lt _ _ (g.lt c b hc hb) ha) bb bc]
theorem B3(g:GT n t e)(ha:a<n):aQ n t e a e=a:=by
 unfold aQ;rw[ES g g.elt g.elt (g.unl e g.elt),g.unl a ha,g.unr a ha]
def cls(n:Nat)(t:AC)(e a:Nat):AT:=(RS n).filter λc=>decide (c∈(RS n).map (aQ n t e a))
theorem iJ(g:GT n t e)(ha:a<n):c∈cls n t e a↔∃b,b<n/\aQ n t e a b=c:=by
 unfold cls;rw[Sx,decide_eq_true_iff,R9];constructor
 .rintro⟨_,b,hb,h⟩;exact⟨b,RU.mp hb,h⟩
 .rintro⟨b,hb,rfl⟩;exact⟨RU.mpr (DM g ha hb),b,RU.mpr hb,rfl⟩
theorem iE :(cls n t e a).Pairwise (· < ·):=Uv _ TM
theorem lV(h:c∈cls n t e a):c<n:=RU.mp (Sx.mp h).1
theorem Be(g:GT n t e)(ha:a<n):a∈cls n t e a:=(iJ g ha).mpr ⟨e,g.elt,B3 g ha⟩
theorem sC(g:GT n t e)(ha:a<n)(h:c∈cls n t e a):a∈cls n t e c:=by
 have hc:=lV h;obtain⟨b,hb,rfl⟩:=(iJ g ha).mp h;refine(iJ g hc).mpr ⟨ay n t e b,g.aO hb,?_⟩;rw[gh g ha hb (g.aO hb),g.fS hb,B3 g ha]
theorem mV(g:GT n t e){d:Nat}(ha:a<n)(h:c∈cls n t e a)(h':d∈cls n t e c):d∈cls n t e a:=by
 have hc:=lV h;obtain⟨b',A',rfl⟩:=(iJ g hc).mp h';obtain⟨b,hb,rfl⟩:=(iJ g ha).mp h;exact(iJ g ha).mpr ⟨tb t b' b,g.lt _ _ A' hb,(gh g ha hb A').symm⟩
theorem OC(g:GT n t e)(ha:a<n)(h:c∈cls n t e a):cls n t e c=cls n t e a :=
 eF iE iE λ_=>⟨λz=>mV g ha h z,λz=>mV g (lV h) (sC g ha h) z⟩
def Fb(n:Nat)(t:AC)(e x:Nat):Bool:=decide (∀y,y<x->x∉cls n t e y)
def dW(n:Nat)(t:AC)(e i:Nat):AT:=(RS i).filter (Fb n t e)
def cC(n:Nat)(t:AC)(e i:Nat):AC:=(dW n t e i).map (cls n t e)
theorem ft :x∈dW n t e i↔x<i/\∀y,y<x->x∉cls n t e y:=by
 unfold dW Fb;rw[Sx,RU,decide_eq_true_iff]
theorem En :(dW n t e i).Pairwise (· < ·):=Uv _ TM
theorem C5(i:Nat):dW n t e (i+1)=if (∀y,y<i->i∉cls n t e y) then dW n t e i++[i] else dW n t e i:=by
 unfold dW;rw[Vs,VE]
 by_cases c:∀y,y<i->i∉cls n t e y
 .rw[if_pos c];have:Fb n t e i=true:=decide_eq_true c;simp[this]
 .rw[if_neg c];have:Fb n t e i=false:=decide_eq_false c;simp[this]
theorem NQ(g:GT n t e):∀ (y:Nat),y<n->∃z,z<=y/\(∀w,w<z->z∉cls n t e w)/\cls n t e z=cls n t e y:=λy=>by
 induction y using Nat.strongRecOn with
 | ind y ih =>
  intro hy
  by_cases c:∀w,w<y->y∉cls n t e w
  .exact⟨y,R6 _,c,rfl⟩
  .obtain⟨w,hw,h⟩:∃w,w<y/\y∈cls n t e w:=by
    apply S0;intro z;exact c λw hw h=>z ⟨w,hw,h⟩
   have hwn:w<n:=by lia
   obtain⟨z,h1,h2,h3⟩:=ih w hw hwn;exact⟨z,by lia,h2,h3.trans (OC g hwn h).symm⟩
theorem Bl(g:GT n t e)(hi:i<=n):x∈(cC n t e i).flatten↔∃y,y<i/\x∈cls n t e y:=by
 rw[Uz];constructor
 .rintro⟨l,hl,hx⟩;obtain⟨y,hy,rfl⟩:=R9.mp hl;exact⟨y,(ft.mp hy).1,hx⟩
 .rintro⟨y,hy,hx⟩;obtain⟨z,h1,h2,h3⟩:=NQ g y (by lia)
  exact⟨_,R9.mpr ⟨z,ft.mpr ⟨by lia,h2⟩,rfl⟩,by rw[h3];exact hx⟩
theorem II(g:GT n t e)(hx:x<n)(h:∀y,y<x->x∉cls n t e y):(cls n t e x)[0]?=some x:=by
 have hs:=iE (n:=n) (t:=t) (e:=e) (a:=x);have hm:=Be g hx;have hle:∀c∈cls n t e x,x<=c:=λc hc=>by
  rcases Sb c x with z|z
  .exact absurd (sC g hx hc) (h c z)
  .exact z
 cases q:cls n t e x with
 | nil=>rw[q]at hm;cases hm
 | cons c l =>
  rw[q]at hs hm hle;rw[Ug]at hs;rcases Sf.mp hm with z|z
  .rw[z];rfl
  .have a1:=hs.1 x z;have a2:=hle c R4;lia
theorem Lw(g:GT n t e):(cC n t e n).flatten.Perm (RS n):=by
 refine(U1 ?_ T6).mpr λx=>?_
 .unfold cC Zl;rw[YJ];refine⟨λl hl=>?_,?_⟩
  .obtain⟨y,_,rfl⟩:=R9.mp hl;exact iE.imp λz=>Sa z
  .rw[Vi];refine XW ?_ En;intro a b ha hb ab x hx y hy q;subst q;have hbn:=(ft.mp hb).1;have han:=(ft.mp ha).1;exact(ft.mp hb).2 a ab (mV g han hx (sC g hbn hy))
 .rw[Bl g (R6 _),RU];exact⟨λ⟨y,_,h⟩=>lV h,λh=>⟨x,h,Be g h⟩⟩
def Meta(n:Nat)(t:AC):Prop:=∃ (s:Nat) (φ:Nat->Nat),0<s/\(∀x y,x<n->y<n->φ (tb t x y)=(φ x+φ y) % s)/\(∀x,x<n->φ x<s)/\∀x y,x<n->y<n->φ x=0->φ y=0->tb t x y=tb t y x
theorem Iw(T:Tn m ad f s e):Meta (m * s) (mkT (m * s) (cyc m ad f s e)):=by
 have m0:=T.pos;have dv:∀x,x<m * s->x / m<s:=λx hx=>Tz hx;refine⟨s,λx=>x / m,T.iu,λx y hx hy=>?_,λx hx=>dv x hx,λx y hx hy h1 h2=>?_⟩
 .rw[vp hx hy];have x1:=Sy x m0;have y1:=Sy y m0;have h:=f7 T x1 y1 (dv x hx) (dv y hy);rw[<- dm,<- dm]at h;show cyc m ad f s e x y / m=_;rw[h,Ue _ _ m0,T8 (T.lt _ _ (T.lt _ _ x1 (eX T _ y1)) (dS T _)),To]
 .rw[vp hx hy,vp hy hx];have small:∀x,x / m=0->x<m:=λx h=>by
   have:=Sy x m0;have e1:x=x % m+m * (x / m):=dm m x;rw[h]at e1;lia
  have x1:=small x h1;have y1:=small y h2;have s0:=T.iu;have a1:=f7 T x1 y1 s0 s0;have a2:=f7 T y1 x1 s0 s0;simp only[U8,Uh,Xq,U9]at a1 a2;rw[a1,a2];show ad (ad x y) 0=ad (ad y x) 0;rw[T.comm x y x1 y1]
theorem Meta.ren{R:AC}(h:Ren n π R rows n 0)(hp:π.Perm (RS n))(g:GT n R e)(M:Meta n R):Meta n rows:=by
 obtain⟨s,φ,s0,h1,h2,h3⟩:=M;have nd:π.Nodup:=hp.nodup_iff.mpr T6;have pl:π.length=n:=by rw[hp.length_eq,Sv]
 have inv:∀y,y<n->π.idxOf y<n/\π.getD (π.idxOf y) 0=y:=λy hy=>by
  have hm:y∈π:=hp.mem_iff.mpr (RU.mpr hy);have hl:=SY hm;refine⟨by lia,?_⟩
  rw[RT,RL hl,VD];rfl
 have idx:∀a,a<n->π.idxOf (π.getD a 0)=a:=λa ha=>by
  have hl:a<π.length:=by lia
  rw[RT,RL hl];exact nd.idxOf_getElem a hl
 have mul:∀x y,x<n->y<n->tb rows x y=π.getD (tb R (π.idxOf x) (π.idxOf y)) 0:=λx y hx hy=>by
  obtain⟨x1,x2⟩:=inv x hx;obtain⟨y1,y2⟩:=inv y hy;have:=h.at_ _ _ x1 y1 (.inl x1);rw[x2,y2]at this;l_out
 refine⟨s,λx=>φ (π.idxOf x),s0,λx y hx hy=>?_,λx hx=>h2 _ (inv x hx).1,λx y hx hy a b=>?_⟩
 .obtain⟨x1,x2⟩:=inv x hx;obtain⟨y1,y2⟩:=inv y hy;show φ (π.idxOf (tb rows x y))=_;rw[mul x y hx hy,idx _ (g.lt _ _ x1 y1)];exact h1 _ _ x1 y1
 .rw[mul x y hx hy,mul y x hy hx,h3 _ _ (inv x hx).1 (inv y hy).1 a b]
theorem Meta.mixed(M:Meta n t)(g:GT n t e)(G:Gen n t e (fq n t e (RS n)) P):∀x∈P,∀y∈P,tb t x y=tb t y x:=by
 obtain⟨s,φ,s0,h1,h2,h3⟩:=M;have e0:φ e=0:=by
  have a:=h1 e e g.elt g.elt;rw[g.unl e g.elt]at a;have b:=h2 e g.elt;rcases Sb (φ e+φ e) s with z|z
  .rw[Ss z]at a;lia
  .rw[Xp z,Ss (by lia)]at a;lia
 have bk0:∀a,a<n->(φ a+φ (ay n t e a)) % s=0:=λa ha=>by
  have:=h1 a _ ha (g.aO ha);rw[g.ef ha,e0]at this;exact this.symm
 have ker:∀x∈P,φ x=0:=by
  have key:∀x∈P,x<n/\φ x=0:=by
   have h:=G.least (R:=(RS n).filter λx=>decide (φ x=0)) (Sx.mpr ⟨RU.mpr g.elt,decide_eq_true e0⟩) λx hx c hc=>?_
   .intro x hx;obtain⟨a,b⟩:=Sx.mp (h x hx);exact⟨RU.mp a,of_decide_eq_true b⟩
   .obtain⟨a,ha,b,hb,rfl⟩:=iz.mp hc;have R!:=RU.mp ha;have A':=RU.mp hb;obtain⟨x1,x2⟩:=Sx.mp hx;have xn:=RU.mp x1;have x0:=of_decide_eq_true x2;have ab:=g.lt a b R! A';have aba:=g.lt _ _ ab (g.aO R!);have cn:=g.lt _ _ aba (g.aO A');refine Sx.mpr ⟨RU.mpr (g.lt _ _ xn cn),decide_eq_true ?_⟩;rw[h1 _ _ xn cn,x0,h1 _ _ aba (g.aO A'),h1 _ _ ab (g.aO R!),h1 _ _ R! A',To,Nat.mod_mod,Tp];have e1:(φ a+φ b) % s+φ (ay n t e a)+φ (ay n t e b)=(φ a+φ b) % s+(φ (ay n t e a)+φ (ay n t e b)):=by lia
    have q1:=bk0 a R!;have q2:=bk0 b A';rw[e1,Tp];have e2:φ a+φ b+(φ (ay n t e a)+φ (ay n t e b))=(φ a+φ (ay n t e a))+(φ b+φ (ay n t e b)):=by lia
    rw[e2,Xd,q1,q2];simp
  exact λx hx=>(key x hx).2
 exact λx hx y hy=>h3 x y (G.lt x hx) (G.lt y hy) (ker x hx) (ker y hy)
theorem JD(g:GT n t e)(G:Gen n t e S P)(hS:∀s∈S,s<n)(h:∀x∈S,∀y∈S,tb t x y=tb t y x):∀x∈P,∀y∈P,tb t x y=tb t y x:=by
 have step:∀s∈S,∀x∈P,tb t x s=tb t s x:=λs hs=>by
  have sn:=hS s hs;have hh:=G.least (R:=(RS n).filter λx=>decide (tb t x s=tb t s x)) (Sx.mpr ⟨RU.mpr g.elt,decide_eq_true (by rw[g.unl s sn,g.unr s sn])⟩) λx hx c hc=>?_
  .intro x hx;exact of_decide_eq_true (Sx.mp (hh x hx)).2
  .obtain⟨x1,x2⟩:=Sx.mp hx;have xn:=RU.mp x1;have x0:=of_decide_eq_true x2;have cn:=hS c hc;refine Sx.mpr ⟨RU.mpr (g.lt _ _ xn cn),decide_eq_true ?_⟩;rw[g.assoc x c s xn cn sn,h c hc s hs,<- g.assoc x s c xn sn cn,x0,g.assoc s x c sn xn cn]
 intro x hx y hy;have xn:=G.lt x hx;have hh:=G.least (R:=(RS n).filter λy=>decide (tb t x y=tb t y x)) (Sx.mpr ⟨RU.mpr g.elt,decide_eq_true (by rw[g.unl x xn,g.unr x xn])⟩) λz hz c hc=>?_
 .exact of_decide_eq_true (Sx.mp (hh y hy)).2
 .obtain⟨z1,z2⟩:=Sx.mp hz;have zn:=RU.mp z1;have z0:=of_decide_eq_true z2;have cn:=hS c hc;refine Sx.mpr ⟨RU.mpr (g.lt _ _ zn cn),decide_eq_true ?_⟩;rw[<- g.assoc x z c xn zn cn,z0,g.assoc z x c zn xn cn,step c hc x hx,<- g.assoc z c x zn cn xn]
section
variable {H:AT}
structure dF(n:Nat)(t:AC)(e:Nat)(H:AT):Prop where
 pt:IsPart n t H
 cm:∀x∈H,∀y∈H,tb t x y=tb t y x
 st:∀b,b<n->∀h∈H,aQ n t e h b∈H
 gr:∀x,x<n->(∀h∈H,tb t x h=tb t h x)->x∈H
def Led(n:Nat)(t:AC)(e:Nat)(H:AT):Prop:=∃x,x<n/\∀P,Gen n t e (H++[x]) P->P.length=n
theorem v5(g:GT n t e)(p:IsPart n t H)(pp:IsPart n t P)(sub:∀x∈H,x∈P):H.length ∣ P.length :=
 pZ g (aA p.srt) p.lt (p.un g) p.cl (λh hh=>p.bk g hh) P.length P (R6 _) (aA pp.srt) pp.lt λx hx h hh=>pp.cl x hx h (sub h hh)
theorem uo(g:GT n t e)(p:IsPart n t H):H.length ∣ n:=by
 have:=pZ g (aA p.srt) p.lt (p.un g) p.cl (λh hh=>p.bk g hh) n (RS n) (by simp) T6 (λx hx=>RU.mp hx) λx hx h hh=>RU.mpr (g.lt x h (RU.mp hx) (p.lt h hh))
 rwa[Sv]at this
theorem DO(g:GT n t e)(G:Gen n t e S P)(hs:s∈S)(hn:s<n):s∈P:=G.has g hs hn
theorem BS(hs:P.Pairwise (· < ·))(h:∀x,x∈P↔x<n):P.length=n:=by
 have:P=RS n:=eF hs TM λx=>by rw[h x,RU]
 rw[this,Sv]
theorem dF.out(h:dF n t e H)(hl:H.length<n):∃x,x<n/\x∉H:=by
 apply S0;intro z;have:=sub_len T6 (l1:=RS n) (l2:=H) λx hx=>S0 λq=>z ⟨x,RU.mp hx,q⟩;rw[Sv]at this;lia
theorem dF.sp(h:dF n t e H)(g:GT n t e)(hx:x<n)(G:Gen n t e (H++[x]) P):IsPart n t P/\(∀y∈H,y∈P)/\x∈P:=by
 have hS:∀s∈H++[x],s<n:=λs hs=>by
  rcases R5.mp hs with z|z
  .exact h.pt.lt s z
  .rw[RX.mp z];exact hx
 exact⟨G.part g hS,λy hy=>DO g G (Tx _ hy) (h.pt.lt y hy),DO g G (SJ _ (RX.mpr rfl)) hx⟩
theorem oh(h:dF n t e H)(g:GT n t e)(two:∀x y,x<n->y<n->x∉H->y∉H->tb t x y∈H):Led n t e H:=by
 by_cases c:∃x,x<n/\x∉H
 .obtain⟨x,hx,u!⟩:=c;walk_at "129";refine BS pp.srt λy=>⟨λhy=>pp.lt y hy,λhy=>?_⟩
  by_cases d:y∈H
  .exact sub y d
  .have e1:y=tb t (ay n t e x) (tb t x y):=by rw[<- g.assoc _ _ _ (g.aO hx) hx hy,g.fS hx,g.unl y hy]
   rw[e1];exact pp.cl _ (pp.bk g xP) _ (sub _ (two x y hx hy u! d))
 .refine⟨e,g.elt,λP G=>?_⟩;obtain⟨pp,sub,_⟩:=h.sp g g.elt G;exact BS pp.srt λy=>⟨λhy=>pp.lt y hy,λhy=>sub y (S0 λq=>c ⟨y,hy,q⟩)⟩
theorem rT(h:dF n t e H)(g:GT n t e)(hm:n=H.length * m)(pm:m=1\/m=2\/m=3\/m=5):Led n t e H:=by
 have a0:0<H.length:=Sr.mpr h.pt.ne;rcases Sb H.length n with c|c
 .obtain⟨x,hx,u!⟩:=h.out c;walk_at "129";obtain⟨j,hj⟩:=v5 g h.pt pp sub;obtain⟨i,hi⟩:=uo g pp;have gt1:H.length<P.length:=by
   have:=sub_len (l1:=x :: H) (l2:=P) (SS.mpr ⟨u!,aA h.pt.srt⟩) λy hy=>by
    rcases Sf.mp hy with rfl|hy
    .exact xP
    .exact sub y hy
   rw[SU]at this;lia
  have j2:2<=j:=by
   rcases Sb j 2 with z|z
   .have:H.length * j<=H.length * 1:=Te _ (by lia)
    lia
   .exact z
  have ji:m=j * i:=by
   rw[hj,Vw]at hi;rw[hi]at hm;exact(UH a0 hm).symm
  have i1:i=1:=by
   have i0:0<i:=by
    rcases Tc i with z|z
    .subst z;lia
    .exact z
   rcases Sb i 2 with z|z
   .lia
   .have:2 * 2<=j * i:=Vz j2 z;have m5:m=5:=by lia
    have jl:j<=2:=by
     rcases Sb 2 j with w|w
     .have:3 * 2<=j * i:=Vz w z;lia
     .exact w
    have:j=2:=by lia
    subst this;lia
  subst i1;lia
 .refine⟨e,g.elt,λP G=>?_⟩;obtain⟨pp,sub,_⟩:=h.sp g g.elt G;have:=sub_len (aA h.pt.srt) sub;have:=pp.len;lia
theorem Gj(h:dF n t e H)(g:GT n t e)(hm:n=H.length * 4)(hx:x<n)(hs:tb t x x∉H):Led n t e H:=by
 have a0:0<H.length:=Sr.mpr h.pt.ne;have u!:x∉H:=λz=>hs (h.pt.cl x z x z);walk_at "129";obtain⟨j,hj⟩:=v5 g h.pt pp sub;obtain⟨i,hi⟩:=uo g pp;have nd:(H++H.map (tb t x)).Nodup:=by
  refine Vh.mpr ⟨aA h.pt.srt,fh (aA h.pt.srt) λa ha b hb q=>g.cK hx (h.pt.lt a ha) (h.pt.lt b hb) q,λa ha b hb q=>?_⟩;obtain⟨k,hk,rfl⟩:=R9.mp hb;refine u! ?_;have kn:=h.pt.lt k hk;have e1:x=tb t (tb t x k) (ay n t e k):=by rw[g.assoc x k _ hx kn (g.aO kn),g.ef kn,g.unr x hx]
  rw[e1,<- q];exact h.pt.cl _ ha _ (h.pt.bk g hk)
 have sb:∀y∈H++H.map (tb t x),y∈P:=λy hy=>by
  rcases R5.mp hy with z|z
  .exact sub y z
  .obtain⟨k,hk,rfl⟩:=R9.mp z;exact pp.cl _ xP _ (sub k hk)
 have xx:tb t x x∉H++H.map (tb t x):=λhy=>by
  rcases R5.mp hy with z|z
  .exact hs z
  .obtain⟨k,hk,q⟩:=R9.mp z;have:=g.cK hx (h.pt.lt k hk) hx q;exact u! (this ▸ hk)
 have big:H.length+H.length+1<=P.length:=by
  have:=sub_len (l1:=tb t x x :: (H++H.map (tb t x))) (l2:=P) (SS.mpr ⟨xx,nd⟩) λy hy=>by
   rcases Sf.mp hy with rfl|hy
   .exact pp.cl _ xP _ xP
   .exact sb y hy
  rw[SU,R8,RP]at this;l_out
 have j3:3<=j:=by
  rcases Sb j 3 with z|z
  .have:H.length * j<=H.length * 2:=Te _ (by lia)
   lia
  .exact z
 have ji:4=j * i:=by
  rw[hj,Vw]at hi;rw[hi]at hm;exact(UH a0 hm).symm
 have i1:i=1:=by
  rcases Sb i 2 with z|z
  .rcases Tc i with w|w
   .subst w;lia
   .lia
  .have:3 * 2<=j * i:=Vz j3 z;lia
 subst i1;lia
def cen(t:AC)(H:AT)(x:Nat):AT:=H.filter λh=>decide (tb t x h=tb t h x)
theorem fR :h∈cen t H x↔h∈H/\tb t x h=tb t h x:=by
 unfold cen;rw[Sx,decide_eq_true_iff]
theorem dF.cen(h:dF n t e H)(g:GT n t e){x:Nat}(hx:x<n):IsPart n t (cen t H x):=by
 refine⟨Uv _ h.pt.srt,λy hy=>h.pt.lt y (fR.mp hy).1,UN (fR.mpr ⟨h.pt.un g,by rw[g.unl x hx,g.unr x hx]⟩),λy hy z hz=>?_⟩
 obtain⟨y1,y2⟩:=fR.mp hy;obtain⟨z1,z2⟩:=fR.mp hz;have yn:=h.pt.lt y y1;have zn:=h.pt.lt z z1;refine fR.mpr ⟨h.pt.cl y y1 z z1,?_⟩;rw[<- g.assoc x y z hx yn zn,y2,g.assoc y x z yn hx zn,z2,<- g.assoc y z x yn zn hx]
theorem dF.cdiv(h:dF n t e H)(g:GT n t e)(hx:x<n):(TB.cen t H x).length ∣ H.length:=v5 g (h.cen g hx) h.pt λy hy=>(fR.mp hy).1
theorem dF.call(h:dF n t e H)(g:GT n t e)(hx:x<n)(hl:H.length<=(TB.cen t H x).length):x∈H:=by
 refine h.gr x hx λy hy=>?_;apply S0;intro z;have nc:y∉TB.cen t H x:=λw=>z (fR.mp w).2;have:=sub_len (l1:=y :: TB.cen t H x) (l2:=H) (SS.mpr ⟨nc,aA (h.cen g hx).srt⟩) λw hw=>by
  rcases Sf.mp hw with rfl|hw
  .exact hy
  .exact(fR.mp hw).1
 rw[SU]at this;lia
theorem pb(g:GT n t e)(hx:x<n)(hy:y<n):aQ n t e y x=y↔tb t x y=tb t y x:=by
 have bx:=g.aO hx;have xy:=g.lt x y hx hy;unfold aQ;constructor
 .intro q;have e1:tb t (tb t (tb t x y) (ay n t e x)) x=tb t x y:=by rw[g.assoc _ _ _ xy bx hx,g.fS hx,g.unr _ xy]
  rw[q]at e1;exact e1.symm
 .intro q;rw[q,g.assoc y x _ hy hx bx,g.ef hx,g.unr y hy]
theorem Kb(g:GT n t e)(hx:x<n)(hy:y<n)(q:aQ n t e y x=e):y=e:=by
 have bx:=g.aO hx;have xy:=g.lt x y hx hy;have e1:tb t (tb t (tb t x y) (ay n t e x)) x=tb t x y:=by rw[g.assoc _ _ _ xy bx hx,g.fS hx,g.unr _ xy]
 have q':tb t (tb t x y) (ay n t e x)=e:=q;rw[q',g.unl x hx]at e1;refine g.cK hx hy g.elt ?_;rw[<- e1,g.unr x hx]
theorem B4(g:GT n t e){z:Nat}(hx:x<n)(hy:y<n)(hz:z<n)(q:aQ n t e y x=aQ n t e z x):y=z:=by
 have bx:=g.aO hx;exact g.cK hx hy hz (g.pG bx (g.lt x y hx hy) (g.lt x z hx hz) q)
theorem JL(g:GT n t e){z:Nat}(hx:x<n)(hy:y<n)(hz:z<n):aQ n t e (tb t y z) x=tb t (aQ n t e y x) (aQ n t e z x):=by
 have bx:=g.aO hx;have xy:=g.lt x y hx hy;have xz:=g.lt x z hx hz;have b2:=g.lt _ _ xz bx;unfold aQ;rw[g.assoc (tb t x y) _ _ xy bx b2,<- g.assoc (ay n t e x) _ _ bx xz bx,<- g.assoc (ay n t e x) x z bx hx hz,g.fS hx,g.unl z hz,<- g.assoc x y z hx hy hz,g.assoc (tb t x y) z _ xy hz bx]
theorem dF.Ru(h:dF n t e H)(g:GT n t e):∃N:AT,N.Nodup/\N.length+1=H.length/\(∀x,x∈N↔x∈H/\x≠e):=by
 refine⟨H.erase e,(aA h.pt.srt).erase _,?_,λx=>?_⟩
 .have a0:0<H.length:=Sr.mpr h.pt.ne;rw[XT (h.pt.un g)];lia
 .rw[(aA h.pt.srt).mem_erase_iff];exact And.comm
theorem dF.con(h:dF n t e H)(g:GT n t e){N:AT}(hN:∀x,x∈N↔x∈H/\x≠e)(hx:x<n)(hy:y∈N):aQ n t e y x∈N:=by
 obtain⟨y1,y2⟩:=(hN y).mp hy;exact(hN _).mpr ⟨h.st x hx y y1,λq=>y2 (Kb g hx (h.pt.lt y y1) q)⟩
theorem dF.led(h:dF n t e H)(g:GT n t e):Led n t e H:=by
 have b!:=g.le;have a0:0<H.length:=Sr.mpr h.pt.ne;obtain⟨m,hm⟩:=uo g h.pt;obtain⟨N,nd,Nl,hN⟩:=h.Ru g;have Nn:∀y∈N,y<n:=λy hy=>h.pt.lt y ((hN y).mp hy).1;have NH:∀y∈N,y∈H:=λy hy=>((hN y).mp hy).1;have o!:∀x,x<n->(∀y∈N,aQ n t e y x=y)->x∈H:=λx hx q=>h.gr x hx λy hy=>by
  by_cases c:y=e
  .rw[c,g.unl x hx,g.unr x hx]
  .have yN:=(hN y).mpr ⟨hy,c⟩;exact(pb g hx (Nn y yN)).mp (q y yN)
 have sqf:∀x,x<n->tb t x x∈H->∀y∈H,aQ n t e (aQ n t e y x) x=y:=λx hx q y hy=>by
  rw[gh g (h.pt.lt y hy) hx hx];exact(pb g (g.lt x x hx hx) (h.pt.lt y hy)).mpr (h.cm _ q _ hy)
 have one:∀x,x<n->x∉H->(TB.cen t H x).length≠H.length:=λx hx u! q=>u! (h.call g hx (by lia))
 have d5:∀x,x<n->0<(TB.cen t H x).length:=λx hx=>Sr.mpr (h.cen g hx).ne;rcases Sb H.length 6 with c6|c6
 .have:H.length=1\/H.length=2\/H.length=3\/H.length=4\/H.length=5:=by lia
  rcases this with c|c|c|c|c
  .-- one thing
   have N0:N=[]:=Ud.mp (by lia)
   refine oh h g λx y hx hy u! _=>absurd (o! x hx λz hz=>by rw[N0]at hz;cases hz) u!
  .-- two
   match N,Nl,hN,nd,Nn,o! with
   | [a],_,hN,nd,Nn,o! =>
    refine oh h g λx y hx hy u! _=>absurd (o! x hx λz hz=>?_) u!;have:=h.con g hN hx hz;rw[RX.mp hz]at this ⊢;exact RX.mp this
   | [],Nl,_,_,_,_=>simp at Nl;lia
   | _ :: _ :: _,Nl,_,_,_,_=>simp at Nl;lia
  .-- three
   match N,Nl,hN,nd,Nn,o! with
   | [a,b],_,hN,nd,Nn,o! =>
    have ab:a≠b:=λq=>by rw[q]at nd;simp at nd
    have aN:a∈[a,b]:=by simp
    have bN:b∈[a,b]:=by simp
    have an:=Nn a aN;have bn:=Nn b bN;have sw:∀x,x<n->x∉H->aQ n t e a x=b/\aQ n t e b x=a:=λx hx u!=>by
     have c1:=h.con g hN hx aN;have c2:=h.con g hN hx bN;simp only[Sf,T7,or_false]at c1 c2;have i1:aQ n t e a x≠aQ n t e b x:=λq=>ab (B4 g hx an bn q);rcases c1 with c1|c1
     .refine absurd (o! x hx λz hz=>?_) u!;simp only[Sf,T7,or_false]at hz;rcases hz with rfl|rfl
      .exact c1
      .rcases c2 with c2|c2
       .exact absurd (c1.trans c2.symm) i1
       .exact c2
     .refine⟨c1,?_⟩;rcases c2 with c2|c2
      .exact c2
      .exact absurd (c1.trans c2.symm) i1
    refine oh h g λx y hx hy u! hyH=>o! _ (g.lt x y hx hy) λz hz=>?_;simp only[Sf,T7,or_false]at hz;rcases hz with rfl|rfl
    .rw[<- gh g an hy hx,(sw y hy hyH).1,(sw x hx u!).2]
    .rw[<- gh g bn hy hx,(sw y hy hyH).2,(sw x hx u!).1]
   | [],Nl,_,_,_,_=>simp at Nl;lia
   | [_],Nl,_,_,_,_=>simp at Nl;lia
   | _ :: _ :: _ :: _,Nl,_,_,_,_=>simp at Nl;lia
  .-- four
   have m5:m<=5:=by
    rcases Sb 5 m with z|z
    .have:4 * 6<=H.length * m:=Vz (by lia) z
     lia
    .exact z
   have m0:0<m:=by
    rcases Tc m with z|z
    .subst z;have:=g.pos;lia
    .exact z
   by_cases m4:m=4
   .subst m4
    by_cases q:∃x,x<n/\tb t x x∉H
    .obtain⟨x,hx,hs⟩:=q;exact Gj h g hm hx hs
    have sq:∀x,x<n->tb t x x∈H:=λx hx=>S0 λz=>q ⟨x,hx,z⟩
    match N,Nl,hN,nd,Nn,NH,o! with
    | [a,b,c'],_,hN,nd,Nn,NH,o! =>
     have ab:a≠b:=λq=>by rw[q]at nd;simp at nd
     have ac:a≠c':=λq=>by rw[q]at nd;simp at nd
     have bc:b≠c':=λq=>by rw[q]at nd;simp at nd
     have mem:∀z,z∈[a,b,c']↔z=a\/z=b\/z=c':=λz=>by simp
     have inj:∀x,x<n->∀y∈[a,b,c'],∀z∈[a,b,c'],aQ n t e y x=aQ n t e z x->y=z:=λx hx y hy z hz q=>B4 g hx (Nn y hy) (Nn z hz) q;have aN:=(mem a).mpr (.inl rfl);have bN:=(mem b).mpr (.inr (.inl rfl));have cN:=(mem c').mpr (.inr (.inr rfl));have kinds:∀x,x<n->x∉H->∃p q r,p∈[a,b,c']/\q∈[a,b,c']/\r∈[a,b,c']/\p≠q/\p≠r/\q≠r/\(∀z∈[a,b,c'],z=p\/z=q\/z=r)/\aQ n t e p x=p/\aQ n t e q x=r/\aQ n t e r x=q:=λx hx u!=>by
      have f1:=(mem _).mp (h.con g hN hx aN);have f2:=(mem _).mp (h.con g hN hx bN);have f3:=(mem _).mp (h.con g hN hx cN);have i1:=λq=>ab (inj x hx a aN b bN q);have i2:=λq=>ac (inj x hx a aN c' cN q);have i3:=λq=>bc (inj x hx b bN c' cN q);have s1:=sqf x hx (sq x hx) a (NH a aN);have s2:=sqf x hx (sq x hx) b (NH b bN);have s3:=sqf x hx (sq x hx) c' (NH c' cN);rcases f1 with f1|f1|f1
      .rcases f2 with f2|f2|f2
       .exact absurd (f1.trans f2.symm) i1
       .have f3':aQ n t e c' x=c':=by
         rcases f3 with f3|f3|f3
         .exact absurd (f1.trans f3.symm) i2
         .exact absurd (f2.trans f3.symm) i3
         .exact f3
        refine absurd (o! x hx λz hz=>?_) u!;rcases(mem z).mp hz with rfl|rfl|rfl
        .exact f1
        .exact f2
        .exact f3'
       .refine⟨a,b,c',aN,bN,cN,ab,ac,bc,λz hz=>(mem z).mp hz,f1,f2,?_⟩;rw[f2]at s2;exact s2
      .rw[f1]at s1;refine⟨c',a,b,cN,aN,bN,UA ac,UA bc,ab,λz hz=>?_,?_,f1,s1⟩
       .rcases(mem z).mp hz with z|z|z
        .exact .inr (.inl z)
        .exact .inr (.inr z)
        .exact .inl z
       .rcases f3 with f3|f3|f3
        .exact absurd (s1.trans f3.symm) i3
        .exact absurd (f1.trans f3.symm) i2
        .exact f3
      .rw[f1]at s1;refine⟨b,a,c',bN,aN,cN,UA ab,bc,ac,λz hz=>?_,?_,f1,s1⟩
       .rcases(mem z).mp hz with z|z|z
        .exact .inr (.inl z)
        .exact .inl z
        .exact .inr (.inr z)
       .rcases f2 with f2|f2|f2
        .exact absurd (s1.trans f2.symm) (UA i3)
        .exact f2
        .exact absurd (f1.trans f2.symm) i1
     refine oh h g λx y hx hy u! hyH=>?_;obtain⟨p,q',r,pN,qN,rN,pq,pr,qr,all,e1,e2,e3⟩:=kinds x hx u!;have xy:=g.lt x y hx hy;have cc:∀z∈[a,b,c'],aQ n t e z (tb t x y)=aQ n t e (aQ n t e z y) x:=λz hz=>(gh g (Nn z hz) hy hx).symm;have ss:=sqf _ xy (sq _ xy) p (NH p pN);have ti:=inj y hy;have tp:=all _ (h.con g hN hy pN);have tq:=all _ (h.con g hN hy qN);have tr:=all _ (h.con g hN hy rN);have s1:=sqf y hy (sq y hy) p (NH p pN);have s2:=sqf y hy (sq y hy) q' (NH q' qN);rcases tp with tp|tp|tp
     .have tq':aQ n t e q' y=r:=by
       rcases tq with tq|tq|tq
       .exact absurd (ti p pN q' qN (tp.trans tq.symm)) pq
       .have tr':aQ n t e r y=r:=by
         rcases tr with tr|tr|tr
         .exact absurd (ti p pN r rN (tp.trans tr.symm)) pr
         .exact absurd (ti q' qN r rN (tq.trans tr.symm)) qr
         .exact tr
        refine absurd (o! y hy λz hz=>?_) hyH;rcases all z hz with rfl|rfl|rfl
        .exact tp
        .exact tq
        .exact tr'
       .exact tq
      rw[tq']at s2;refine o! _ xy λz hz=>?_;rw[cc z hz];rcases all z hz with rfl|rfl|rfl
      .rw[tp,e1]
      .rw[tq',e3]
      .rw[s2,e2]
     .rw[tp]at s1;have tr':aQ n t e r y=r:=by
       rcases tr with tr|tr|tr
       .exact absurd (ti q' qN r rN (s1.trans tr.symm)) qr
       .exact absurd (ti p pN r rN (tp.trans tr.symm)) pr
       .exact tr
      rw[cc p pN,tp,e2,cc r rN,tr',e3]at ss;exact absurd ss.symm pq
     .rw[tp]at s1;have tq':aQ n t e q' y=q':=by
       rcases tq with tq|tq|tq
       .exact absurd (ti r rN q' qN (s1.trans tq.symm)) (UA qr)
       .exact tq
       .exact absurd (ti p pN q' qN (tp.trans tq.symm)) pq
      rw[cc p pN,tp,e3,cc q' qN,tq',e2]at ss;exact absurd ss.symm pr
    | [],Nl,_,_,_,_,_=>simp at Nl;lia
    | [_],Nl,_,_,_,_,_=>simp at Nl;lia
    | [_,_],Nl,_,_,_,_,_=>simp at Nl;lia
    | _ :: _ :: _ :: _ :: _,Nl,_,_,_,_,_=>simp at Nl;lia
   .exact rT h g hm (by lia)
  .-- five
   have m5:m<=4:=by
    rcases Sb 4 m with z|z
    .have:5 * 5<=H.length * m:=Vz (by lia) z
     lia
    .exact z
   have m0:0<m:=by
    rcases Tc m with z|z
    .subst z;have:=g.pos;lia
    .exact z
   by_cases m4:m=4
   .subst m4
    by_cases q:∃x,x<n/\tb t x x∉H
    .obtain⟨x,hx,hs⟩:=q;exact Gj h g hm hx hs
    have sq:∀x,x<n->tb t x x∈H:=λx hx=>S0 λz=>q ⟨x,hx,z⟩;have un:=h.pt.un g;have inv:∀x,x<n->x∉H->∀z∈H,tb t z (aQ n t e z x)=e:=λx hx u! z hz=>by
     have zn:=h.pt.lt z hz;have zc:=h.st x hx z hz;have zcn:=h.pt.lt _ zc;have u1:tb t z (aQ n t e z x)∈TB.cen t H x:=by
      refine fR.mpr ⟨h.pt.cl _ hz _ zc,(pb g hx (g.lt _ _ zn zcn)).mp ?_⟩;rw[JL g hx zn zcn,sqf x hx (sq x hx) z hz];exact h.cm _ zc _ hz
     have cd:=h.cdiv g hx;have c1:=one x hx u!;have c0:=d5 x hx;rw[c]at cd c1;have cl1:(TB.cen t H x).length=1:=by
      have:=Ze (by decide) cd
      obtain⟨k,hk⟩:=cd;generalize (TB.cen t H x).length=v at *;have:v=1\/v=2\/v=3\/v=4:=by lia
      rcases this with rfl|rfl|rfl|rfl
      .rfl
      .lia
      .lia
      .lia
     apply S0;intro ne;have:=sub_len (l1:=[tb t z (aQ n t e z x),e]) (l2:=TB.cen t H x) (by simp[ne]) λw hw=>by
      simp only[Sf,T7,or_false]at hw;rcases hw with rfl|rfl
      .exact u1
      .exact fR.mpr ⟨un,by rw[g.unl x hx,g.unr x hx]⟩
     rw[cl1]at this;simp at this
    refine oh h g λx y hx hy u! hyH=>h.gr _ (g.lt x y hx hy) λz hz=>(pb g (g.lt x y hx hy) (h.pt.lt z hz)).mp ?_;have zn:=h.pt.lt z hz;have zc:=h.st y hy z hz;have zcn:=h.pt.lt _ zc;rw[<- gh g zn hy hx];have i1:=inv y hy hyH z hz;have i2:=inv x hx u! _ zc;have dn:=h.pt.lt _ (h.st x hx _ zc);exact g.cK zcn dn zn (i2.trans (i1.symm.trans (h.cm _ hz _ zc)))
   .exact rT h g hm (by lia)
 .have m3:m<=3:=by
   rcases Sb 3 m with z|z
   .have:6 * 4<=H.length * m:=Vz c6 z;lia
   .exact z
  have m0:0<m:=by
   rcases Tc m with z|z
   .subst z;have:=g.pos;lia
   .exact z
  exact rT h g hm (by lia)
end
def Ce(n:Nat)(t:AC)(e:Nat):Nat->AT->Prop
 | 0,F=>Gen n t e (fq n t e (RS n)) F
 | i+1,F=>∃F',Ce n t e i F'/\(((∀b∈F',tb t i b=tb t b i)/\Gen n t e (F'++[i]) F)\/(¬ (∀b∈F',tb t i b=tb t b i)/\F=F'))
theorem Hv(g:GT n t e):∀s∈fq n t e (RS n),s<n:=λs hs=>by
 obtain⟨a,ha,b,hb,rfl⟩:=iz.mp hs;have R!:=RU.mp ha;have A':=RU.mp hb;exact g.lt _ _ (g.lt _ _ (g.lt _ _ R! A') (g.aO R!)) (g.aO A')
theorem w9(g:GT n t e)(M:Meta n t):∀ (i:Nat) (F:AT),i<=n->Ce n t e i F->IsPart n t F/\(∀x∈F,∀y∈F,tb t x y=tb t y x)/\(∀c∈fq n t e (RS n),c∈F)/\∀x,x<i->(∀b∈F,tb t x b=tb t b x)->x∈F
 | 0,F,_,G=>⟨Gen.part G g (Hv g),M.mixed g G,λc hc=>Gen.has G g hc (Hv g c hc),λx hx=>absurd hx (Vl _)⟩
 | i+1,F,hi,⟨F',h',alt⟩=>by
  obtain⟨p1,p2,p3,p4⟩:=w9 g M i F' (by lia) h'
  rcases alt with ⟨q,G⟩|⟨q,rfl⟩
  .have hS:∀s∈F'++[i],s<n:=λs hs=>by
    rcases R5.mp hs with z|z
    .exact p1.lt s z
    .rw[RX.mp z];lia
   have sub:∀y∈F',y∈F:=λy hy=>G.has g (Tx _ hy) (p1.lt y hy);have iF:i∈F:=G.has g (SJ _ (RX.mpr rfl)) (by lia)
   refine⟨G.part g hS,JD g G hS λx hx y hy=>?_,λc hc=>sub c (p3 c hc),λx hx hc=>?_⟩
   .rcases R5.mp hx with z|z <;> rcases R5.mp hy with w|w
    .exact p2 x z y w
    .rw[RX.mp w];exact(q x z).symm
    .rw[RX.mp z];exact q y w
    .rw[RX.mp z,RX.mp w]
   .rcases Sb x i with z|z
    .exact sub x (p4 x z λb hb=>hc b (sub b hb))
    .have:x=i:=by lia
     rw[this];exact iF
  .refine⟨p1,p2,p3,λx hx hc=>?_⟩;rcases Sb x i with z|z
   .exact p4 x z hc
   .have:x=i:=by lia
    rw[this]at hc;exact absurd hc q
theorem vP(g:GT n t e)(M:Meta n t)(h:Ce n t e n F):dF n t e F/\∀c∈fq n t e (RS n),c∈F:=by
 obtain⟨p1,p2,p3,p4⟩:=w9 g M n F (R6 _) h;refine⟨⟨p1,p2,λb hb x hx=>?_,λx hx hc=>p4 x hx hc⟩,p3⟩;have xn:=p1.lt x hx;have bb:=g.aO hb;have bx:=g.aO xn;have c1:=p3 _ (iz.mpr ⟨b,RU.mpr hb,x,RU.mpr xn,rfl⟩);have e1:aQ n t e x b=tb t (tb t (tb t (tb t b x) (ay n t e b)) (ay n t e x)) x:=by
  unfold aQ;rw[g.assoc _ _ x (g.lt _ _ (g.lt b x hb xn) bb) bx xn,g.fS xn,g.unr _ (g.lt _ _ (g.lt b x hb xn) bb)]
 rw[e1];exact p1.cl _ c1 _ hx
def cj(n:Nat)(t:AC)(e x a:Nat):Nat:=tb t (tb t (ay n t e x) a) x
theorem QE(g:GT n t e)(hx:x<n)(ha:a<n):cj n t e x a<n:=g.lt _ _ (g.lt _ _ (g.aO hx) ha) hx
theorem Kq(g:GT n t e)(hx:x<n)(ha:a<n):cj n t e x a=tb t (ay n t e x) (tb t a x):=g.assoc _ _ _ (g.aO hx) ha hx
theorem Nx(g:GT n t e)(hx:x<n)(hy:y<n):ay n t e (tb t x y)=tb t (ay n t e y) (ay n t e x):=by
 have bx:=g.aO hx;have b2:=g.aO hy;have xy:=g.lt x y hx hy;refine g.cK xy (g.aO xy) (g.lt _ _ b2 bx) ?_;rw[g.ef xy,g.assoc x y _ hx hy (g.lt _ _ b2 bx),<- g.assoc y _ _ hy b2 bx,g.ef hy,g.unl _ bx,g.ef hx]
theorem E6(g:GT n t e)(hx:x<n)(hy:y<n)(ha:a<n):cj n t e y (cj n t e x a)=cj n t e (tb t x y) a:=by
 have bx:=g.aO hx;have b2:=g.aO hy;have b3:=g.lt _ _ bx ha;unfold cj;rw[Nx g hx hy,g.assoc _ _ _ b2 bx ha,<- g.assoc _ _ _ b2 b3 hx,g.assoc _ _ _ (g.lt _ _ b2 b3) hx hy]
theorem Rm(g:GT n t e)(ha:a<n):cj n t e e a=a:=by
 have h:ay n t e e=e:=by
  have:=g.ef g.elt;rw[g.unl _ (g.aO g.elt)]at this;l_out
 unfold cj;rw[h,g.unl _ ha,g.unr _ ha]
theorem DF(g:GT n t e)(p:IsPart n t R)(hx:x∈R)(ha:a∈R):cj n t e x a∈R:=p.cl _ (p.cl _ (p.bk g hx) _ ha) _ hx
theorem J2(g:GT n t e)(p:IsPart n t R)(ha:a<n)(hj:(aV n t e R)[j]?=some c):hm n t e R (tb t a c)=j↔cj n t e c a∈R:=by
 have hc:=bZ (RQ hj);have hac:=g.lt a c ha hc;rw[Kq g hc ha];constructor
 .intro h;obtain⟨c',a1,a2,a3,a4⟩:=uz g p hac;rw[h,hj]at a1;cases a1;rw[a3];exact a4
 .exact λh=>FR g p hac hj h
theorem Mx(g:GT n t e)(p:IsPart n t R)(ha:a<n)(hj:(aV n t e R)[j]?=some c)(h:hm n t e R (tb t a c)=j):ov n t e R (tb t a c)=cj n t e c a:=by
 have hc:=bZ (RQ hj);have hac:=g.lt a c ha hc;obtain⟨c',a1,a2,a3,a4⟩:=uz g p hac;rw[h,hj]at a1;cases a1;rw[Kq g hc ha,a3]
def mkO(R W:AT)(x:Nat):Nat:=W.getD (R.idxOf x) 0
structure IsW(t:AC)(R W:AT)(m:Nat):Prop where
 len:W.length=R.length
 lt:∀w∈W,w<m
 add:∀x∈R,∀y∈R,mkO R W (tb t x y)=(mkO R W x+mkO R W y) % m
theorem ki(hx:x∈R):mkO R (R.map f) x=f x:=by
 unfold mkO;rw[RT,RY,lJ hx];rfl
theorem eG:∀ {R:AT},R.Nodup->∀ {i x:Nat},R[i]?=some x->R.idxOf x=i
 | [],_,i,x,h=>by simp at h
 | a :: R,nd,0,x,h=>by
  simp at h;subst h;simp
 | a :: R,nd,i+1,x,h=>by
  simp at h;rw[SS]at nd;have hx:=RQ h;have ne:a≠x:=λq=>nd.1 (q ▸ hx);rw[List.idxOf_cons,show (a == x)=false from by simpa using ne,eG nd.2 h]
  rfl
theorem map_mk(nd:R.Nodup)(h:W.length=R.length):R.map (mkO R W)=W:=by
 apply Tr;intro i;rw[RY]
 by_cases c:i<R.length
 .have e1:=RL c;rw[e1];show some (mkO R W R[i])=_;unfold mkO;rw[eG nd e1,RT,RL (by lia)]
  rfl
 .rw[Sm (by lia),Sm (by lia)]
  rfl
theorem IsW.mlt(h:IsW t R W m)(hx:x∈R):mkO R W x<m:=by
 have il:=SY hx;have:=h.len;unfold mkO;rw[RT,RL (by lia)]
 exact h.lt _ (S3 _)
theorem Eb(p:IsPart n t R)(hl:∀x∈R,f x<m)(ha:∀x∈R,∀y∈R,f (tb t x y)=(f x+f y) % m):IsW t R (R.map f) m where
 len:=by simp
 lt:=λw hw=>by
  obtain⟨x,hx,rfl⟩:=R9.mp hw;exact hl x hx
 add:=λx hx y hy=>by
  rw[ki (p.cl x hx y hy),ki hx,ki hy];exact ha x hx y hy
theorem Gb(h:a<m)(q:a=(a+a) % m):a=0:=by
 rcases Sb (a+a) m with c|c
 .rw[Ss c]at q;lia
 .rw[Xp c,Ss (by lia)]at q;lia
theorem IsW.un(h:IsW t R W m)(g:GT n t e)(p:IsPart n t R):mkO R W e=0:=by
 have q:=h.add e (p.un g) e (p.un g);rw[g.unl _ g.elt]at q;exact Gb (h.mlt (p.un g)) q
theorem IsPart.pw{R:AT}(p:IsPart n t R)(g:GT n t e){x:Nat}(hx:x∈R):∀i,ax t e x i∈R
 | 0=>p.un g
 | i+1=>p.cl _ (p.pw g hx i) _ hx
theorem IsW.pow{R W:AT}{m:Nat}(h:IsW t R W m)(g:GT n t e)(p:IsPart n t R){x:Nat}(hx:x∈R):∀i,mkO R W (ax t e x i)=i * mkO R W x % m
 | 0=>by
  rw[V9,U9];exact h.un g p
 | i+1=>by
  show mkO R W (tb t (ax t e x i) x)=_;rw[h.add _ (p.pw g hx i) _ hx,h.pow g p hx i,Tp,VL]
structure cV(n:Nat)(t:AC)(e:Nat)(R M:AT)(x m k:Nat):Prop where
 pt:IsPart n t R
 w:IsW t R M m
 xn:x<n
 st:∀h∈R,aQ n t e h x∈R
 kp:∀h∈R,mkO R M (aQ n t e h x)=mkO R M h
 k1:1<=k
 kin:ax t e x k∈R
 nT:∀i,1<=i->i<k->ax t e x i∉R
 m1:0<m
 all:ax t e x m=e
theorem Mo(g:GT n t e)(ha:a<n)(hb:b<n):tb t b a=tb t (aQ n t e a b) b:=by
 unfold aQ;rw[g.assoc _ _ _ (g.lt _ _ hb ha) (g.aO hb) hb,g.fS hb,g.unr _ (g.lt _ _ hb ha)]
theorem cV.cj(T:cV n t e R M x m k)(g:GT n t e):∀i,∀h∈R,∃c,c∈R/\mkO R M c=mkO R M h/\tb t (ax t e x i) h=tb t c (ax t e x i)
 | 0,h,hh=>⟨h,hh,rfl,by
  have hn:=T.pt.lt h hh;show tb t e h=tb t h e;rw[g.unl _ hn,g.unr _ hn]⟩
 | i+1,h,hh=>by
  have hn:=T.pt.lt h hh;obtain⟨c,c1,c2,c3⟩:=T.cj g i _ (T.st h hh);have cn:=T.pt.lt c c1;have pn:=bp g T.xn i;have kn:=T.pt.lt _ (T.st h hh);refine⟨c,c1,c2.trans (T.kp h hh),?_⟩;show tb t (tb t (ax t e x i) x) h=tb t c (tb t (ax t e x i) x);rw[g.assoc _ _ _ pn T.xn hn,Mo g hn T.xn,<- g.assoc _ _ _ pn kn T.xn,c3,g.assoc _ _ _ cn pn T.xn]
def lay(t:AC)(e x:Nat)(R:AT)(k:Nat):AT:=(RS k).flatMap λj=>R.map λh=>tb t h (ax t e x j)
theorem Bx:lay t e x R (k+1)=lay t e x R k++R.map λh=>tb t h (ax t e x k):=by
 unfold lay;rw[Vs,Za];simp
theorem eR :y∈lay t e x R k↔∃j,j<k/\∃h,h∈R/\tb t h (ax t e x j)=y:=by
 unfold lay;rw[List.mem_flatMap];constructor
 .rintro⟨j,hj,hy⟩;obtain⟨h,hh,q⟩:=R9.mp hy;exact⟨j,RU.mp hj,h,hh,q⟩
 .rintro⟨j,hj,h,hh,q⟩;exact⟨j,RU.mpr hj,R9.mpr ⟨h,hh,q⟩⟩
theorem wc:(lay t e x R k).length=k * R.length:=by
 induction k with
 | zero=>simp[lay]
 | succ k ih=>rw[Bx,R8,ih,RP,VL]
theorem cV.one(T:cV n t e R M x m k)(g:GT n t e){h':Nat}(hh:h∈R)(x!:h'∈R)(hi:i<k)(hj:j<k)(q:tb t h (ax t e x i)=tb t h' (ax t e x j)):i=j/\h=h':=by
 have pn:=λj=>bp g T.xn j;have key:∀ {h h' i j:Nat},h∈R->h'∈R->i<=j->j<k->tb t h (ax t e x i)=tb t h' (ax t e x j)->i=j:=by
  intro h h' i j hh x! ij hj e1;have hn:=T.pt.lt h hh;have hn':=T.pt.lt h' x!;rcases Sb i j with c|c
  .exfalso
   rw[show j=(j - i)+i by lia,cJ g T.xn,<- g.assoc _ _ _ hn' (pn _) (pn _)]at e1
   have e2:=g.pG (pn i) hn (g.lt _ _ hn' (pn _)) e1;refine T.nT (j - i) (by lia) (by lia) ?_
   have e3:ax t e x (j - i)=tb t (ay n t e h') h:=by
    rw[e2,<- g.assoc _ _ _ (g.aO hn') hn' (pn _),g.fS hn',g.unl _ (pn _)]
   rw[e3];exact T.pt.cl _ (T.pt.bk g x!) _ hh
  .lia
 have eij:i=j:=by
  rcases Nat.le_total i j with c|c
  .exact key hh x! c hj q
  .exact(key x! hh c hi q.symm).symm
 subst eij;exact⟨rfl,g.pG (pn i) (T.pt.lt h hh) (T.pt.lt h' x!) q⟩
theorem cV.nd(T:cV n t e R M x m k)(g:GT n t e):(lay t e x R k).Nodup:=by
 unfold lay Zl;rw[List.pairwise_flatMap];have pn:=λj=>bp g T.xn j;refine⟨λj _=>?_,?_⟩
 .exact fh (aA T.pt.srt) λa ha b hb q=>g.pG (pn j) (T.pt.lt a ha) (T.pt.lt b hb) q
 .refine XW ?_ TM;intro i j hi hj ij y hy z hz q;obtain⟨h,hh,rfl⟩:=R9.mp hy;obtain⟨h',x!,q'⟩:=R9.mp hz;have:=(T.one g hh x! (RU.mp hi) (RU.mp hj) (q.trans q'.symm)).1;lia
theorem cV.lt(T:cV n t e R M x m k)(g:GT n t e):∀y∈lay t e x R k,y<n:=λy hy=>by
 obtain⟨j,_,h,hh,rfl⟩:=eR.mp hy;exact g.lt _ _ (T.pt.lt h hh) (bp g T.xn j)
theorem cV.mul(T:cV n t e R M x m k)(g:GT n t e){h':Nat}(hh:h∈R)(x!:h'∈R)(hi:i<k)(hj:j<k) :
  ∃b l,b∈R/\l<k/\tb t (tb t h (ax t e x i)) (tb t h' (ax t e x j))=tb t b (ax t e x l) /\
   ((i+j<k/\l=i+j/\mkO R M b=(mkO R M h+mkO R M h') % m)\/(k<=i+j/\l=i+j - k/\mkO R M b=(mkO R M h+mkO R M h'+mkO R M (ax t e x k)) % m)):=by
 obtain⟨c,c1,c2,c3⟩:=T.cj g i h' x!;have pn:=λj=>bp g T.xn j;have hn:=T.pt.lt h hh;have hn':=T.pt.lt h' x!;have cn:=T.pt.lt c c1;have hc:=T.pt.cl h hh c c1;have hcn:=T.pt.lt _ hc;have e1:tb t (tb t h (ax t e x i)) (tb t h' (ax t e x j))=tb t (tb t h c) (ax t e x (i+j)):=by
  rw[g.assoc _ _ _ hn (pn i) (g.lt _ _ hn' (pn j)),<- g.assoc _ _ _ (pn i) hn' (pn j),c3,g.assoc _ _ _ cn (pn i) (pn j),<- cJ g T.xn,<- g.assoc _ _ _ hn cn (pn _)]
 have e2:mkO R M (tb t h c)=(mkO R M h+mkO R M h') % m:=by rw[T.w.add h hh c c1,c2]
 rcases Sb (i+j) k with v|v
 .exact⟨tb t h c,i+j,hc,v,e1,.inl ⟨v,rfl,e2⟩⟩
 .refine⟨tb t (tb t h c) (ax t e x k),i+j - k,T.pt.cl _ hc _ T.kin,by lia,?_,.inr ⟨v,rfl,?_⟩⟩
  .rw[e1,g.assoc _ _ _ hcn (pn k) (pn _),<- cJ g T.xn,show k+(i+j - k)=i+j by lia]
  .rw[T.w.add _ hc _ T.kin,e2,Tp]
theorem cV.gen(T:cV n t e R M x m k)(g:GT n t e)(hs:P.Pairwise (· < ·))(hm:∀y,y∈P↔y∈lay t e x R k):Gen n t e (R++[x]) P where
 srt:=hs
 lt:=λy hy=>T.lt g y ((hm y).mp hy)
 un:=(hm e).mpr (eR.mpr ⟨0,T.k1,e,T.pt.un g,g.unl _ g.elt⟩)
 cl:=λy hy s hs=>by
  obtain⟨i,hi,h,hh,rfl⟩:=eR.mp ((hm y).mp hy);rcases R5.mp hs with w|w
  .obtain⟨b,l,b1,b2,b3,_⟩:=T.mul g hh w hi T.k1 (j:=0);have:tb t s (ax t e x 0)=s:=g.unr s (T.pt.lt s w);rw[this]at b3;exact(hm _).mpr (eR.mpr ⟨l,b2,b,b1,b3.symm⟩)
  .have es:s=x:=RX.mp w;subst es;have hn:=T.pt.lt h hh;have pn:=λj=>bp g T.xn j;have e1:tb t (tb t h (ax t e s i)) s=tb t h (ax t e s (i+1)):=g.assoc _ _ _ hn (pn i) T.xn;rw[e1];rcases Sb (i+1) k with v|v
   .exact(hm _).mpr (eR.mpr ⟨i+1,v,h,hh,rfl⟩)
   .have:i+1=k:=by lia
    rw[this];exact(hm _).mpr (eR.mpr ⟨0,T.k1,_,T.pt.cl _ hh _ T.kin,g.unr _ (g.lt _ _ hn (pn k))⟩)
 wd:=λy hy=>by
  obtain⟨i,hi,h,hh,rfl⟩:=eR.mp ((hm y).mp hy);have hn:=T.pt.lt h hh;refine⟨h :: RZ i x,λz hz=>?_,?_⟩
  .rcases Sf.mp hz with w|w
   .exact R5.mpr (.inl (w ▸ hh))
   .exact R5.mpr (.inr (by rw[Vt w];exact R4))
  .show prd t (tb t e h) (RZ i x)=_;rw[g.unl _ hn,B7 g hn (λz hz=>by rw[Vt hz];exact T.xn),B5]
def ixO(n:Nat)(t:AC)(e:Nat)(R:AT)(x k y:Nat):Nat:=((RS k).find? λi=>decide (tb t y (ay n t e (ax t e x i))∈R)).getD 0
def bsO(n:Nat)(t:AC)(e:Nat)(R:AT)(x k y:Nat):Nat:=tb t y (ay n t e (ax t e x (ixO n t e R x k y)))
theorem cV.org(T:cV n t e R M x m k)(g:GT n t e)(hh:h∈R)(hi:i<k):ixO n t e R x k (tb t h (ax t e x i))=i/\bsO n t e R x k (tb t h (ax t e x i))=h:=by
 have pn:=λj=>bp g T.xn j;have hn:=T.pt.lt h hh;have e0:tb t (tb t h (ax t e x i)) (ay n t e (ax t e x i))=h:=by
  rw[g.assoc _ _ _ hn (pn i) (g.aO (pn i)),g.ef (pn i),g.unr _ hn]
 have e1:ixO n t e R x k (tb t h (ax t e x i))=i:=by
  unfold ixO;cases hf:(RS k).find? λj=>decide (tb t (tb t h (ax t e x i)) (ay n t e (ax t e x j))∈R) with
  | none =>
   have:=List.find?_eq_none.mp hf i (RU.mpr hi);rw[e0]at this;exact absurd (decide_eq_true hh) this
  | some j =>
   have c1:tb t (tb t h (ax t e x i)) (ay n t e (ax t e x j))∈R:=by
    have:=List.find?_some hf;exact of_decide_eq_true this
   have c2:=RU.mp (XA hf);have c3:tb t (tb t (tb t h (ax t e x i)) (ay n t e (ax t e x j))) (ax t e x j)=tb t h (ax t e x i):=by
    have:=g.lt _ _ hn (pn i);rw[g.assoc _ _ _ this (g.aO (pn j)) (pn j),g.fS (pn j),g.unr _ this]
   exact(T.one g c1 hh c2 hi c3).1
 refine⟨e1,?_⟩;unfold bsO;rw[e1];exact e0
def gY(n:Nat)(t:AC)(e:Nat)(R M:AT)(x m k y z:Nat):Nat:=(mkO R M (bsO n t e R x k z)+ixO n t e R x k z * y) % m
theorem cV.gy(T:cV n t e R M x m k)(g:GT n t e)(hh:h∈R)(hi:i<k)(y:Nat):gY n t e R M x m k y (tb t h (ax t e x i))=(mkO R M h+i * y) % m:=by
 unfold gY;rw[(T.org g hh hi).1,(T.org g hh hi).2]
theorem cV.add(T:cV n t e R M x m k)(g:GT n t e)(hy:k * y % m=mkO R M (ax t e x k)){u v:Nat}(hu:u∈lay t e x R k)(hv:v∈lay t e x R k) :
  gY n t e R M x m k y (tb t u v)=(gY n t e R M x m k y u+gY n t e R M x m k y v) % m:=by
 obtain⟨i,hi,h,hh,rfl⟩:=eR.mp hu;obtain⟨j,hj,h',x!,rfl⟩:=eR.mp hv;obtain⟨b,l,b1,b2,b3,b4⟩:=T.mul g hh x! hi hj;rw[b3,T.gy g b1 b2,T.gy g hh hi,T.gy g x! hj,<- Xd];rcases b4 with ⟨c1,c2,c3⟩|⟨c1,c2,c3⟩
 .rw[c2,c3,Tp,Zb]
  congr 1
  lia
 .rw[c2,c3,<- hy,Tp,Nat.add_right_comm,Vr,VS,<- Zb,show i+j - k+k=i+j by lia,Zb]
  congr 1
  lia
theorem cV.keep(T:cV n t e R M x m k)(g:GT n t e)(y:Nat)(hh:h∈R):gY n t e R M x m k y h=mkO R M h:=by
 have:=T.gy g hh T.k1 y;rw[show ax t e x 0=e from rfl,g.unr _ (T.pt.lt h hh),V9,Uh,Ss (T.w.mlt hh)]at this;l_out
theorem cV.dvd(T:cV n t e R M x m k)(g:GT n t e)(hj:ax t e x j∈R):k ∣ j:=by
 have pn:=λj=>bp g T.xn j;have e1:ax t e x j=tb t (ax t e x (k * (j / k))) (ax t e x (j % k)):=by rw[<- cJ g T.xn,UZ]
 have mul:∀i,ax t e x (k * i)∈R:=λi=>by
  induction i with
  | zero=>exact T.pt.un g
  | succ i ih=>rw[UL,cJ g T.xn];exact T.pt.cl _ ih _ T.kin
 have e2:ax t e x (j % k)∈R:=by
  have:ax t e x (j % k)=tb t (ay n t e (ax t e x (k * (j / k)))) (ax t e x j):=by
   rw[e1,<- g.assoc _ _ _ (g.aO (pn _)) (pn _) (pn _),g.fS (pn _),g.unl _ (pn _)]
  rw[this];exact T.pt.cl _ (T.pt.bk g (mul _)) _ hj
 rcases Tc (j % k) with c|c
 .exact Tj c
 .exact absurd e2 (T.nT _ c (Sy _ T.k1))
theorem cV.pm(T:cV n t e R M x m k)(g:GT n t e):∀i,mkO R M (ax t e x (k * i))=i * mkO R M (ax t e x k) % m
 | 0=>by
  rw[V9,U9];exact T.w.un g T.pt
 | i+1=>by
  have mul:∀i,ax t e x (k * i)∈R:=λi=>by
   induction i with
   | zero=>exact T.pt.un g
   | succ i ih=>rw[UL,cJ g T.xn];exact T.pt.cl _ ih _ T.kin
  rw[UL,cJ g T.xn,T.w.add _ (mul i) _ T.kin,T.pm g i,Tp,VL]
theorem cV.Q5(T:cV n t e R M x m k)(g:GT n t e):((RS m).filter λy=>decide (k * y % m=mkO R M (ax t e x k))).length=k:=by
 obtain⟨q,rfl⟩:=T.dvd g (j:=m) (by rw[T.all];exact T.pt.un g)
 have q1:0<q:=Nat.pos_of_mul_pos_left T.m1;have k1:=T.k1;have am:=T.w.mlt T.kin;have d1:k ∣ mkO R M (ax t e x k):=by
  have e1:=T.pm g q;rw[T.all,T.w.un g T.pt]at e1;obtain⟨c,hc⟩:=Tj e1.symm;refine⟨c,?_⟩;have:q * mkO R M (ax t e x k)=q * (k * c):=by rw[hc,UU k q,Vw]
  exact UH q1 this
 obtain⟨a,ha⟩:=d1;rw[ha]at am ⊢;have aq:a<q:=Nat.lt_of_mul_lt_mul_left am;have hl:((RS (k * q)).filter λy=>decide (k * y % (k * q)=k * a))=(RS k).map λj=>a+j * q:=by
  refine eF (Uv _ TM) ?_ λy=>?_
  .rw[Vi];refine TM.imp λz=>?_;have:=Nat.mul_lt_mul_of_pos_right z q1;lia
  .rw[Sx,RU,decide_eq_true_iff,Nat.mul_mod_mul_left,R9];constructor
   .rintro⟨h1,h2⟩;have h3:=UH k1 h2;refine⟨y / q,RU.mpr (Tz (by rw[UU];exact h1)),?_⟩
    have:=UZ y q;rw[h3,UU q]at this;lia
   .rintro⟨j,hj,rfl⟩;have Q!:=RU.mp hj;refine⟨?_,?_⟩
    .have:(j+1) * q<=k * q:=UQ q Q!;rw[VL]at this;lia
    .rw[Nat.add_mul_mod_self_right,Ss aq]
 rw[hl,RP,Sv]
theorem vd{α β:Type}{f:α->β}:∀ {l:List α},l.Nodup->(∀x∈l,∀y∈l,f x=f y->x=y)->(l.map f).Nodup
 | [],_,_=>VX
 | a :: l,nd,h=>by
  rw[SS]at nd;rw[S6,SS];refine⟨λz=>?_,vd nd.2 λx hx y hy=>h x (R3 _ hx) y (R3 _ hy)⟩;obtain⟨y,hy,q⟩:=R9.mp z;have:=h y (R3 _ hy) a R4 q;subst this;exact nd.1 hy
section
structure Taken(n:Nat)(t:AC)(e:Nat)(R M:AT)(x m:Nat)(P:AT)(L:AC):Prop where
 gen:Gen n t e (R++[x]) P
 srt:L.Nodup
 len:L.length * R.length=P.length
 mem:∀W,W∈L↔IsW t P W m/\∀h∈R,mkO P W h=mkO R M h
def BB(t:AC)(e:Nat)(R M:AT)(x m k:Nat):AT:=(RS m).filter λy=>decide (k * y % m=mkO R M (ax t e x k))
theorem JP{L:AT}(h1:P.Nodup)(h2:L.Nodup)(h:∀y,y∈P↔y∈L):P.length=L.length:=by
 have a:=sub_len h1 λy hy=>(h y).mp hy;have b:=sub_len h2 λy hy=>(h y).mpr hy;lia
theorem cV.taken(T:cV n t e R M x m k)(g:GT n t e)(hs:P.Pairwise (· < ·))(hm:∀y,y∈P↔y∈lay t e x R k)(hp:L.Perm ((BB t e R M x m k).map λy=>P.map (gY n t e R M x m k y))) :
  Taken n t e R M x m P L:=by
 have G:=T.gen g hs hm;have hS:∀s∈R++[x],s<n:=λs hs=>by
  rcases R5.mp hs with z|z
  .exact T.pt.lt s z
  .rw[RX.mp z];exact T.xn
 have pp:=G.part g hS;have sub:∀h∈R,h∈P:=λh hh=>G.has g (R5.mpr (.inl hh)) (T.pt.lt h hh);have xP:x∈P:=G.has g (R5.mpr (.inr R4)) T.xn;have om:∀y,y∈BB t e R M x m k↔y<m/\k * y % m=mkO R M (ax t e x k):=λy=>by
  unfold BB;rw[Sx,RU,decide_eq_true_iff]
 have k1:=T.k1;have nd0:((BB t e R M x m k).map λy=>P.map (gY n t e R M x m k y)).Nodup:=by
  refine vd (Uv _ T6) λy hy y' W! q=>?_;obtain⟨a1,a2⟩:=(om y).mp hy;obtain⟨b1,b2⟩:=(om y').mp W!;rcases Sb 1 k with c|c
  .have e1:=congrArg (λl=>mkO P l x) q;simp only[ki xP]at e1;have ex:tb t e (ax t e x 1)=x:=by rw[g.unl _ (bp g T.xn 1),mz g T.xn]
   have key:∀y,y<m->gY n t e R M x m k y x=y:=λy hy=>by
    have:=T.gy g (T.pt.un g) c y;rw[ex,T.w.un g T.pt,To,ZF,Ss hy]at this;l_out
   rw[key y a1,key y' b1]at e1;exact e1
  .have:k=1:=by lia
   rw[this,ZF,Ss a1]at a2;rw[this,ZF,Ss b1]at b2;rw[a2,b2]
 refine⟨G,hp.nodup_iff.mpr nd0,?_,λW=>?_⟩
 .have ol:(BB t e R M x m k).length=k:=T.Q5 g;rw[hp.length_eq,RP,ol,<- wc (t:=t) (e:=e) (x:=x)];exact(JP (aA hs) (T.nd g) hm).symm
 .rw[hp.mem_iff,R9];constructor
  .rintro⟨y,hy,rfl⟩;obtain⟨a1,a2⟩:=(om y).mp hy;refine⟨Eb pp (λz _=>Sy _ T.m1) λu hu v hv=>T.add g a2 ((hm u).mp hu) ((hm v).mp hv),λh hh=>?_⟩;rw[ki (sub h hh)];exact T.keep g y hh
  .rintro⟨w,hw⟩;have e1:=w.pow g pp xP k;rw[hw _ T.kin]at e1;refine⟨mkO P W x,(om _).mpr ⟨w.mlt xP,e1.symm⟩,?_⟩;rw[<- map_mk (aA hs) w.len];refine TV λz hz=>?_;obtain⟨i,hi,h,hh,rfl⟩:=eR.mp ((hm z).mp hz);rw[map_mk (aA hs) w.len,T.gy g hh hi,w.add _ (sub h hh) _ (pp.pw g xP i),w.pow g pp xP i,hw h hh,Vr]
structure fK(n:Nat)(t:AC)(e:Nat)(D S:AT)(m:Nat)(R:AT)(F:AC):Prop where
 pt:IsPart n t R
 lo:∀d∈D,d∈R
 hi:∀y∈R,y∈S
 nd:F.Nodup
 mem:∀W,W∈F↔IsW t R W m/\∀d∈D,mkO R W d=0
 len:F.length * D.length=R.length
structure NJ(t:AC)(D S:AT)(m:Nat)(L:AC):Prop where
 srt:L.Nodup
 mem:∀W,W∈L↔IsW t S W m
 len:L.length * D.length=S.length
variable {D:AT}
theorem sL(g:GT n t e)(p:IsPart n t S):∀s∈fq n t e S,s∈S:=λs hs=>by
 obtain⟨a,ha,b,hb,rfl⟩:=iz.mp hs;exact p.cl _ (p.cl _ (p.cl _ ha _ hb) _ (p.bk g ha)) _ (p.bk g hb)
theorem LR(g:GT n t e)(p:IsPart n t S)(G:Gen n t e (fq n t e S) D):∀d∈D,d∈S :=
 G.least (p.un g) λx hx s hs=>p.cl _ hx _ (sL g p s hs)
theorem gk{l:Nat} :mkO R (RZ l 0) y=0:=by
 unfold mkO;rw[RT,Vu]
 split <;> rfl
theorem fK.start(g:GT n t e)(p:IsPart n t S)(G:Gen n t e (fq n t e S) D)(m1:0<m):fK n t e D S m D [RZ D.length 0]:=by
 have pd:=G.part g λs hs=>p.lt s (sL g p s hs);refine⟨pd,λd hd=>hd,LR g p G,by simp,λW=>?_,by simp⟩
 rw[RX];constructor
 .intro q;subst q;refine⟨⟨by simp,λw hw=>by rw[Vt hw];exact m1,λx _ y _=>?_⟩,λd _=>gk⟩
  rw[gk,gk,gk,U9]
 .rintro⟨w,h⟩;rw[<- map_mk (aA pd.srt) w.len];apply Tr;intro i;rw[RY]
  by_cases c:i<D.length
  .rw[RL c,Vu,if_pos c];show some (mkO D W D[i])=some 0;rw[h _ (S3 c)]
  .rw[Sm (by lia),Vu,if_neg c]
   rfl
theorem fK.on{F:AC}(I:fK n t e D S m R F)(g:GT n t e)(p:IsPart n t S)(G:Gen n t e (fq n t e S) D)(hx:x∈S)(hM:M∈F)(k1:1<=k)(kin:ax t e x k∈R)(nT:∀i,1<=i->i<k->ax t e x i∉R)(m1:0<m)(all:ax t e x m=e) :
  cV n t e R M x m k:=by
 obtain⟨w,z⟩:=(I.mem M).mp hM;have xn:=p.lt x hx;have key:∀h∈R,∃c,c∈D/\aQ n t e h x=tb t c h:=λh hh=>by
  have hn:=I.pt.lt h hh;refine⟨tb t (tb t (tb t x h) (ay n t e x)) (ay n t e h),?_,?_⟩
  .have hs:tb t (tb t (tb t x h) (ay n t e x)) (ay n t e h)∈fq n t e S:=iz.mpr ⟨x,hx,h,I.hi h hh,rfl⟩;exact G.has g hs (p.lt _ (sL g p _ hs))
  .unfold aQ;have a1:=g.lt _ _ (g.lt _ _ xn hn) (g.aO xn);rw[g.assoc _ _ _ a1 (g.aO hn) hn,g.fS hn,g.unr _ a1]
 refine⟨I.pt,w,xn,λh hh=>?_,λh hh=>?_,k1,kin,nT,m1,all⟩
 .obtain⟨c,c1,c2⟩:=key h hh;rw[c2];exact I.pt.cl _ (I.lo c c1) _ hh
 .obtain⟨c,c1,c2⟩:=key h hh;rw[c2,w.add _ (I.lo c c1) _ hh,z c c1,To,Ss (w.mlt hh)]
theorem Dr{α:Type}{q:Nat}:∀ (Ls:List (List α)) (a b:Nat),(∀L∈Ls,L.length * a=b)->Ls.flatten.length * a=Ls.length * b
 | [],a,b,_=>by simp
 | L :: Ls,a,b,h=>by
  rw[UG,R8,Zb,h L R4,Dr (q:=q) Ls a b λL hL=>h L (R3 _ hL),SU,VL,UT]
theorem fK.step{F:AC}(I:fK n t e D S m R F)(g:GT n t e)(p:IsPart n t S)(hx:x∈S)(hl:Ls.length=F.length)
  (hT:∀ (i:Nat) (M:AT) (L:AC),F[i]?=some M->Ls[i]?=some L->Taken n t e R M x m P L):fK n t e D S m P Ls.flatten:=by
 have r1:0<R.length:=Sr.mpr I.pt.ne;have f1:0<F.length:=by
  rcases Tc F.length with c|c
  .have:=I.len;rw[c,V9]at this;lia
  .exact c
 have T0:=hT 0 _ _ (RL f1) (RL (by lia))
 have G:=T0.gen;have xn:=p.lt x hx;have hS:∀s∈R++[x],s<n:=λs hs=>by
  rcases R5.mp hs with z|z
  .exact I.pt.lt s z
  .rw[RX.mp z];exact xn
 have pp:=G.part g hS;have sub:∀h∈R,h∈P:=λh hh=>G.has g (R5.mpr (.inl hh)) (I.pt.lt h hh);have rl:∀M∈F,M.length=R.length:=λM hM=>((I.mem M).mp hM).1.len;have ext:∀ {M M' W:AT},M∈F->M'∈F->(∀h∈R,mkO P W h=mkO R M h)->(∀h∈R,mkO P W h=mkO R M' h)->M=M':=λ{M M' W} hM hM' a b=>by
  rw[<- map_mk (aA I.pt.srt) (rl M hM),<- map_mk (aA I.pt.srt) (rl M' hM')];exact TV λh hh=>(a h hh).symm.trans (b h hh)
 refine⟨pp,λd hd=>sub d (I.lo d hd),?_,?_,λW=>?_,?_⟩
 .exact G.least (p.un g) λy hy s hs=>p.cl _ hy _ (by
   rcases R5.mp hs with z|z
   .exact I.hi s z
   .rw[RX.mp z];exact hx)
 .unfold Zl;rw[YJ];refine⟨λL hL=>?_,?_⟩
  .obtain⟨i,hi⟩:=Sk hL;have il:i<F.length:=by rw[<- hl];exact(RN.mp hi).1
   exact(hT i _ L (RL il) hi).srt
  .rw[SX];intro i j hi hj ij W hW W' hW' q;subst q;have i2:i<F.length:=by lia
   have j2:j<F.length:=by lia
   have a:=((hT i _ _ (RL i2) (RL hi)).mem W).mp hW;have b:=((hT j _ _ (RL j2) (RL hj)).mem W).mp hW';have q:=ext (S3 i2) (S3 j2) a.2 b.2;exact(SX.mp I.nd i j i2 j2 ij) q
 .rw[Uz];constructor
  .rintro⟨L,hL,hW⟩;obtain⟨i,hi⟩:=Sk hL;have il:i<F.length:=by rw[<- hl];exact(RN.mp hi).1
   have a:=((hT i _ L (RL il) hi).mem W).mp hW;refine⟨a.1,λd hd=>?_⟩;rw[a.2 d (I.lo d hd)];exact((I.mem _).mp (S3 il)).2 d hd
  .rintro⟨w,z⟩;have hM:R.map (mkO P W)∈F:=(I.mem _).mpr ⟨Eb I.pt (λy hy=>w.mlt (sub y hy)) λy hy y' W!=>w.add y (sub y hy) y' (sub y' W!),λd hd=>by
    rw[ki (I.lo d hd)];exact z d hd⟩
   obtain⟨i,hi⟩:=Sk hM;have il:i<Ls.length:=by rw[hl];exact(RN.mp hi).1
   exact⟨Ls[i],S3 il,((hT i _ _ hi (RL il)).mem W).mpr ⟨w,λh hh=>(ki hh).symm⟩⟩
 .have sl:=Dr (q:=0) Ls R.length P.length λL hL=>by
   obtain⟨i,hi⟩:=Sk hL;have il:i<F.length:=by rw[<- hl];exact(RN.mp hi).1
   exact(hT i _ L (RL il) hi).len
  rw[hl]at sl;have il:=I.len;refine Nat.eq_of_mul_eq_mul_right r1 ?_
  calc Ls.flatten.length * D.length * R.length=Ls.flatten.length * R.length * D.length:=by rw[Nat.mul_right_comm]
   _=F.length * P.length * D.length:=by rw[sl]
   _=F.length * D.length * P.length:=by rw[Nat.mul_right_comm]
   _=P.length * R.length:=by rw[il,UU]
theorem IB(g:GT n t e)(p:IsPart n t S)(G:Gen n t e (fq n t e S) D)(w:IsW t S W m):∀d∈D,mkO S W d=0:=by
 have m1:0<m:=Ti (SO _) (w.mlt (p.un g));have bk:∀a∈S,(mkO S W a+mkO S W (ay n t e a)) % m=0:=λa ha=>by
  rw[<- w.add a ha _ (p.bk g ha),g.ef (p.lt a ha),w.un g p]
 have c0:∀s∈fq n t e S,mkO S W s=0:=λs hs=>by
  obtain⟨a,ha,b,hb,rfl⟩:=iz.mp hs;have ab:=p.cl a ha b hb;have a':=p.bk g ha;have b':=p.bk g hb;rw[w.add _ (p.cl _ ab _ a') _ b',w.add _ ab _ a',w.add a ha b hb,Tp,VS,Tp,<- VS];rw[show mkO S W a+mkO S W b+mkO S W (ay n t e a)+mkO S W (ay n t e b)=(mkO S W a+mkO S W (ay n t e a))+(mkO S W b+mkO S W (ay n t e b)) by lia,Xd,bk a ha,bk b hb,Uh,U9]
 have:=G.least (R:=S.filter λd=>decide (mkO S W d=0)) (Sx.mpr ⟨p.un g,decide_eq_true (w.un g p)⟩) λy hy s hs=>by
  obtain⟨y1,y2⟩:=Sx.mp hy;have sS:=sL g p s hs;refine Sx.mpr ⟨p.cl _ y1 _ sS,decide_eq_true ?_⟩;rw[w.add y y1 s sS,of_decide_eq_true y2,c0 s hs,Uh,U9]
 exact λd hd=>of_decide_eq_true (Sx.mp (this d hd)).2
theorem fK.fin{F:AC}(I:fK n t e D S m R F)(g:GT n t e)(p:IsPart n t S)(G:Gen n t e (fq n t e S) D)(hS:∀y∈S,y∈R)(hp:L.Perm F):NJ t D S m L:=by
 have eq:R=S:=eF I.pt.srt p.srt λy=>⟨I.hi y,hS y⟩;subst eq;refine⟨hp.nodup_iff.mpr I.nd,λW=>?_,by rw[hp.length_eq];exact I.len⟩
 rw[hp.mem_iff,I.mem];exact⟨λz=>z.1,λz=>⟨z,IB g p G z⟩⟩
theorem fK.few{F:AC}(I:fK n t e D S m R F):F.length<=n:=by
 have il:=I.len;have:=I.pt.len;rcases Tc D.length with c|c
 .rw[c,U8]at il;have:=Sr.mpr I.pt.ne;lia
 .have:=US F.length c;lia
theorem fK.some{F:AC}(I:fK n t e D S m R F):0<F.length:=by
 have:=Sr.mpr I.pt.ne;rcases Tc F.length with c|c
 .have:=I.len;rw[c,V9]at this;lia
 .exact c
end
variable (T:Txt K mg)
section
variable {P:Sj}{w:World} 
inductive zg(K:RM)(vs:Z7)(H:Hp)(Q:VK)(E:XK):Prop
 | mk (v:V) (n:Nat) (t:AC) (_:vs=[v]) (_:At K H v t) (_:Sq n t) (_:Q .non H)
theorem yJ:Fa P w base T.jc 1 (zg K):=by
 exists T.jc.ok kH
 obtain⟨v,n,t,rfl,hT,sq,q⟩:=h;refine⟨_,(aa (pz 1 kH.nd (pln K T.bz (pv 0)))
   (aa (aU (PW.pt (uQ (pcm nh (pv 1) ai) (rJ (pcm jP (pv 1) (D4 (v:=.int 23) rfl T.zy ⟨_,rfl⟩))))) (ae cZ) aH)
   (ae (pfo (pil K (pv 0)) (pgn 2 kH.nd) (ae (aU (pcm fY (pln K T.bz (pv 2)) (pv 1)) (ae cZ) aH)))))),?_⟩
 k_in;refine cS hT ?_;k_in;have h1:=sq.len;have h2:=sq.pos;have h3:=sq.le;k_cls
 k_in;k_cls
 k_in;refine eA hT (λi σ H'=>jW (H'=H) (λx=>σ=[some v,I? t.length,x])) ⟨rfl,_,rfl⟩ (λi σ H' h=>by rw[h.1];exact ag.refl _) ?_ ?_
 .rintro i r w' σ' H' hr' hw ⟨rfl,x,rfl⟩;k_in;refine cS hw ?_;k_in;refine bW (λc=>absurd (by rw[sq.row i r hr',h1]) c) (λ_=>?_)
  k_in;exact⟨rfl,_,rfl⟩
 .rintro σ' H' ⟨rfl,x,rfl⟩;exact q
inductive sk(K:RM)(vs:Z7)(H:Hp)(Q:VK)(E:XK):Prop
 | mk (v:V) (n:Nat) (t:AC) (_:vs=[v]) (_:At K H v t) (_:Gd n t) (_:Q .non H)
theorem qF:Fa P w base T.eQ 1 (sk K):=by
 exists T.eQ.ok eC
 obtain⟨v,n,t,rfl,hT,gd,q⟩:=h;refine⟨_,(aa (pz 1 eC.nd (pln K T.bz (pv 0)))
   (ae (pfo (prg T.aK (pv 1)) (pgn 2 eC.nd) (ae (pfo (prg T.aK (pv 1)) (pgn 3 eC.nd) (ae (aU (PW.pt (uQ (pcm nh (pxl K (pxl K (pv 0) (pv 2)) (pv 3)) ai) (rJ (pcm zL (pxl K (pxl K (pv 0) (pv 2)) (pv 3)) (pv 1))))) (ae cZ) aH))))))),?_⟩
 k_in;refine cS hT ?_;k_in;have h1:=gd.len;have h3:=gd.le;rw[h1];refine aX (n:=n) rfl (by omega) (λi σ H'=>Ak (H'=H) (λx y=>σ=[some v,I? n,x,y])) ⟨rfl,_,_,rfl⟩ ?_ ?_
 .rintro i σ' H' hi ⟨rfl,x,y,rfl⟩;k_in;refine aX (n:=n) rfl (by omega) (λj σ V'=>jW (V'=H') (λy=>σ=[some v,I? n,I? i,y])) ⟨rfl,_,rfl⟩ ?_ ?_
  .rintro j σ'' V' hj ⟨rfl,y,rfl⟩;have ZW:=gd.lt i j hi hj;k_in;refine b6 hT rfl (gd.get hi) λw1 U'=>?_;k_in;refine ie U' rfl (gd.c8 hi hj) ?_;k_in;k_cls
   k_in;refine b6 hT rfl (gd.get hi) λw2 S!=>?_;k_in;refine ie S! rfl (gd.c8 hi hj) ?_;k_in;k_cls
   k_in;exact⟨rfl,_,rfl⟩
  .rintro σ'' V' ⟨rfl,y,rfl⟩;w_up
   exact⟨rfl,_,_,rfl⟩
 .rintro σ' H' ⟨rfl,x,y,rfl⟩;exact q
inductive zi(K:RM)(vs:Z7)(H:Hp)(Q:VK)(E:XK):Prop
 | mk (v:V) (n x:Nat) (t:AC) (_:vs=[v,.int x]) (_:At K H v t) (_:Sq n t) (_:x<n) (_:Q (.bl (decide (rG n t x))) H)
theorem zA:Fa P w base T.je 1 (zi K):=by
 exists T.je.ok qt
 obtain⟨v,n,x,t,rfl,hT,sq,hx,q⟩:=h;refine⟨_,(aa (pfo (prg T.aK (pln K T.bz (pv 0))) (pgn 2 qt.nd) (ae (aU (PW.pt (uQ (pcm fY (pxl K (pxl K (pv 0) (pv 1)) (pv 2)) (pv 2)) (rJ (pcm fY (pxl K (pxl K (pv 0) (pv 2)) (pv 1)) (pv 2))))) (ae (az fX)) aH)))
   (ae (az fX))),?_⟩
 k_in;refine cS hT ?_;k_in;have h1:=sq.len;have h3:=sq.le;rw[h1];refine aX (n:=n) rfl (by omega) (λi σ H'=>gv (H'=H) ((∀o,o<i->tb t x o=o/\tb t o x=o)) (λy=>σ=[some v,I? x,y])) ⟨rfl,λo ho=>absurd ho (by omega),_,rfl⟩ ?_ ?_
 .rintro i σ' H' hi ⟨rfl,hb,y,rfl⟩;have no:∀ (z:¬ (tb t x i=i/\tb t i x=i)),Q (.bl false) H':=λz=>by
   rw[decide_eq_false (λl:rG n t x=>z (l i hi))]at q;exact q
  k_in;refine b6 hT rfl (sq.get hx) λw1 U'=>?_;k_in;refine ie U' rfl (sq.c8 hx hi) ?_;k_in;refine bW (λc=>?_) (λc1=>?_)
  .k_in;exact no λz=>c (by rw[z.1])
  .k_in;refine b6 hT rfl (sq.get hi) λw2 S!=>?_;k_in;refine ie S! rfl (sq.c8 hi hx) ?_;k_in;refine bW (λc=>?_) (λc2=>?_)
   .k_in;exact no λz=>c (by rw[z.2])
   .k_in;refine⟨rfl,λo ho=>?_,_,rfl⟩;rcases Sb o i with z|z
    .exact hb o z
    .have e:o=i:=by omega
     subst e;exact⟨by omega,by omega⟩
 .rintro σ' H' ⟨rfl,hb,y,rfl⟩;k_in;rw[decide_eq_true (show rG n t x from hb)]at q;exact q
inductive Fq(K:RM)(vs:Z7)(H:Hp)(Q:VK)(E:XK):Prop
 | mk (v:V) (n e:Nat) (t:AC) (_:vs=[v]) (_:At K H v t) (_:GT n t e) (_:Q (.int e) H)
theorem E5:Fa P w base T.nq 2 (Fq K):=by
 exists T.nq.ok uW
 obtain⟨v,n,e,t,rfl,hT,gt,q⟩:=h;refine⟨_,(aa (pfo (prg T.aK (pln K T.bz (pv 0))) (pgn 1 uW.nd) (ae (aU (lS (pdf T.je (zA T) hr (paF (pv 0) (pa1 (pv 1))))) (ae (az (pv 1))) aH)))
   (ae cZ)),?_⟩
 k_in;walk_at "124";rw[h1];refine aX (n:=n) rfl (by omega) (λi σ H'=>gv (H'=H) (i<=e) (λy=>σ=[some v,y])) ⟨rfl,SO _,_,rfl⟩ ?_ ?_
 .rintro i σ' H' hi ⟨rfl,hle,y,rfl⟩;k_in;refine⟨v,n,i,t,rfl,hT,gt.toSq,hi,?_⟩;k_in;l_fit
  .k_in;rw[(gt.vF hi).mp c];exact q
  .k_in;refine⟨rfl,?_,_,rfl⟩;have:i≠e:=λz=>c ((gt.vF hi).mpr z);omega
 .rintro σ' H' ⟨rfl,hle,y,rfl⟩;exact absurd gt.elt (by omega)
inductive Ep(K:RM)(vs:Z7)(H:Hp)(Q:VK)(E:XK):Prop
 | mk (v:V) (n e a:Nat) (t:AC) (_:vs=[v,.int e,.int a]) (_:At K H v t) (_:GT n t e) (_:a<n) (_:Q (.int (ay n t e a:Int)) H)
theorem FF:Fa P w base T.nC 1 (Ep K):=by
 exists T.nC.ok uY
 obtain⟨v,n,e,a,t,rfl,hT,gt,ha,q⟩:=h;refine⟨_,(aa (pfo (prg T.aK (pln K T.bz (pv 0))) (pgn 3 uY.nd) (ae (aU (PW.pt (i9 (pcm cz (pxl K (pxl K (pv 0) (pv 2)) (pv 3)) (pv 1)) (jB (pcm cz (pxl K (pxl K (pv 0) (pv 3)) (pv 2)) (pv 1))))) (ae (az (pv 3))) aH)))
   (ae cZ)),?_⟩
 k_in;walk_at "124";rw[h1];refine aX (n:=n) rfl (by omega) (λi σ H'=>gv (H'=H) ((∀o,o<i->¬ (tb t a o=e/\tb t o a=e))) (λy=>σ=[some v,I? e,I? a,y])) ⟨rfl,λo ho=>absurd ho (by omega),_,rfl⟩ ?_ ?_
 .rintro i σ' H' hi ⟨rfl,hb,y,rfl⟩;have on:(¬ (tb t a i=e/\tb t i a=e))->∀o,o<i+1->¬ (tb t a o=e/\tb t o a=e):=λz o ho=>by
   rcases Sb o i with l|l
   .exact hb o l
   .have e':o=i:=by omega
    subst e';exact z
  k_in;refine b6 hT rfl (gt.get ha) λw1 U'=>?_;k_in;refine ie U' rfl (gt.c8 ha hi) ?_;k_in;refine aW (λc1=>?_) (λc=>?_)
  .k_in;refine b6 hT rfl (gt.get hi) λw2 S!=>?_;k_in;refine ie S! rfl (gt.c8 hi ha) ?_;k_in;refine aW (λc2=>?_) (λc=>?_)
   .k_in;rw[LO hi ⟨by omega,by omega⟩ hb]at q
    exact q
   .k_in;exact⟨rfl,on λz=>c (by rw[z.2]),_,rfl⟩
  .refine gn ?_;k_in;exact⟨rfl,on λz=>c (by rw[z.1]),_,rfl⟩
 .rintro σ' H' ⟨rfl,hb,y,rfl⟩;obtain⟨b,A',z⟩:=gt.back a ha;exact absurd z (hb b A')
inductive CJ(K:RM)(vs:Z7)(H:Hp)(Q:VK)(E:XK):Prop
 | mk (v:V) (n e:Nat) (t:AC) (_:vs=[v,.int e]) (_:At K H v t) (_:GT n t e) (_:∀d H',H d=none->ag H H'->Gr K H' d (bks n t e)->Q (.ref d) H')
theorem CN:Fa P w base T.lE 2 (CJ K):=by
 exists T.lE.ok Ct
 obtain⟨v,n,e,t,rfl,hT,gt,q⟩:=h;refine⟨_,(ae (az (bA rfl qp (prg T.aK (pln K T.bz (pv 0))) (λ_ _ _ _=>⟨(pgn 0 qp.nd),aZ,(pdf T.nC (FF T) hr (paF (pv 1) (paF (pv 2) (pa1 (pv 0)))))⟩)))),?_⟩;k_in;walk_at "124";rw[h1];refine gJ K (n:=n) rfl (by omega) (λi=>(bks n t e).take i) (λσ'=>∃y,σ'=[y,some v,I? e]) rfl (λi hi=>by rw[Sd];omega) ⟨_,rfl⟩ ?_ ?_
 .rintro i σ' H' d R R0 hi hs ⟨y,rfl⟩ hR a! hd;k_in;refine⟨v,n,e,i,t,rfl,Rep.mono hs hT,gt,hi,?_⟩;exact hR _ _ (ay n t e i) _ ⟨_,rfl⟩ (ag.refl _) rfl (bE _ n i hi)
 .intro d H' fd hs ha;have e1:(bks n t e).take n=bks n t e:=Sn (by simp[bks])
  have R!:Gr K H' d ((bks n t e).take n):=ha;rw[e1]at R!;exact q d H' fd hs R!
inductive sR(K:RM)(vs:Z7)(H:Hp)(Q:VK)(E:XK):Prop
 | mk (v:V) (n e:Nat) (t:AC) (_:vs=[v]) (_:At K H v t) (_:GT n t e) (_:Q .non H)
theorem sP:Fa P w base T.fA 1 (sR K):=by
 exists T.fA.ok dO
 obtain⟨v,n,e,t,rfl,hT,gt,q⟩:=h;refine⟨_,(aa (pz 1 dO.nd (pln K T.bz (pv 0)))
   (ae (pfo (prg T.aK (pv 1)) (pgn 2 dO.nd) (ae (pfo (prg T.aK (pv 1)) (pgn 3 dO.nd) (ae (pfo (prg T.aK (pv 1)) (pgn 4 dO.nd) (ae (aU (pcm fY (pxl K (pxl K (pv 0) (pxl K (pxl K (pv 0) (pv 2)) (pv 3))) (pv 4)) (pxl K (pxl K (pv 0) (pv 2)) (pxl K (pxl K (pv 0) (pv 3)) (pv 4)))) (ae cZ) aH))))))))),?_⟩
 k_in;walk_at "124";rw[h1];refine aX (n:=n) rfl (by omega) (λi σ H'=>DA (H'=H) (λx y z=>σ=[some v,I? n,x,y,z])) ⟨rfl,_,_,_,rfl⟩ ?_ ?_
 .rintro i σ' H' hi ⟨rfl,x,y,z,rfl⟩;k_in;refine aX (n:=n) rfl (by omega) (λj σ V'=>Ak (V'=H') (λy z=>σ=[some v,I? n,I? i,y,z])) ⟨rfl,_,_,rfl⟩ ?_ ?_
  .rintro j σ'' V' hj ⟨rfl,y,z,rfl⟩;k_in;refine aX (n:=n) rfl (by omega) (λk σ H3=>jW (H3=V') (λz=>σ=[some v,I? n,I? i,I? j,z])) ⟨rfl,_,rfl⟩ ?_ ?_
   .rintro k σ3 H3 hk ⟨rfl,z,rfl⟩;have hij:=gt.lt i j hi hj;have hjk:=gt.lt j k hj hk;k_in;refine b6 hT rfl (gt.get hi) λw1 U'=>?_;k_in;refine ie U' rfl (gt.c8 hi hj) ?_;refine b6 hT rfl (gt.get hij) λw2 S!=>?_;k_in;refine ie S! rfl (gt.c8 hij hk) ?_;k_in;refine b6 hT rfl (gt.get hi) λw3 hw3=>?_;k_in;refine b6 hT rfl (gt.get hj) λw4 hw4=>?_;k_in;refine ie hw4 rfl (gt.c8 hj hk) ?_;refine ie hw3 rfl (gt.c8 hi hjk) ?_;k_in;refine bW (λc=>absurd (by rw[gt.assoc i j k hi hj hk]) c) (λ_=>?_)
    k_in;exact⟨rfl,_,rfl⟩
   .rintro σ3 H3 ⟨rfl,z,rfl⟩;w_up
    exact⟨rfl,_,_,rfl⟩
  .rintro σ'' V' ⟨rfl,y,z,rfl⟩;w_up
   exact⟨rfl,_,_,_,rfl⟩
 .rintro σ' H' ⟨rfl,x,y,z,rfl⟩;exact q
def gfs(n:Int)(r e b:V):List (Str×V):=[("many",.int n),("rows",r),("unit",e),("backs",b)]
theorem IS(n:Int)(r e b:V):(gfs n r e b).lookup ("many" : Str)=some (.int n):=rfl
theorem Cj(n:Int)(r e b:V):(gfs n r e b).lookup ("rows" : Str)=some r:=rfl
theorem AS(n:Int)(r e b:V):(gfs n r e b).lookup ("unit" : Str)=some e:=rfl
theorem Hf(n:Int)(r e b:V):(gfs n r e b).lookup ("backs" : Str)=some b:=rfl
def aG(C:Addr)(H:Hp)(g:Addr)(n:Nat)(t:AC)(e:Nat):Prop :=
 ∃dx r b ps,H g=some (.ins C dx (gfs n (.ref r) (.int e) (.ref b)))/\Tbl H r t ps/\H b=some (.lst (aw (bks n t e)))
theorem aG.mono{g:Nat}(s:ag H H')(h:aG C H g n t e):aG C H' g n t e:=by
 obtain⟨dx,r,b,ps,h1,h2,h3⟩:=h;exact⟨dx,r,b,ps,s _ _ h1,h2.mono s,s _ _ h3⟩
theorem bu{b:Addr}(h:H b=some (.lst (aw l))):At K H (.ref b) l:=⟨b,_,rfl,SqL.of h,dG⟩
theorem eI{d:Addr}(h:Gr K H d l):H d=some (.lst (aw l)):=by
 obtain⟨ys,hy,hP⟩:=h;have e:ys=aw l:=by
  unfold aw
  clear hy
  induction hP with
  | nil=>rfl
  | cons r _ ih=>rw[S6,<- ih];exact congrArg (· :: _) r
 rw[<- e];exact hy
theorem aG.get{g:Nat}(h:aG C H g n t e):∃dx r b,H g=some (.ins C dx (gfs n (.ref r) (.int e) (.ref b)))/\At K H (.ref r) t/\At K H (.ref b) (bks n t e):=by
 obtain⟨dx,r,b,ps,h1,h2,h3⟩:=h;exact⟨dx,r,b,h1,h2.at,bu h3⟩
theorem wL(h:a<n):(bks n t e)[a]?=some (ay n t e a):=by
 unfold bks;simp[h]
section
variable (T:Txt K mg){H:Hp}{g dx:Addr}{n:Int}{r e b:V}{Q:VK}(hg:H g=some (.ins T.aB dx (gfs n r e b)))
include hg
theorem bB(q:Q (.int n) H):isF K "many" (.ref g) H Q:=⟨g,T.aB,dx,_,_,rfl,hg,T.fQ,T.rg,IS _ _ _ _,q⟩
theorem bR(q:Q r H):isF K "rows" (.ref g) H Q:=⟨g,T.aB,dx,_,_,rfl,hg,T.fQ,T.mj,Cj _ _ _ _,q⟩
theorem bV(q:Q e H):isF K "unit" (.ref g) H Q:=⟨g,T.aB,dx,_,_,rfl,hg,T.fQ,T.lX,AS _ _ _ _,q⟩
theorem bI(q:Q b H):isF K "backs" (.ref g) H Q:=⟨g,T.aB,dx,_,_,rfl,hg,T.fQ,T.ql,Hf _ _ _ _,q⟩
end
inductive JC(C:Addr)(K:RM)(vs:Z7)(H:Hp)(Q:VK)(E:XK):Prop
 | mk (p dx:Addr) (r e b:V) (t:AC) (_:vs=[.ref p,r,e,b]) (_:H p=some (.ins C dx [])) (_:At K H r t) (_:∀H',H' p=some (.ins C dx (gfs t.length r e b))->(∀a o,H a=some o->a≠p->H' a=some o)->Q .non H')
theorem J4:aE P w K mg base CX0 1 T.wV T.v8 ["self","rows","unit","backs"] (JC T.aB K):=by
 exists T.Mt.ok zk
 obtain⟨p,dx,r,e,b,t,rfl,hp,hT,k⟩:=h;refine⟨_,(aa (cB K rfl (pv 0) (pln K T.bz (pv 1)) rfl)
   (aa (cB K rfl (pv 0) (pv 1) rfl)
   (aa (cB K rfl (pv 0) (pv 2) rfl)
   (ae (cB K rfl (pv 0) (pv 3) rfl))))),?_⟩
 k_in;refine cS hT ?_;k_in;refine⟨p,T.aB,dx,_,rfl,hp,T.fQ,T.rg,(by show 0<1000;decide),?_⟩
 k_in;refine⟨p,T.aB,dx,_,rfl,aj,T.fQ,T.mj,(by show 1<1000;decide),?_⟩
 k_in;refine⟨p,T.aB,dx,_,rfl,aj,T.fQ,T.lX,(by show 2<1000;decide),?_⟩
 k_in;refine⟨p,T.aB,dx,_,rfl,aj,T.fQ,T.ql,(by show 3<1000;decide),?_⟩
 refine k _ aj λa o ha B'=>?_;rw[ak B',ak B',ak B',ak B'];exact ha
inductive Dg(C:Addr)(K:RM)(vs:Z7)(H:Hp)(Q:VK)(E:XK):Prop
 | mk (v:V) (n e:Nat) (t:AC) (_:vs=[v]) (_:At K H v t) (_:GT n t e) (_:∀g H',H g=none->ag H H'->aG C (since H H') g n t e->Q (.ref g) H')
theorem Cv:Fa P w base T.lg 3 (Dg T.aB K):=by
 exists T.lg.ok jN
 obtain⟨v,n,e,t,rfl,hT,gt,k⟩:=h;refine⟨_,(aa (cF (i:=1) rfl jN.nd rfl (VW rfl) qy (pil K (pv 0)) (λ_ _ _ _=>⟨(pgn 0 qy.nd),aZ,(bS (fC K rfl) rfl T.f6 Tw (pa1 (pv 0)))⟩) rfl)
   (aa (a9 (pdf T.jc (yJ T) hr (pa1 (pv 1))))
   (aa (a9 (pdf T.eQ (qF T) hr (pa1 (pv 1))))
   (aa (pz 2 jN.nd (pdf T.nq (E5 T) hr (pa1 (pv 1))))
   (aa (pz 3 jN.nd (pdf T.lE (CN T) hr (paF (pv 1) (pa1 (pv 2)))))
   (aa (a9 (pdf T.fA (sP T) hr (pa1 (pv 1))))
   (ae (az (pY T.My (J4 T) (hr.mono (by decide)) rfl T.L1 T.Lq .nil lB (paF (pv 1) (paF (pv 2) (pa1 (pv 3))))))))))))),?_⟩
 have h1:=gt.len;have h3:=gt.le;k_in;refine pe hT (by omega) λd H1 ps s1 fd F! tb1=>?_
 have ZZ:At K H1 (.ref d) t:=tb1.at;k_in;refine⟨_,n,t,rfl,ZZ,gt.toSq,?_⟩;k_in;refine⟨_,n,t,rfl,ZZ,gt.toGd,?_⟩;k_in;refine⟨_,n,e,t,rfl,ZZ,gt,?_⟩;k_in;refine⟨_,n,e,t,rfl,ZZ,gt,λb H2 fb s2 hb=>?_⟩;k_in;refine⟨_,n,e,t,rfl,Rep.mono s2 ZZ,gt,?_⟩;k_in;intro x dx hx hdx B';have s3:ag H2 (upd (upd H2 dx (.own x)) x (.ins T.aB dx [])):=λb' o z=>by
  rw[ak (au z hx),ak (au z hdx)];exact z
 refine⟨x,dx,_,_,_,t,rfl,aj,Rep.mono s3 (Rep.mono s2 ZZ),λH4 h4 k4=>⟨rfl,?_⟩⟩;have s4:ag H2 H4:=λb' o z=>k4 b' o (s3 b' o z) (au z hx);have fx:H x=none:=(s1.trans s2).free hx;refine k x H4 fx (s1.trans (s2.trans s4)) ⟨dx,d,b,ps,?_,(tb1.mono (s2.trans s4)).since fd F!,?_⟩
 .rw[pA fx,h4,h1]
 .rw[pA (s1.free fb)];exact s4 _ _ (eI hb)
inductive Ey(C:Addr)(K:RM)(vs:Z7)(H:Hp)(Q:VK)(E:XK):Prop
 | mk (g:Addr) (v:V) (n e:Nat) (t:AC) (l:AT) (_:vs=[.ref g,v]) (_:aG C H g n t e) (_:GT n t e) (_:At K H v l) (_:(∀x∈l,x<n)) (_:Q (.int (prd t e l:Int)) H)
theorem pH:Fa P w base T.iO 1 (Ey T.aB K):=by
 exists T.iO.ok lC
 obtain⟨g,v,n,e,t,l,rfl,hG,gt,hl,hx,q⟩:=h;obtain⟨dx,r,b,hg,hT,hb⟩:=hG.get (K:=K);refine⟨_,(aa (pz 2 lC.nd (pfl K (pv 0)))
   (aa (pfo (pil K (pv 1)) (pgn 3 lC.nd) (ae (pz 2 lC.nd (pxl K (pxl K (pfl K (pv 0)) (pv 2)) (pv 3)))))
   (ae (az (pv 2))))),?_⟩
 k_in;refine⟨g,T.aB,dx,_,_,rfl,hg,T.fQ,T.lX,AS _ _ _ _,?_⟩;k_in;refine eA hl (λi σ H'=>jW (H'=H) (λx=>σ=[R? g,some v,I? (prd t e (l.take i):Int),x])) ⟨rfl,_,rfl⟩ (λi σ H' h=>by rw[h.1];exact ag.refl _) ?_ ?_
 .rintro i c w' σ' H' hc hw ⟨rfl,x,rfl⟩;have q!:c<n:=hx c (RQ hc);have hp:prd t e (l.take i)<n:=gt.Hb gt.elt λy hy=>hx y (VU hy);k_sub;k_in;refine⟨g,T.aB,dx,_,_,rfl,hg,T.fQ,T.mj,Cj _ _ _ _,?_⟩;k_in;refine b6 hT rfl (gt.get hp) λw1 U'=>?_;k_in;refine ie U' rfl (gt.c8 hp q!) ?_;k_in;refine⟨rfl,I? c,?_⟩;rw[Kh hc];rfl
 .rintro σ' H' ⟨rfl,x,rfl⟩;k_in;rw[SV];exact q
end
def mS(ns:ZM)(k:Nat):Nat:=match ns[k]? with
 | some x=>(x % 2147483647).toNat
 | none=>0
theorem tV(ns:ZM)(k:Nat):mS ns k<2147483647:=by
 unfold mS
 split
 .rename_i x _
  have:=Xs x (show (0:Int)<2147483647 by decide)
  have:=Wn x (show (2147483647:Int)≠0 by decide)
  omega
 .decide
structure gq(a b c s:Nat):Prop where
 a1:1<=a
 b1:1<=b
 c1:1<=c
 s1:1<=s
 s4:s<=4
 le:a * b * c * s<=23
def szL(l:AT):Bool:=match l with
 | [a,b,c,s]=>decide (1<=a/\1<=b/\1<=c/\1<=s/\s<=4/\a * b * c * s<=23)
 | _=>false
theorem M8(h:szL l=true):∃a b c s,l=[a,b,c,s]/\gq a b c s:=by
 match l,h with
 | [a,b,c,s],h =>
  have h':=of_decide_eq_true h;exact⟨a,b,c,s,rfl,h'.1,h'.2.1,h'.2.2.1,h'.2.2.2.1,h'.2.2.2.2.1,h'.2.2.2.2.2⟩
theorem jE(h:1<=y):x<=x * y:=by
 have:=Te x h;omega
theorem gq.ab(h:gq a b c s):a * b<=23:=by
 have h1:=h.le;have h2:a * b<=a * b * c:=jE h.c1;have h3:a * b * c<=a * b * c * s:=jE h.s1;omega
theorem gq.abc(h:gq a b c s):a * b * c<=23:=by
 have h1:=h.le;have h3:a * b * c<=a * b * c * s:=jE h.s1;omega
theorem gq.a23(h:gq a b c s):a<=23:=by
 have h1:=h.ab;have h2:a<=a * b:=jE h.b1;omega
theorem gq.b23(h:gq a b c s):b<=23:=by
 have h1:=h.ab;have h2:b<=b * a:=jE h.a1;rw[UU]at h2;omega
theorem gq.c23(h:gq a b c s):c<=23:=by
 have h1:=h.abc;have h2:c<=c * (a * b):=jE (Uu h.a1 h.b1);rw[UU]at h2;omega
theorem LH:IZ.all szL=true:=by decide
theorem LZ:∀k,k<4->6<=([8,12,6,23]:AT).getD k 0/\([8,12,6,23]:AT).getD k 0<=23:=by decide
theorem JF:∀k,k<6->1<=([2,1,2,3,2,4]:AT).getD k 0/\([2,1,2,3,2,4]:AT).getD k 0<=4:=by decide
theorem Jq:∀k,k<3->0<([12,276,6348]:AT).getD k 0/\([12,276,6348]:AT).getD k 0<1073741824:=by decide
theorem PY{fi se th st room top:Nat}(h1:1<=fi)(h2:1<=se)(h3:1<=th)(h4:1<=st)(h5:st<=4)(hfs:0<fi * se)(ht:th<=room / (fi * se))(hr:room * st<=top)(I!:top<=23):gq fi se th st:=by
 refine⟨h1,h2,h3,h4,h5,?_⟩;have e1:fi * se * th<=room:=SA (Te _ ht) (XC room (fi * se));have e2:fi * se * th * st<=room * st:=UQ _ e1;omega
section
variable {P:Sj}{w:World} 
inductive C2(K:RM)(vs:Z7)(H:Hp)(Q:VK)(E:XK):Prop
 | mk (v:V) (ns:ZM) (k:Nat) (_:vs=[v,.int k]) (_:At K H v ns) (_:Q (.int (mS ns k:Int)) H)
theorem jT:Fa P w base T.fv 1 (C2 K):=by
 exists T.fv.ok C8
 obtain⟨v,ns,k,rfl,hA,q⟩:=h;refine⟨_,(aa (aU (pcm nh (pv 1) (pln K T.bz (pv 0))) (ae (az (ao aM (pxl K (pv 0) (pv 1)) ai))) aH)
   (ae (az ai))),?_⟩
 k_in;refine cS hA ?_;k_in;l_fit
 .have hk:k<ns.length:=by omega
  k_in;refine K8 (n:=k) hA rfl (RL hk) ?_;k_in;refine wo (show (0:Int)<2147483647 by decide) ?_
  unfold mS at q;rw[RL hk]at q;have:=Wn ns[k] (show (2147483647:Int)≠0 by decide)
  dsimp only at q;rw[Int.toNat_of_nonneg this]at q;exact q
 .have hk:¬ k<ns.length:=by omega
  k_in;unfold mS at q;rw[Sm (by omega)]at q
  exact q
inductive Av(K:RM)(vs:Z7)(H:Hp)(Q:VK)(E:XK):Prop
 | mk (one two:Nat) (_:vs=[.int one,.int two]) (_:∀v H' a b c s,ag H H'->gq a b c s->At K H' v [a,b,c,s]->Q v H')
theorem A8:Fa P w base T.jU 1 (Av K):=by
 exists T.jU.ok b8
 obtain⟨one,two,rfl,q⟩:=h;refine⟨_,(aa (pz 2 b8.nd (ao ck (pv 0) ai))
   (aa (aU (pcm cz (ao aM (pv 0) ai) ai) (aa (pz 3 b8.nd (bj (AI [[2,2,1,3],[7,1,1,3],[5,1,1,4],[4,2,1,2],[3,3,1,2],[8,1,1,2]] (by trivial)).out))
   (aa (pz 3 b8.nd (ao oJ (pv 3) (bj (AI [[4,1,1,2],[2,2,2,2],[3,1,1,4],[2,2,1,2],[5,1,1,2],[9,1,1,2]] (by trivial)).out)))
   (ae (az (pxl K (pv 3) (ao aM (pv 2) ai)))))) aH)
   (aa (pz 4 b8.nd (pxl K (bj (uy [8,12,6,23] (by trivial)).out) (ao aM (pv 2) ai)))
   (aa (aU (PW.pt (i9 (pcm jP (pv 4) ai) (jB (pcm jP (ao aM (ao ck (pv 1) ai) ai) ai)))) (ae (pz 4 b8.nd ai)) aH)
   (aa (pz 5 b8.nd (pxl K (bj (uy [2,1,2,3,2,4] (by trivial)).out) (ao aM (ao ck (pv 2) ai) ai)))
   (aa (pz 6 b8.nd (ao ck (pv 4) (pv 5)))
   (aa (pz 7 b8.nd (ao aT ai (ao aM (ao ck (pv 2) ai) (pv 6))))
   (aa (pz 8 b8.nd (ao aT ai (ao aM (pv 1) (ao ck (pv 6) (pv 7)))))
   (aa (pz 9 b8.nd (ao aT ai (ao aM (ao ck (pv 1) ai) (ao ck (pv 6) (ao bO (pv 7) (pv 8))))))
   (ae (az (bj (paF (pv 7) (paF (pv 8) (paF (pv 9) (pa1 (pv 5))))))))))))))))),?_⟩
 k_go;generalize one / 3=num;k_ne;k_go;refine aW (λ_=>?_) (λ_=>?_)
 .k_go;refine ei (K:=K) (l:=([[2,2,1,3],[7,1,1,3],[5,1,1,4],[4,2,1,2],[3,3,1,2],[8,1,1,2]]:AC)) (vU _ (by decide)) (by decide) λd1 H1 f1 s1 g1=>?_
  k_go;refine ei (K:=K) (l:=([[4,1,1,2],[2,2,2,2],[3,1,1,4],[2,2,1,2],[5,1,1,2],[9,1,1,2]]:AC)) (vU _ (by decide)) (by decide) λd2 H2 f2 s2 g2=>?_
  refine Pf (g1.mono s2).copy g2.copy (by decide) λd3 H3 f3 s3 a3=>?_
  have a3':At K H3 (.ref d3) IZ:=a3;k_go;have hm:num % 12<IZ.length:=Sy _ (by decide)
  refine b6 (n:=num % 12) a3' rfl (getD_some [] hm) λw hw=>?_;obtain⟨a,b,c,s,e,ok⟩:=M8 (SF.mp LH _ (RQ (getD_some [] hm)));rw[e]at hw;exact q w H3 a b c s (s1.trans (s2.trans s3)) ok hw
 .k_go;refine ei (K:=K) (l:=([8,12,6,23]:AT)) (oS _) (by decide) λd1 H1 f1 s1 g1=>?_
  k_go;have hm4:num % 4<4:=Sy _ (by decide)
  refine bw g1.at (getD_some 0 (show num % 4<([8,12,6,23]:AT).length from hm4)) ?_;obtain⟨h6,I!⟩:=LZ (num % 4) hm4;generalize ([8,12,6,23]:AT).getD (num % 4) 0=top0 at h6 I! ⊢;k_go;refine ja (λσ' H'=>H'=H1/\∃top:Nat,6<=top/\top<=23/\σ'=[I? one,I? two,I? num,none,I? top,none,none,none,none,none]) (λN hN=>?_) ?_
  .k_go;refine aW (λ_=>?_) (λ_=>?_)
   .k_go;refine aW (λ_=>?_) (λ_=>?_)
    .k_go;exact hN _ _ ⟨rfl,10,by decide,by decide,rfl⟩
    .k_go;exact hN _ _ ⟨rfl,top0,h6,I!,rfl⟩
   .k_go;exact hN _ _ ⟨rfl,top0,h6,I!,rfl⟩
  rintro σ' H1' ⟨rfl,top,h6,I!,rfl⟩;k_go;refine ei (K:=K) (l:=([2,1,2,3,2,4]:AT)) (oS _) (by decide) λd2 H2 f2 s2 g2=>?_
  k_go;have hm6:num / 4 % 6<6:=Sy _ (by decide)
  refine bw g2.at (getD_some 0 (show num / 4 % 6<([2,1,2,3,2,4]:AT).length from hm6)) ?_;obtain⟨t1,t4⟩:=JF (num / 4 % 6) hm6;generalize ([2,1,2,3,2,4]:AT).getD (num / 4 % 6) 0=st at t1 t4 ⊢;k_go;have hroom:0<top / st:=Xe (by omega) (by omega)
  have hrs:top / st * st<=top:=Nat.div_mul_le_self _ _;generalize top / st=room at hroom hrs ⊢;have hr23:room<=23:=by
   have:=US room (show 0<st by omega)
   omega
  k_go;have hf:1+num / 24 % room<=room:=by
   have:=Sy (num / 24) hroom;omega
  have hf1:1<=1+num / 24 % room:=by omega
  generalize 1+num / 24 % room=fi at hf hf1 ⊢;k_go;have h2:0<room / fi:=Xe hf hf1;refine AM h2 ?_;k_go;have hse:1+two % (room / fi)<=room / fi:=by
   have:=Sy two h2;omega
  have hse1:1<=1+two % (room / fi):=by omega
  generalize 1+two % (room / fi)=se at hse hse1 ⊢;have hfs:fi * se<=room:=SA (Te _ hse) (XC room fi);have hfs1:0<fi * se:=Uu hf1 hse1;k_go;have h3:0<room / (fi * se):=Xe hfs hfs1;refine AM h3 ?_;k_go;have hth:1+two / 23 % (room / (fi * se))<=room / (fi * se):=by
   have:=Sy (two / 23) h3;omega
  have hth1:1<=1+two / 23 % (room / (fi * se)):=by omega
  generalize 1+two / 23 % (room / (fi * se))=th at hth hth1 ⊢;refine cH ?_;k_go;refine⟨small (by show 4<=1000;decide),λp hp=>q _ _ fi se th st (s1.trans (s2.trans (ar hp _))) (PY hf1 hse1 hth1 t1 t4 hfs1 hth hrs I!) ?_⟩
  exact⟨p,_,rfl,SqL.of aj,.cons rfl (.cons rfl (.cons rfl (.cons rfl .nil)))⟩
def KJ(K:RM)(H:Hp)(v:V)(x a b s:Nat)(d:Addr)(n:Nat):St->Hp->Prop:=λσ' H'=>σ'=[some v,I? x,R? d]/\ag H H'/\∃l:AT,Gr K H' d l/\l≠[]/\l.length<=n/\∀k∈l,k<5/\eE a b s k=true
theorem KJ.put{v:V}{d:Addr}(hd:H d=none)(hn:n<=1000)(h:KJ K H v x a b s d n σ' H')(h5:k<5)(hk:eE a b s k=true)(hN:∀V',KJ K H v x a b s d (n+1) σ' V'->N σ' V') :
  oI (.ref d) [.int k] H' λ_ H1=>N σ' H1:=by
 obtain⟨e,s1,l,g,ne,ll,hl⟩:=h;refine ix (b:=k) g (by omega) rfl λH3 g3 k3 _=>hN H3 ⟨e,ag.but hd s1 k3,_,g3,by simp,by rw[R8];simp;omega,λy hy=>?_⟩
 rcases R5.mp hy with z|z
 .exact hl y z
 .rw[RX.mp z];exact⟨h5,hk⟩
theorem KJ.skip{v:V}{d:Addr}(h:KJ K H v x a b s d n σ' H'):KJ K H v x a b s d (n+1) σ' H':=by
 obtain⟨e,s1,l,g,ne,ll,hl⟩:=h;exact⟨e,s1,l,g,ne,by omega,hl⟩
theorem KJ.ty{v:V}{d:Addr}(h:KJ K H v x a b s d n σ' H'):tyV K "list" (.ref d) H':=by
 obtain⟨e,s1,l,g,_⟩:=h;exact g.ty
theorem Pk(h1:a=b)(h2:s % 2=0):eE a b s 1=true:=by subst h1;simp[eE,h2]
theorem Qr(h1:a=b)(h2:s % 3=0):eE a b s 2=true:=by subst h1;simp[eE,h2]
theorem O9(h1:a % b=0)(h2:1<b)(h3:s % b=0):eE a b s 3=true:=by simp[eE,h1,h2,h3]
theorem O4(h1:a % 2=0)(h2:b % 2=0)(h3:s % 2=0):eE a b s 4=true:=by simp[eE,h1,h2,h3]
inductive CH(K:RM)(vs:Z7)(H:Hp)(Q:VK)(E:XK):Prop
 | mk (v:V) (x a b c s:Nat) (_:vs=[v,.int x]) (_:gq a b c s) (_:At K H v [a,b,c,s]) (_:∀k H',ag H H'->k<5->eE a b s k=true->Q (.int k) H')
theorem Dc:Fa P w base T.lF 1 (CH K):=by
 exists T.lF.ok sW
 obtain⟨v,x,a,b,c,s,rfl,sz,hS,q⟩:=h;refine⟨_,(aa (pz 2 sW.nd (bj (pa1 ai)))
   (aa (aU (PW.pt (i9 (pcm cz (pxl K (pv 0) ai) (pxl K (pv 0) ai)) (jB (pcm cz (ao aM (pxl K (pv 0) ai) ai) ai)))) (ae (a9 (pap K (pv 2) ai))) aH)
   (aa (aU (PW.pt (i9 (pcm cz (pxl K (pv 0) ai) (pxl K (pv 0) ai)) (jB (pcm cz (ao aM (pxl K (pv 0) ai) ai) ai)))) (ae (a9 (pap K (pv 2) ai))) aH)
   (aa (aU (PW.pt (i9 (pcm cz (ao aM (pxl K (pv 0) ai) (pxl K (pv 0) ai)) ai) (i9 (pcm jP (pxl K (pv 0) ai) ai) (jB (pcm cz (ao aM (pxl K (pv 0) ai) (pxl K (pv 0) ai)) ai))))) (ae (a9 (pap K (pv 2) ai))) aH)
   (aa (aU (PW.pt (i9 (pcm cz (ao aM (pxl K (pv 0) ai) ai) ai) (i9 (pcm cz (ao aM (pxl K (pv 0) ai) ai) ai) (jB (pcm cz (ao aM (pxl K (pv 0) ai) ai) ai))))) (ae (a9 (pap K (pv 2) ai))) aH)
   (ae (az (pxl K (pv 2) (ao aM (pv 1) (pln K T.bz (pv 2))))))))))),?_⟩
 have b1:=sz.b1;k_go;refine ei (K:=K) (l:=([0]:AT)) (by walk_at "wr") (by decide) λd H1 f1 s1 g1=>?_
 have j1:KJ K H v x a b s d 1 [some v,I? x,R? d] H1:=⟨rfl,s1,_,g1,by simp,by simp,λk hk=>by rw[RX.mp hk];exact⟨by decide,rfl⟩⟩
 have hS1:=Rep.mono s1 hS;k_go;refine ja (KJ K H v x a b s d 2) (λN hN=>?_) ?_
 .walk_at "133"
  .walk_at "132"
   .k_go;refine⟨j1.ty,?_⟩;k_go;exact KJ.put f1 (by decide) j1 (by decide) (Pk c1 c2) λH2 z=>hN _ _ z
   .k_go;exact hN _ _ j1.skip
  .refine gn ?_;k_go;exact hN _ _ j1.skip
 rintro σ2 H2 j2;obtain⟨rfl,s2,z2⟩:=id j2;have hS2:=Rep.mono s2 hS;k_go;refine ja (KJ K H v x a b s d 3) (λN hN=>?_) ?_
 .walk_at "133"
  .walk_at "132"
   .k_go;refine⟨j2.ty,?_⟩;k_go;exact KJ.put f1 (by decide) j2 (by decide) (Qr c1 c2) λH2 z=>hN _ _ z
   .k_go;exact hN _ _ j2.skip
  .refine gn ?_;k_go;exact hN _ _ j2.skip
 rintro σ3 H3 j3;obtain⟨rfl,s3,z3⟩:=id j3;have hS3:=Rep.mono s3 hS;k_go;refine ja (KJ K H v x a b s d 4) (λN hN=>?_) ?_
 .walk_at "133"
  .walk_at "132"
   .k_go;refine aW (λc3=>?_) (λ_=>?_)
    .k_go;refine⟨j3.ty,?_⟩;k_go;exact KJ.put f1 (by decide) j3 (by decide) (O9 c1 c2 c3) λH2 z=>hN _ _ z
    .k_go;exact hN _ _ j3.skip
   .refine gn ?_;k_go;exact hN _ _ j3.skip
  .refine gn ?_;k_go;exact hN _ _ j3.skip
 rintro σ4 H4 j4;obtain⟨rfl,s4,z4⟩:=id j4;have hS4:=Rep.mono s4 hS;k_go;refine ja (KJ K H v x a b s d 5) (λN hN=>?_) ?_
 .walk_at "133"
  .walk_at "132"
   .k_go;refine aW (λc3=>?_) (λ_=>?_)
    .k_go;refine⟨j4.ty,?_⟩;k_go;exact KJ.put f1 (by decide) j4 (by decide) (O4 c1 c2 c3) λH2 z=>hN _ _ z
    .k_go;exact hN _ _ j4.skip
   .refine gn ?_;k_go;exact hN _ _ j4.skip
  .refine gn ?_;k_go;exact hN _ _ j4.skip
 rintro σ5 H5 ⟨rfl,s5,l,g5,ne,ll,hl⟩;have ha5:=g5.at;have hl0:0<l.length:=Sr.mpr ne;k_go;have hm:x % l.length<l.length:=Sy _ hl0;refine bw ha5 (getD_some 0 hm) ?_;have hk:=hl _ (RQ (getD_some 0 hm));exact q _ H5 s5 hk.1 hk.2
inductive Dd(K:RM)(vs:Z7)(H:Hp)(Q:VK)(E:XK):Prop
 | mk (m s x:Nat) (_:vs=[.int m,.int s,.int x]) (_:1<=m) (_:m<=23) (_:1<=s) (_:s<=4) (_:∀u H',ag H H'->u∈unitsOf m s->Q (.int u) H')
theorem CI:Fa P w base T.kX 1 (Dd K):=by
 exists T.kX.ok eL
 obtain⟨m,s,x,rfl,m1,m23,s1,s4,q⟩:=h;refine⟨_,(aa (pz 3 eL.nd (bj bT))
   (aa (pfo (prg T.aK (pv 0)) (pgn 4 eL.nd) (aa (pz 5 eL.nd ai)
   (aa (pfo (prg T.aK (pv 1)) (pgn 6 eL.nd) (ae (pz 5 eL.nd (ao aM (ao bO (pv 5) (pv 4)) (pv 0)))))
   (ae (aU (pcm cz (pv 5) (ao aM ai (pv 0))) (ae (a9 (pap K (pv 3) (pv 4)))) aH)))))
   (aa (aU (PW.pt (i9 (pcm jP (ao bO (pv 0) (pv 1)) ai) (jB (pcm jP (pln K T.bz (pv 3)) ai)))) (ae (pz 3 eL.nd (Jw (Ir K rfl) (pv 3) (LC ai) MF))) aH)
   (ae (az (pxl K (pv 3) (ao aM (pv 2) (pln K T.bz (pv 3))))))))),?_⟩
 k_go;refine ei (K:=K) (l:=([]:AT)) jj (by decide) λd H1 f1 e1 g1=>?_
 k_go;refine aX (n:=m) rfl (by omega) (λi σ H'=>B1 (ag H H') (Gr K H' d ((RS i).filter λu=>U2 (pw u m s) (1 % m))) (λy z k=>σ=[I? m,I? s,I? x,R? d,y,z,k])) ⟨e1,g1,_,_,_,rfl⟩ ?_ ?_
 .rintro i σ' H' hi ⟨e2,g2,y,z,k,rfl⟩;k_go;refine aX (n:=s) rfl (by omega) (λj σ H2=>jW (H2=H') (λk=>σ=[I? m,I? s,I? x,R? d,I? i,I? (pw i m j:Int),k])) ⟨rfl,_,rfl⟩ ?_ ?_
  .rintro j σ'' H2 hj ⟨rfl,k,rfl⟩;k_go;exact⟨rfl,_,rfl⟩
  .rintro σ'' H2 ⟨rfl,k,rfl⟩;k_go;k_ne;k_go;have hl:((RS i).filter λu=>U2 (pw u m s) (1 % m)).length<=100000:=by
    have:=Up (λu=>U2 (pw u m s) (1 % m)) (RS i);rw[Sv]at this;omega
   l_fit
   .k_go;refine⟨g2.ty,?_⟩;k_go;refine ix (b:=i) g2 hl rfl λH3 g3 k3 _=>?_;w_up
    refine⟨ag.but f1 e2 k3,?_,_,_,_,rfl⟩;rw[vI,if_pos c];exact g3
   .k_go;refine⟨e2,?_,_,_,_,rfl⟩;rw[vI,if_neg c];exact g2
 .rintro σ' H2 ⟨e2,g2,y,z,k,rfl⟩;have g2':Gr K H2 d (unitsOf m s):=g2;have a2:=g2'.at;have ne:=Jt m1 m23 s1 s4;have ul:(unitsOf m s).length<=23:=by
   have:=Up (λu=>U2 (pw u m s) (1 % m)) (RS m);rw[Sv]at this;exact SA this m23
  have u0:0<(unitsOf m s).length:=Sr.mpr ne;k_go;refine ja (λσ' H'=>ag H H'/\∃ (p:Addr) (l:AT),At K H' (.ref p) l/\0<l.length/\(∀u∈l,u∈unitsOf m s)/\∃y z k,σ'=[I? m,I? s,I? x,R? p,y,z,k]) (λN hN=>?_) ?_
  .have no:N [I? m,I? s,I? x,R? d,y,z,k] H2:=hN _ _ ⟨e2,d,_,a2,u0,λ_ z=>z,_,_,_,rfl⟩;walk_at "133"
   .walk_at "132"
    .k_go;refine L4 a2 λp H3 e3 _ a3=>?_;k_go;have ec:cut (unitsOf m s) (some ((1:Nat):Int)) none=(unitsOf m s).drop 1:=IT _;rw[ec]at a3;exact hN _ _ ⟨e2.trans e3,p,_,a3,by rw[X9];omega,λu hu=>WO hu,_,_,_,rfl⟩
    .k_go;exact no
   .refine gn ?_;k_go;exact no
  .rintro σ3 H3 ⟨e3,p,l,a3,l0,hl,y,z,k,rfl⟩;k_go;have hm:x % l.length<l.length:=Sy _ l0;refine bw a3 (getD_some 0 hm) ?_;exact q _ H3 e3 (hl _ (RQ (getD_some 0 hm)))
theorem Par.sz{kind u0 u1 u2:Nat}(h:Par a b c s kind u0 u1 u2):gq a b c s:=⟨h.a1,h.b1,h.c1,h.s1,h.s4,h.le⟩
inductive zh(K:RM)(vs:Z7)(H:Hp)(Q:VK)(E:XK):Prop
 | mk (v u:V) (p kind a b c s u0 u1 u2:Nat) (_:vs=[.int p,v,.int kind,u]) (_:Par a b c s kind u0 u1 u2) (_:At K H v [a,b,c,s]) (_:At K H u [u0,u1,u2]) (_:p<a * b * c) (_:Q (.int (d8 a b c kind u0 u1 u2 p:Int)) H)
theorem zo:Fa P w base T.jq 1 (zh K):=by
 exists T.jq.ok cg
 obtain⟨v,u,p,kind,a,b,c,s,u0,u1,u2,rfl,pr,hS,hU,hp,q⟩:=h;refine⟨_,(aa (pz 4 cg.nd (ao aM (pv 0) (pxl K (pv 1) ai)))
   (aa (pz 5 cg.nd (ao aM (ao ck (pv 0) (pxl K (pv 1) ai)) (pxl K (pv 1) ai)))
   (aa (pz 6 cg.nd (ao aM (ao bO (ao ck (pv 0) (ao bO (pxl K (pv 1) ai) (pxl K (pv 1) ai))) (pxl K (pv 3) ai)) (pxl K (pv 1) ai)))
   (aa (aU (pcm cz (pv 2) ai) (ae (F6 (i:=4) (j:=5) rfl cg.nd rfl rfl (by decide) rfl rfl (paF (pv 5) (pa1 (pv 4))) rfl)) (ae (aU (pcm cz (pv 2) ai) (ae (F6 (i:=4) (j:=5) rfl cg.nd rfl rfl (by decide) rfl rfl (paF (ao aM (ao gA ai (pv 5)) (pxl K (pv 1) ai)) (pa1 (ao aM (ao gA (pv 4) (pv 5)) (pxl K (pv 1) ai)))) rfl)) (ae (aU (pcm cz (pv 2) ai) (ae (pz 5 cg.nd (ao aM (ao aT (pv 5) (pv 4)) (pxl K (pv 1) ai)))) (ae (aU (pcm cz (pv 2) ai) (ae (pz 4 cg.nd (ao aM (ao aT (pv 4) (ao bO (ao ck (pxl K (pv 1) ai) ai) (pv 5))) (pxl K (pv 1) ai)))) (aa (pz 4 cg.nd (ao aM (ao bO (pv 4) (pxl K (pv 3) ai)) (pxl K (pv 1) ai)))
   (ae (pz 5 cg.nd (ao aM (ao bO (pv 5) (pxl K (pv 3) ai)) (pxl K (pv 1) ai))))))))))))
   (ae (az (ao aT (pv 4) (ao bO (pxl K (pv 1) ai) (ao aT (pv 5) (ao bO (pxl K (pv 1) ai) (pv 6))))))))))),?_⟩
 have a1:=pr.a1;have b1:=pr.b1;have c1:=pr.c1;have a23:=pr.sz.a23;have b23:=pr.sz.b23;have c23:=pr.sz.c23;have ab23:=pr.sz.ab;have ab0:0<a * b:=Uu a1 b1;have lu0:=(sj.mp pr.v0).1;have lu1:=(sj.mp pr.v1).1;have lu2:=(sj.mp pr.v2).1;k_go;refine ja (λσ' H'=>H'=H/\∃X Y:Nat,X+a * (Y+b * (p / (a * b) * u2 % c))=d8 a b c kind u0 u1 u2 p/\σ'=[I? p,some v,I? kind,some u,I? X,I? Y,I? ((p / (a * b) * u2 % c:Nat):Int)]) (λN hN=>?_) ?_
 .k_go;refine aW (λk1=>?_) (λk1=>?_)
  .k_go;refine hN _ _ ⟨rfl,p / a % b,p % a,?_,rfl⟩;subst k1;rfl
  .k_ne;k_go;refine aW (λk2=>?_) (λk2=>?_)
   .have eab:a=b:=by
     have:=pr.kind;subst k2;simp[eE]at this;exact this.1
    have hy:p / a % b<a:=by rw[eab];exact Sy _ b1
    have hx:p % a<a:=Sy _ a1;k_go;refine wo (by omega) ?_
    k_go;refine wo (by omega) ?_
    k_go;refine hN _ _ ⟨rfl,(a - p / a % b) % a,(p % a+a - p / a % b) % a,?_,?_⟩
    .subst k2;rfl
    .have e1:(((0:Nat):Int) - ((p / a % b:Nat):Int)) % (a:Int)=(((a - p / a % b) % a:Nat):Int):=by
      have z:(((a - p / a % b) % a:Nat):Int)=((a - p / a % b:Nat):Int) % (a:Int):=by push_cast;rfl
      rw[z,show ((a - p / a % b:Nat):Int)=(((0:Nat):Int) - ((p / a % b:Nat):Int))+(a:Int) * 1 by omega,Xh]
     have e2:(((p % a:Nat):Int) - ((p / a % b:Nat):Int)) % (a:Int)=(((p % a+a - p / a % b) % a:Nat):Int):=by
      have z:(((p % a+a - p / a % b) % a:Nat):Int)=((p % a+a - p / a % b:Nat):Int) % (a:Int):=by push_cast;rfl
      rw[z,show ((p % a+a - p / a % b:Nat):Int)=(((p % a:Nat):Int) - ((p / a % b:Nat):Int))+(a:Int) * 1 by omega,Xh]
     rw[<- e1,<- e2];rfl
   .k_ne;k_go;refine aW (λk3=>?_) (λk3=>?_)
    .k_go;refine hN _ _ ⟨rfl,p % a,(p / a % b+p % a) % b,?_,rfl⟩;subst k3;rfl
    .k_ne;k_go;refine aW (λk4=>?_) (λk4=>?_)
     .k_go;refine hN _ _ ⟨rfl,(p % a+a / 2 * (p / a % b)) % a,p / a % b,?_,rfl⟩;subst k4;rfl
     .have k0:kind=0:=by have:=pr.k5;omega
      k_go;refine hN _ _ ⟨rfl,p % a * u0 % a,p / a % b * u1 % b,?_,rfl⟩;subst k0;rfl
 .rintro σ' H' ⟨rfl,X,Y,e,rfl⟩;k_go;rw[e];exact q
inductive EM(K:RM)(vs:Z7)(H:Hp)(Q:VK)(E:XK):Prop
 | mk (v:V) (p r a b c s:Nat) (_:vs=[.int p,.int r,v]) (_:gq a b c s) (_:At K H v [a,b,c,s]) (_:Q (.int (lsum a b c p r:Int)) H)
theorem uV:Fa P w base T.kb 1 (EM K):=by
 exists T.kb.ok i4
 obtain⟨v,p,r,a,b,c,s,rfl,sz,hS,q⟩:=h;refine⟨_,(aa (pz 3 i4.nd (ao bO (pxl K (pv 2) ai) (pxl K (pv 2) ai)))
   (aa (pz 4 i4.nd (ao aM (ao aT (pv 0) (pv 1)) (pxl K (pv 2) ai)))
   (aa (pz 5 i4.nd (ao aM (ao aT (ao ck (pv 0) (pxl K (pv 2) ai)) (ao ck (pv 1) (pxl K (pv 2) ai))) (pxl K (pv 2) ai)))
   (aa (pz 6 i4.nd (ao aM (ao aT (ao ck (pv 0) (pv 3)) (ao ck (pv 1) (pv 3))) (pxl K (pv 2) ai)))
   (ae (az (ao aT (ao aT (pv 4) (ao bO (pxl K (pv 2) ai) (pv 5))) (ao bO (pv 3) (pv 6))))))))),?_⟩
 have a1:=sz.a1;have b1:=sz.b1;have c1:=sz.c1;have a23:=sz.a23;have b23:=sz.b23;have ab23:=sz.ab;have ab0:0<a * b:=Uu a1 b1;k_go;exact q
inductive B2(K:RM)(vs:Z7)(H:Hp)(Q:VK)(E:XK):Prop
 | mk (n x:Nat) (_:vs=[.int n,.int x]) (_:n<=23) (_:x<2147483647) (_:∀ (d:Addr) (H':Hp) (π:AT),ag H H'->π.Perm (RS n)->At K H' (.ref d) π->Q (.ref d) H')
theorem Az:Fa P w base T.j7 1 (B2 K):=by
 exists T.j7.ok i7
 obtain⟨n,x,rfl,b!,hx,q⟩:=h;refine⟨_,(aa (pz 2 i7.nd (bj bT))
   (aa (pfo (prg T.aK (pv 0)) (pgn 3 i7.nd) (aa (pz 1 i7.nd (ao aM (ao aT (ao aT (ao aT (ao bO (pv 1) (pv 1)) (ao bO ai (pv 1))) (pv 3)) ai) ai))
   (ae (a9 (rm K rfl Us PySem.F.slot_list_insert PySem.F.type_list_insert Hk (pv 2) (paF (ao aM (pv 1) (ao aT (pv 3) ai)) (pa1 (pv 3))))))))
   (ae (az (pv 2))))),?_⟩
 k_go;refine ei (K:=K) (l:=([]:AT)) jj (by decide) λd H1 f1 e1 g1=>?_
 k_go;refine aX (n:=n) rfl (by omega) (λi σ H'=>pO (ag H H') (λ(π:AT) (y:Nat) (k:ZQ)=>π.Perm (RS i)) (λπ y k=>y<2147483647) (λπ y k=>Gr K H' d π) (λπ y k=>σ=[I? n,I? y,R? d,k])) ⟨e1,[],x,_,.refl _,hx,g1,rfl⟩ ?_ ?_
 .rintro i σ' H' hi ⟨e2,π,y,k,hp,hy,g2,rfl⟩;have hl:π.length=i:=by rw[hp.length_eq,Sv]
  k_go;have hy2:(y * y+48271 * y+i+11) % 2147483647<2147483647:=Sy _ (by decide)
  generalize (y * y+48271 * y+i+11) % 2147483647=y2 at hy2 ⊢;refine⟨g2.ty,?_⟩;k_go;have hk:y2 % (i+1)<i+1:=Sy _ (by omega)
  refine Ii (b:=i) g2 (show y2 % (i+1)<=π.length by omega) (by omega) rfl λH3 g3 k3=>?_
  w_up
  exact⟨ag.but f1 e2 k3,_,y2,_,JA hp,hy2,g3,rfl⟩
 .rintro σ' H2 ⟨e2,π,y,k,hp,hy,g2,rfl⟩;k_go;exact q d H2 π e2 hp g2.at
theorem ip{β:Type}(f:Nat->β)(h:i<n):((RS n).map f)[i]?=some (f i):=by simp[h]
inductive CT(K:RM)(vs:Z7)(H:Hp)(Q:VK)(E:XK):Prop
 | mk (v tv:V) (a b c s e:Nat) (f:Nat->Nat) (_:vs=[v,tv,.int e]) (_:gq a b c s) (_:Tn (a * b * c) (lsum a b c) f s e) (_:At K H v [a,b,c,s]) (_:At K H tv ((RS (a * b * c)).map f)) (_:∀d H',ag H H'->At K H' (.ref d) (mkT (a * b * c * s) (cyc (a * b * c) (lsum a b c) f s e))->Q (.ref d) H')
theorem C3:Fa P w base T.kZ 2 (CT K):=by
 exists T.kZ.ok b9
 obtain⟨v,tv,a,b,c,s,e,f,rfl,sz,tn,hS,hT,q⟩:=h;refine⟨_,(aa (pz 3 b9.nd (pln K T.bz (pv 1)))
   (aa (pz 4 b9.nd (bj bT))
   (aa (pz 5 b9.nd (bS (jJ rfl) rfl T.f6 Tw (paF (bS nN rfl T.aK Wo (pa1 (pv 3))) bT)))
   (aa (pfo (prg T.aK (pxl K (pv 0) ai)) (pgn 6 b9.nd) (aa (pfo (prg T.aK (pv 3)) (pgn 7 b9.nd) (aa (pz 8 b9.nd (bj bT))
   (aa (pfo (prg T.aK (pxl K (pv 0) ai)) (pgn 9 b9.nd) (ae (pfo (prg T.aK (pv 3)) (pgn 10 b9.nd) (aa (pz 11 b9.nd (pdf T.kb (uV T) hr (paF (pv 7) (paF (pxl K (pv 5) (pv 10)) (pa1 (pv 0))))))
   (aa (aU (pcm zL (ao aT (pv 6) (pv 9)) (pxl K (pv 0) ai)) (ae (pz 11 b9.nd (pdf T.kb (uV T) hr (paF (pv 11) (paF (pv 2) (pa1 (pv 0))))))) aH)
   (ae (a9 (pap K (pv 8) (ao aT (pv 11) (ao bO (pv 3) (ao aM (ao aT (pv 6) (pv 9)) (pxl K (pv 0) ai))))))))))))
   (ae (a9 (pap K (pv 4) (pv 8)))))))
   (ae (cF (i:=5) rfl b9.nd rfl (VW rfl) qo (pil K (pv 5)) (λ_ _ _ _=>⟨(pgn 0 qo.nd),aZ,(pxl K (pv 1) (pv 0))⟩) rfl))))
   (ae (az (pv 4))))))),?_⟩
 have s1:=sz.s1;have s4:=sz.s4;have hle:=sz.le;have m23:=sz.abc;have m0:=tn.pos;have hlen:((RS (a * b * c)).map f).length=a * b * c:=by simp
 k_go;rw[hlen];generalize hm:a * b * c=m at hle m23 m0 hlen tn hT q ⊢;generalize hF:cyc m (lsum a b c) f s e=F at q ⊢;refine ei (K:=K) (l:=([]:AC)) jj (by decide) λd H1 fd e1 g1=>?_
 k_go;refine wq λpr hpr=>?_;k_go;refine nQ (K:=K) aj (by omega) λdl H2 fl e2 gl=>?_
 have e12:ag H H2:=e1.trans ((ar hpr _).trans e2);have g2:Gr K H2 d ([]:AC):=g1.mono ((ar hpr _).trans e2);have hdl:dl≠d:=λz=>by
  obtain⟨ys,hy⟩:=g1.is;have:(upd H1 pr (.rng 0 (m:Int))) d=some (.lst ys):=by rw[ak (au hy hpr)];exact hy
  rw[z,this]at fl;cases fl
 have hS2:=Rep.mono e12 hS;k_go;refine aX (n:=s) rfl (by omega) (λi σ H'=>yP (ag H H') (Gr K H' d ((mkT (m * s) F).take (m * i))) (λ(vl:V)=>At K (del H' d) vl ((RS m).map (Nat.repeat f i))) (λ(vl:V) x6 x7 x8 x9 e! T!=>σ=[some v,some tv,I? e,I? m,R? d,some vl,x6,x7,x8,x9,e!,T!])) ?_ ?_ ?_
 .refine⟨e12,by rw[U8];exact g2,.ref dl,?_,_,_,_,_,_,_,rfl⟩
  have z:(RS m).map (Nat.repeat f 0)=RS m:=by
   have:Nat.repeat f 0=id:=by funext x;rfl
   rw[this,WX]
  rw[z];exact o6 gl hdl
 .rintro i σ' H3 hi ⟨e3,g3,vl,hl3,x6,x7,x8,x9,e!,T!,rfl⟩;k_go;refine aX (n:=m) rfl (by omega) (λo σ H'=>CY (ag H H') (Gr K H' d ((mkT (m * s) F).take (m * i+o))) (At K (del H' d) vl ((RS m).map (Nat.repeat f i))) (λx7 x8 x9 e! T!=>σ=[some v,some tv,I? e,I? m,R? d,some vl,I? i,x7,x8,x9,e!,T!])) ⟨e3,g3,hl3,_,_,_,_,_,rfl⟩ ?_ ?_
  .rintro o σ' H4 ho ⟨e4,g4,hl4,x7,x8,x9,e!,T!,rfl⟩;have hI:m * i+o<m * s:=by
    have:m * (i+1)<=m * s:=Te m hi;rw[UL]at this;omega
   k_go;refine ei (K:=K) (l:=([]:AT)) jj (by decide) λp H5 fp e5 g5=>?_
   have hpd:p≠d:=Ie g4.is fp;have hS5:=Rep.mono (e4.trans e5) hS;k_go;refine aX (n:=s) rfl (by omega) (λj σ H'=>B1 (ag H4 H') (Gr K H' p (((RS (m * s)).map λy=>F (m * i+o) y).take (m * j))) (λx9 e! T!=>σ=[some v,some tv,I? e,I? m,R? d,some vl,I? i,I? o,R? p,x9,e!,T!])) ⟨e5,by rw[U8];exact g5,_,_,_,rfl⟩ ?_ ?_
   .rintro j σ' H6 hj ⟨e6,g6,x9,e!,T!,rfl⟩;k_go;refine aX (n:=m) rfl (by omega) (λk σ H'=>lK (ag H4 H') (Gr K H' p (((RS (m * s)).map λy=>F (m * i+o) y).take (m * j+k))) (λe! T!=>σ=[some v,some tv,I? e,I? m,R? d,some vl,I? i,I? o,R? p,I? j,e!,T!])) ⟨e6,g6,_,_,rfl⟩ ?_ ?_
    .rintro k σ' H7 hk ⟨e7,g7,e!,T!,rfl⟩;have hJ:m * j+k<m * s:=by
      have:m * (j+1)<=m * s:=Te m hj;rw[UL]at this;omega
     have hS7:=Rep.mono (e4.trans e7) hS;have hl7:At K H7 vl ((RS m).map (Nat.repeat f i)):=Rep.mono e7 (Rep.mono dA hl4);k_go;refine bw hl7 (ip _ hk) ?_;k_go;refine⟨v,o,Nat.repeat f i k,a,b,c,s,rfl,sz,hS7,?_⟩;k_go;refine ja (λσ' H'=>H'=H7/\σ'=[some v,some tv,I? e,I? m,R? d,some vl,I? i,I? o,R? p,I? j,I? k,I? ((if s<=i+j then lsum a b c (lsum a b c o (Nat.repeat f i k)) e else lsum a b c o (Nat.repeat f i k):Nat):Int)]) (λN hN=>?_) ?_
     .k_go;refine aW (λc1=>?_) (λc1=>?_)
      .k_go;refine⟨v,_,e,a,b,c,s,rfl,sz,hS7,?_⟩;k_go;refine hN _ _ ⟨rfl,?_⟩;rw[if_pos c1];rfl
      .k_go;refine hN _ _ ⟨rfl,?_⟩;rw[if_neg c1];rfl
     .rintro σ' H8 ⟨rfl,rfl⟩;k_go;refine⟨g7.ty,?_⟩;k_go;have ev:(if s<=i+j then lsum a b c (lsum a b c o (Nat.repeat f i k)) e else lsum a b c o (Nat.repeat f i k))+m * ((i+j) % s)=F (m * i+o) (m * j+k):=by
       rw[<- hF,UT (m * i) o,UT (m * j) k,OA ho hk]
      rw[ev];refine ix (b:=F (m * i+o) (m * j+k)) g7 (by rw[Sd];omega) rfl λH9 g9 k9 _=>?_
      w_up
      refine⟨ag.but fp e7 k9,?_,_,_,rfl⟩;rw[show m * j+(k+1)=(m * j+k)+1 by omega,bE (λy=>F (m * i+o) y) (m * s) (m * j+k) hJ]
      exact g9
    .rintro σ' H7 ⟨e7,g7,e!,T!,rfl⟩;w_up
     refine⟨e7,?_,_,_,_,rfl⟩;rw[UL];exact g7
   .rintro σ' H6 ⟨e6,g6,x9,e!,T!,rfl⟩;have et:((RS (m * s)).map λy=>F (m * i+o) y).take (m * s)=(RS (m * s)).map λy=>F (m * i+o) y:=Sn (by simp)
    rw[et]at g6;have g6d:=g4.mono e6;k_go;refine⟨g6d.ty,?_⟩;k_go;refine ix g6d (by rw[Sd];omega) (o6 g6 hpd) λH7 g7 k7 _=>?_
    have hdH:H d=none:=fd;w_up
    refine⟨ag.but hdH (e4.trans e6) k7,?_,Rep.mono (Qg k7) (Rep.mono (f9 e6) hl4),_,_,_,_,_,rfl⟩;rw[show m * i+(o+1)=(m * i+o)+1 by omega]
    unfold mkT;rw[bE (λx=>(RS (m * s)).map λy=>F x y) (m * s) (m * i+o) hI];exact g7
  .rintro σ' H4 ⟨e4,g4,hl4,x7,x8,x9,e!,T!,rfl⟩;k_go;have hl4':At K H4 vl ((RS m).map (Nat.repeat f i)):=Rep.mono dA hl4;have hll:((RS m).map (Nat.repeat f i)).length=m:=by simp
   refine kg (β:=Nat) hl4' (by omega) (λk=>((RS m).map (Nat.repeat f (i+1))).take k) (λσ'=>∃y,σ'=[y,some tv]) rfl (λk hk=>by rw[Sd];omega) ⟨_,rfl⟩ ?_ ?_
   .rintro k z w' σ' H5 d' R R0 hz hs hw ⟨y,rfl⟩ hR a! ZZ;have hkm:k<m:=by
     have:=(RN.mp hz).1;omega
    rw[ip _ hkm]at hz;cases hz;cases(show w'=V.int ((Nat.repeat f i k:Nat):Int) from hw);have hT5:=Rep.mono (e4.trans hs) hT;k_go;refine bw hT5 (ip _ (eX tn i hkm)) ?_;exact hR _ _ (Nat.repeat f (i+1) k) _ ⟨_,rfl⟩ (ag.refl _) rfl (bE _ m k hkm)
   .intro d' H5 fd' e5 hg;have hg':Gr K H5 d' (((RS m).map (Nat.repeat f (i+1))).take m):=by
     have:=hg;rw[hll]at this;l_out
    rw[Sn (by simp)]at hg'
    k_go;refine⟨e4.trans e5,?_,.ref d',o6 hg' (Ie g4.is fd'),_,_,_,_,_,_,rfl⟩;rw[UL];exact g4.mono e5
 .rintro σ' H3 ⟨e3,g3,vl,hl3,x6,x7,x8,x9,e!,T!,rfl⟩;rw[Sn (by simp[mkT])]at g3
  k_go;exact q d H3 e3 g3.at
inductive An(K:RM)(vs:Z7)(H:Hp)(Q:VK)(E:XK):Prop
 | mk (v:V) (ns:ZM) (st:Nat) (_:vs=[v,.int st]) (_:At K H v ns) (_:∀d H' n t e ps,ag H H'->GT n t e->Meta n t->Tbl H' d t ps->H d=none->(∀p∈ps,H p=none)->Q (.ref d) H')
theorem Bc:Fa P w base T.jZ 3 (An K):=by
 exists T.jZ.ok a7
 obtain⟨v,ns,st,rfl,hA,q⟩:=h;refine⟨_,(aa (pz 2 a7.nd (pdf T.fv (jT T) hr (paF (pv 0) (pa1 (pv 1)))))
   (aa (pz 3 a7.nd (pdf T.fv (jT T) hr (paF (pv 0) (pa1 (ao aT (pv 1) ai)))))
   (aa (pz 4 a7.nd (pdf T.jU (A8 T) hr (paF (pv 2) (pa1 (pv 3)))))
   (aa (pz 5 a7.nd (ao aM (ao bO (ao bO (ao aT (pv 3) ai) (ao aT (pv 3) ai)) ai) ai))
   (aa (pz 6 a7.nd (pdf T.lF (Dc T) hr (paF (pv 4) (pa1 (pv 5)))))
   (aa (pz 7 a7.nd (bj bT))
   (aa (pfo (prg T.aK ai) (pgn 8 a7.nd) (ae (a9 (pap K (pv 7) (pdf T.kX (CI T) hr (paF (pxl K (pv 4) (pv 8)) (paF (pxl K (pv 4) ai) (pa1 (ao ck (pv 5) (pxl K (bj (uy [12,276,6348] (by trivial)).out) (pv 8)))))))))))
   (aa (pz 9 a7.nd (ao bO (ao bO (pxl K (pv 4) ai) (pxl K (pv 4) ai)) (pxl K (pv 4) ai)))
   (aa (cF (i:=10) rfl a7.nd rfl (VW rfl) oq (prg T.aK (pv 9)) (λ_ _ _ _=>⟨(pgn 0 oq.nd),aZ,(pdf T.jq (zo T) hr (paF (pv 0) (paF (pv 2) (paF (pv 1) (pa1 (pv 3))))))⟩) rfl)
   (aa (pz 11 a7.nd (ao aM (ao aM (ao bO (ao bO (ao aT (pv 2) ai) (ao aT (pv 2) ai)) ai) ai) (pv 9)))
   (aa (aU (pcm fY (pxl K (pv 10) (pv 11)) (pv 11)) (ae (pz 11 a7.nd ai)) aH)
   (aa (pz 12 a7.nd (pdf T.kZ (C3 T) hr (paF (pv 4) (paF (pv 10) (pa1 (pv 11))))))
   (aa (pz 13 a7.nd (pdf T.j7 (Az T) hr (paF (pln K T.bz (pv 12)) (pa1 (pdf T.fv (jT T) hr (paF (pv 0) (pa1 (ao aT (pv 1) ai))))))))
   (aa (cF (i:=15) rfl a7.nd rfl (VW rfl) nX (pil K (pv 12)) (λ_ _ _ _=>⟨(pgn 0 nX.nd),aZ,(bS (fC K rfl) rfl T.f6 Tw (pa1 (pv 0)))⟩) rfl)
   (aa (pfo (iy K rfl rfl T.eM (pa1 (pv 12))) (my rfl (cv (pgn 16 a7.nd) (cv (pgn 14 a7.nd) iN))) (ae (pfo (iy K rfl rfl T.eM (pa1 (pv 14))) (my rfl (cv (pgn 17 a7.nd) (cv (pgn 18 a7.nd) iN))) (ae (ot (pxl K (pv 13) (pv 18)) (oC (pxl K (pv 15) (pxl K (pv 13) (pv 16))) (pxl K (pv 13) (pv 17)) set_list))))))
   (ae (az (pv 15)))))))))))))))))),?_⟩
 k_go;refine⟨v,ns,st,rfl,hA,?_⟩;have one2:=tV ns st;generalize mS ns st=one at one2 ⊢;k_go;refine⟨v,ns,st+1,rfl,hA,?_⟩;have two2:=tV ns (st+1);generalize mS ns (st+1)=two at two2 ⊢;k_go;refine⟨one,two,rfl,λvS H1 a b c s s1 sz hS=>?_⟩;k_go;generalize (two+11) * (two+29) * 48271 % 2147483629=stir;refine⟨vS,stir,a,b,c,s,rfl,sz,hS,λkind H2 s2 k5 hk=>?_⟩;have hS2:=Rep.mono s2 hS;k_go;refine ei (K:=K) (l:=([]:AT)) jj (by decide) λdu H3 fu s3 gu=>?_
 k_go;refine aX (n:=3) rfl (by decide) (λi σ H'=>Hu (ag H2 H') (λ(us:AT)=>Gr K H' du us) (λus=>us.length=i) (λus=>(∀j,j<i->us.getD j 0∈unitsOf ([a,b,c,s].getD j 0) s)) (λ(us:AT) x8=>σ=[some v,I? st,I? one,I? two,some vS,I? stir,I? kind,R? du,x8,none,none,none,none,none,none,none,none,none,none])) ⟨s3,[],gu,rfl,λj hj=>absurd hj (by omega),_,rfl⟩ ?_ ?_
 .rintro i σ' H4 hi ⟨s4,us,g4,l4,hu,x8,rfl⟩;k_go;refine⟨g4.ty,?_⟩;have hS4:=Rep.mono s4 hS2;k_go;refine bw hS4 (getD_some 0 (show i<4 by omega)) ?_
  k_go;refine ei (K:=K) (l:=([12,276,6348]:AT)) (oS _) (by decide) λd5 H5 f5 s5 g5=>?_
  k_go;refine bw g5.at (getD_some 0 (show i<3 from hi)) ?_;obtain⟨p1,p2⟩:=Jq i hi;refine Ht p1 p2 ?_;k_go;have hmi:1<=[a,b,c,s].getD i 0/\[a,b,c,s].getD i 0<=23:=by
   match i,hi with
   | 0,_=>exact⟨sz.a1,sz.a23⟩
   | 1,_=>exact⟨sz.b1,sz.b23⟩
   | 2,_=>exact⟨sz.c1,sz.c23⟩
  refine⟨_,s,_,rfl,hmi.1,hmi.2,sz.s1,sz.s4,λu H6 s6 hu6=>?_⟩;k_go;refine ix (b:=u) (g4.mono (s5.trans s6)) (by omega) rfl λH7 g7 k7 _=>?_
  w_up
  refine⟨ag.but fu (s4.trans (s5.trans s6)) k7,_,g7,by rw[R8,l4];rfl,λj hj=>?_,_,rfl⟩
  rcases Sb j i with z|z
  .have e1:(us++[u]).getD j 0=us.getD j 0:=by
    rw[RT,Sz (by omega),<- RT]
   rw[e1];exact hu j z
  .have e:j=i:=by omega
   subst e;have e1:(us++[u]).getD j 0=u:=by
    rw[RT,SE (by omega),l4,Zs]
    rfl
   rw[e1];exact hu6
 rintro σ' H4 ⟨s4,us,g4,l4,hu,x8,rfl⟩
 match us,l4 with
 | [u0,u1,u2],_ =>
 have v0:u0∈unitsOf a s:=hu 0 (by decide)
 have v1:u1∈unitsOf b s:=hu 1 (by decide)
 have v2:u2∈unitsOf c s:=hu 2 (by decide)
 have pr:Par a b c s kind u0 u1 u2:=⟨sz.a1,sz.b1,sz.c1,sz.s1,sz.s4,sz.le,k5,hk,v0,v1,v2⟩;have hS4:=Rep.mono s4 hS2;have hU4:=g4.at;have a23:=sz.a23;have ab23:=sz.ab;have m23:=sz.abc;have m0:0<a * b * c:=Uu (Uu sz.a1 sz.b1) sz.c1;k_go;refine ka K (n:=a * b * c) (β:=Nat) rfl (by omega) (λi=>((RS (a * b * c)).map (d8 a b c kind u0 u1 u2)).take i) (λσ'=>∃y,σ'=[y,I? kind,some vS,R? du]) rfl (λi hi=>by rw[Sd];omega) ⟨_,rfl⟩ ?_ ?_
 .rintro i σ' H5 d' R R0 hi hs ⟨y,rfl⟩ hR a! ZZ;k_go;refine⟨vS,_,i,kind,a,b,c,s,u0,u1,u2,rfl,pr,Rep.mono hs hS4,Rep.mono hs hU4,hi,?_⟩;exact hR _ _ _ _ ⟨_,rfl⟩ (ag.refl _) rfl (bE _ _ i hi)
 intro dt H5 s5 ht5;have ht5':At K H5 (.ref dt) ((RS (a * b * c)).map (d8 a b c kind u0 u1 u2)):=by
  have z:At K H5 (.ref dt) (((RS (a * b * c)).map (d8 a b c kind u0 u1 u2)).take (a * b * c)):=ht5;rw[Sn (by simp)]at z
  exact z
 k_go;have en:(one+5) * (one+17) * 69621 % 2147483587 % (a * b * c)<a * b * c:=Sy _ m0;generalize (one+5) * (one+17) * 69621 % 2147483587 % (a * b * c)=en0 at en ⊢;refine ja (λσ' H'=>H'=H5/\∃e:Nat,e<a * b * c/\d8 a b c kind u0 u1 u2 e=e/\σ'=[some v,I? st,I? one,I? two,some vS,I? stir,I? kind,R? du,x8,I? ((a * b * c:Nat):Int),R? dt,I? e,none,none,none,none,none,none,none]) (λN hN=>?_) ?_
 .k_go;refine bw ht5' (ip _ en) ?_;k_go;refine bW (λc1=>?_) (λc1=>?_)
  .k_go;exact hN _ _ ⟨rfl,0,m0,FU ..,rfl⟩
  .k_go;exact hN _ _ ⟨rfl,en0,en,c1,rfl⟩
 rintro σ' H5 ⟨rfl,e,he,fe,rfl⟩;have tn:=pr.tn he fe;have hS5:=Rep.mono s5 hS4;k_go;refine⟨vS,_,a,b,c,s,e,_,rfl,sz,tn,hS5,ht5',λdr H6 s6 hR6=>?_⟩;have gt:=NO tn sz.le;have mt:=Iw tn;have s06:ag H H6:=s1.trans (s2.trans (s4.trans (s5.trans s6)));generalize mkT (a * b * c * s) (cyc (a * b * c) (lsum a b c) (d8 a b c kind u0 u1 u2) s e)=R at gt mt hR6;generalize a * b * c * s=n at gt mt;have hA6:=Rep.mono s06 hA;k_go;rw[gt.len];refine⟨v,ns,st+2,rfl,hA6,?_⟩;k_go;refine⟨n,_,rfl,gt.le,tV ns (st+2),λdn H7 π s7 hp hN7=>?_⟩;have hR7:=Rep.mono s7 hR6;have hl:π.length=n:=by rw[hp.length_eq,Sv]
 k_go;refine pe hR7 (by rw[gt.len];have:=gt.le;omega) λd H8 ps s8 fd F! tb8=>?_
 k_go;refine iG (H₀:=H7) hR7 (λi σ H'=>CM (ag H7 H') (λrows=>Ren n π R rows i 0) (λrows=>Tbl H' d rows ps) (λrows x14 x16 x17 x18=>σ=[some v,I? st,I? one,I? two,some vS,I? stir,I? kind,R? du,x8,I? ((a * b * c:Nat):Int),R? dt,I? e,R? dr,R? dn,x14,R? d,x16,x17,x18])) ?_ (λi σ' H' z=>z.1) ?_ ?_
 .exact⟨s8,R,⟨gt.len,gt.row,λx y hx hy z=>absurd z (by omega)⟩,tb8,_,_,_,_,rfl⟩
 .rintro i row wr σ' H9 H10 p c! hwr ⟨s9,rows,rn,tb9,x14,x16,x17,x18,rfl⟩ hp9 e10 s10;have hi:i<n:=by
   have:=(RN.mp c!).1;rw[gt.len]at this;l_out
  have hrl:row.length=n:=gt.row i row c!;k_go;refine iG (H₀:=H7) hwr (λj σ H'=>GK (ag H7 H') (λrows=>Ren n π R rows i j) (λrows=>Tbl H' d rows ps) (λrows x17 x18=>σ=[some v,I? st,I? one,I? two,some vS,I? stir,I? kind,R? du,x8,I? ((a * b * c:Nat):Int),R? dt,I? e,R? dr,R? dn,some wr,R? d,I? i,x17,x18])) ⟨s9.trans s10,rows,rn,tb9.mono s10,_,_,rfl⟩ (λj σ' H' z=>z.1) ?_ ?_
  .rintro j th wt σ'' H11 H12 p2 hth hwt ⟨s11,rows2,rn2,tb11,x17,x18,rfl⟩ hp11 e12 s12;have hj:j<n:=by
    have:=(RN.mp hth).1;omega
   cases(show wt=V.int th from hwt);have hth':th=tb R i j:=by
    have e1:=gt.get hi;rw[c!]at e1;cases e1;have e2:=gt.c8 hi hj;rw[hth]at e2;exact SI e2
   have htl:th<n:=by rw[hth'];exact gt.lt i j hi hj
   have hN12:=Rep.mono (s11.trans s12) hN7;have tb12:=tb11.mono s12;k_go;refine bw hN12 (getD_some 0 (by omega)) ?_
   k_go;refine bw hN12 (getD_some 0 (by omega)) ?_
   have iA:=mK hp hi;have iB:=mK hp hj;have hrw:rows2[π.getD i 0]?=some (rows2.getD (π.getD i 0) []):=getD_some [] (by rw[rn2.len];exact iA)
   obtain⟨pp,hpp,hHp⟩:=tb12.get hrw;refine P8 tb12 hpp ?_;k_go;refine bw hN12 (getD_some 0 (by omega)) ?_
   refine oG hHp rfl (by unfold aw;rw[RP,rn2.row _ _ hrw];exact iB) ?_
   w_up
   refine⟨λb' o z=>?_,_,?_,tb12.set hrw hpp,_,_,rfl⟩
   .rw[ak (au z (F! pp (RQ hpp)))];exact(s11.trans s12) b' o z
   .rw[hth'];exact rn2.put hp hi hj
  .rintro σ'' H11 ⟨s11,rows2,rn2,tb11,x17,x18,rfl⟩;rw[hrl]at rn2;w_up
   exact⟨s11,rows2,rn2.next,tb11,_,_,_,_,rfl⟩
 .rintro σ' H9 ⟨s9,rows,rn,tb9,x14,x16,x17,x18,rfl⟩;rw[gt.len]at rn;k_go;have s07:=s06.trans s7;exact q d H9 n rows _ ps (s07.trans s9) (rn.gt hp gt) (Meta.ren rn hp gt mt) tb9 (s07.free fd) λp hp'=>s07.free (F! p hp')
end
local macro_rules | `(tactic| walk_at "rg1")=>`(tactic| first|walk_at "rx1" | refine bB (by assumption) (by assumption) ?_|refine bR (by assumption) (by assumption) ?_|refine bV (by assumption) (by assumption) ?_|refine bI (by assumption) (by assumption) ?_)
local macro_rules | `(tactic| walk_at "rg")=>`(tactic| repeat walk_at "rg1")
local macro_rules|`(tactic|apply $t)=>`(tactic|(fin2;refine $t))
section
variable {P:Sj}{w:World} 
inductive Iq(C:Addr)(K:RM)(vs:Z7)(H:Hp)(Q:VK)(E:XK):Prop
 | mk (g:Addr) (n e a:Nat) (t:AC) (_:vs=[.ref g,.int a]) (_:aG C H g n t e) (_:GT n t e) (_:a<n) (_:Q (.int (aI n t e a:Int)) H)
theorem BF:Fa P w base T.oo 1 (Iq T.aB K):=by
 exists T.oo.ok mr
 obtain⟨g,n,e,a,t,rfl,hG,gt,ha,q⟩:=h;obtain⟨dx,r,b,hg,hT,hb⟩:=hG.get (K:=K);refine⟨_,(aa (pz 2 mr.nd ai)
   (aa (pz 3 mr.nd (pv 1))
   (aa (fB Ut (pcm fY (pv 3) (pfl K (pv 0))) (aa (pz 3 mr.nd (pxl K (pxl K (pfl K (pv 0)) (pv 3)) (pv 1)))
   (ae (pz 2 mr.nd (ao aT (pv 2) ai)))))
   (ae (az (pv 2)))))),?_⟩
 obtain⟨o1,o2,o3⟩:=dD gt ha;have o4:1<=aI n t e a:=fP;symm;refine fJ (λm σ' H'=>t9 (H'=H) (λk=>1<=k) (λk=>k<=aI n t e a) (λk=>m=aI n t e a - k) (λk=>σ'=[R? g,I? a,I? k,I? (ax t e a k:Int)])) (aI n t e a - 1) ⟨rfl,1,R6 _,o4,rfl,by rw[mz gt ha];rfl⟩ ?_
 rintro m σ' H' ⟨rfl,k,k1,k2,rfl,rfl⟩;have kl:=bp gt ha k;symm;refine bW (λc=>?_) (λc=>?_)
 .have k3:k<aI n t e a:=by
   rcases Sb k (aI n t e a) with z|z
   .exact z
   .have:k=aI n t e a:=by omega
    rw[this]at c;exact absurd o2 c
  refine⟨λσ2 H2=>H2=H'/\σ2=[R? g,I? a,I? ((k+1:Nat):Int),I? (ax t e a (k+1):Int)],λσ2 H2 z=>⟨aI n t e a - (k+1),by omega,z.1,k+1,by omega,k3,rfl,z.2⟩,?_⟩
  symm;refine b6 hT rfl (gt.get kl) λw1 U'=>?_;symm;refine bw U' (gt.c8 kl ha) ?_;symm;exact⟨rfl,rfl⟩
 .have k3:k=aI n t e a:=by
   rcases Sb k (aI n t e a) with z|z
   .exact absurd c (o3 k k1 z)
   .omega
  symm;rw[k3];exact q
theorem JY(k a:Nat):(RZ k [V.int a]).flatten=aw (RZ k a):=by
 unfold aw
 induction k with
 | zero=>rfl
 | succ k ih=>rw[TK,UG,ih,TK];rfl
inductive Kf(C:Addr)(K:RM)(vs:Z7)(H:Hp)(Q:VK)(E:XK):Prop
 | mk (g:Addr) (n e a:Nat) (z:Int) (t:AC) (_:vs=[.ref g,.int a,.int z]) (_:aG C H g n t e) (_:GT n t e) (_:a<n) (_:∀H',ag H H'->Q (.int (ax t e a (z % (aI n t e a:Int)).toNat:Int)) H')
theorem mE:Fa P w base T.iM 2 (Kf T.aB K):=by
 exists T.iM.ok Cm
 obtain⟨g,n,e,a,z,t,rfl,hG,gt,ha,q⟩:=h;refine⟨_,(aa (pz 3 Cm.nd (ao aM (pv 2) (pdf T.oo (BF T) hr (paF (pv 0) (pa1 (pv 1))))))
   (ae (az (pdf T.iO (pH T) hr (paF (pv 0) (pa1 (ao qR (bj (pa1 (pv 1))) (pv 3)))))))),?_⟩
 have o1:=(dD gt ha).1;have o4:1<=aI n t e a:=fP;have b!:=gt.le;symm;refine⟨g,n,e,a,t,rfl,hG,gt,ha,?_⟩;refine wo (show (0:Int)<(aI n t e a:Int) by omega) ?_
 have z1:=Wn z (show (aI n t e a:Int)≠0 by omega)
 have z2:=Xs z (show (0:Int)<(aI n t e a:Int) by omega)
 generalize hk:(z % (aI n t e a:Int)).toNat=k at q;have ek:z % (aI n t e a:Int)=(k:Int):=by omega
 rw[ek];symm;refine cH ?_;symm;refine⟨sK,λp hp=>?_⟩
 symm;refine⟨p,_,_,rfl,rfl,aj,by omega,by omega,?_,λp2 hp2=>?_⟩
 .rw[TZ];exact small (by show 1 * k<=1000;omega)
 rw[TZ,JY];have s1:ag H (upd (upd H p (.lst [.int a])) p2 (.lst (aw (RZ k a)))):=(ar hp _).trans (ar hp2 _);symm;refine⟨g,_,n,e,t,RZ k a,rfl,aG.mono s1 hG,gt,bu aj,λx hx=>by rw[(List.mem_replicate.mp hx).2];exact ha,?_⟩
 rw[B5];exact q _ s1
def b5(n:Nat)(t:AC)(e:Nat):AT:=(RS n).map (aI n t e)
theorem AA :∀s∈b5 n t e,1<=s:=λs hs=>by
 obtain⟨a,_,rfl⟩:=R9.mp hs;exact fP
inductive Jc(C:Addr)(K:RM)(vs:Z7)(H:Hp)(Q:VK)(E:XK):Prop
 | mk (g:Addr) (n e:Nat) (t:AC) (_:vs=[.ref g]) (_:aG C H g n t e) (_:GT n t e) (_:∀k H',ag H H'->cA (b5 n t e) k->Q (.int k) H')
theorem Js:Fa P w base T.sA 2 (Jc T.aB K):=by
 exists T.sA.ok pT
 obtain⟨g,n,e,t,rfl,hG,gt,q⟩:=h;obtain⟨dx,r,b,hg,hT,hb⟩:=hG.get (K:=K);refine⟨_,(aa (cF (i:=1) rfl pT.nd rfl (VW rfl) uJ (prg T.aK (pfl K (pv 0))) (λ_ _ _ _=>⟨(pgn 0 uJ.nd),aZ,(pdf T.oo (BF T) hr (paF (pv 1) (pa1 (pv 0))))⟩) rfl)
   (aa (pz 2 pT.nd ai)
   (aa (fB Ut (lS (cO (yG K rfl rfl) rfl T.Kt YK (pa1 (bA rfl u9 (pil K (pv 1)) (λ_ _ _ _=>⟨(pgn 0 u9.nd),aZ,(iH fY (ao aM (pv 1) (pv 0)) ai (iT _))⟩))))) (ae (pz 2 pT.nd (ao aT (pv 2) ai))))
   (ae (az (pv 2)))))),?_⟩
 have b!:=gt.le;symm;refine ka K (n:=n) (β:=Nat) rfl (by omega) (λi=>(b5 n t e).take i) (λσ'=>∃y,σ'=[y,R? g]) rfl (λi hi=>by rw[Sd];omega) ⟨_,rfl⟩ ?_ ?_
 .rintro i σ' H5 d' R R0 hi hs ⟨y,rfl⟩ hR a! ZZ;symm;refine⟨g,n,e,i,t,rfl,aG.mono hs hG,gt,hi,?_⟩;exact hR _ _ _ _ ⟨_,rfl⟩ (ag.refl _) rfl (bE _ _ i hi)
 intro d1 H1 s1 h1;have hlen:(b5 n t e).length=n:=by simp[b5]
 have h1':At K H1 (.ref d1) (b5 n t e):=by
  have z:At K H1 (.ref d1) ((b5 n t e).take n):=h1;rw[Sn (by omega)]at z
  exact z
 symm;have b1:=Ef (AA (n:=n) (t:=t) (e:=e));refine fJ (λm σ' H'=>rP (ag H1 H') (λk=>1<=k) (λk=>k<=bnd (b5 n t e)) (λk=>m=bnd (b5 n t e) - k) (λk=>(∀j,1<=j->j<k->∃s,s∈b5 n t e/\j % s≠0)) (λk=>σ'=[R? g,R? d1,I? k])) (bnd (b5 n t e) - 1) ⟨ag.refl _,1,R6 _,b1,rfl,λj j1 j2=>absurd j1 (by omega),rfl⟩ ?_
 rintro m σ' H2 ⟨s2,k,k1,k2,rfl,hk,rfl⟩;have h2:=Rep.mono s2 h1';symm;refine jy (β:=Bool) h2 (by omega) (λi=>((b5 n t e).map λs=>!decide (k % s=0)).take i) (λσ'=>∃y,σ'=[y,I? k]) rfl (λi hi=>by rw[Sd];omega) ⟨_,rfl⟩ ?_ ?_
 .rintro i c w' σ' H3 d' R R0 hc hs hw ⟨y,rfl⟩ hR a! ZZ;k_sub;have c1:0<c:=AA c (RQ hc);symm;refine hR _ _ (!decide (k % c=0)) _ ⟨_,rfl⟩ (ag.refl _) rfl ?_;rw[Sw,RY,hc];rfl
 intro d2 H3 s3 h3;have h3':At K H3 (.ref d2) ((b5 n t e).map λs=>!decide (k % s=0)):=by
  have z:At K H3 (.ref d2) (((b5 n t e).map λs=>!decide (k % s=0)).take (b5 n t e).length):=h3;rw[Sn (by simp)]at z
  exact z
 symm;refine Kr h3' ?_;symm;cases A':((b5 n t e).map λs=>!decide (k % s=0)).any id with
 | true =>
  refine uq ?_;have ex:∃s,s∈b5 n t e/\k % s≠0:=by
   obtain⟨x,hx,ex⟩:=WL.mp A';obtain⟨s,hs,rfl⟩:=R9.mp hx;exact⟨s,hs,by simpa using ex⟩
  have k3:k<bnd (b5 n t e):=by
   rcases Sb k (bnd (b5 n t e)) with z|z
   .exact z
   .have ek:k=bnd (b5 n t e):=by omega
    obtain⟨s,hs,z⟩:=ex;rw[ek]at z;exact absurd (D2 hs) z
  refine⟨λσ2 H4=>ag H1 H4/\σ2=[R? g,R? d1,I? ((k+1:Nat):Int)],λσ2 H4 z=>⟨bnd (b5 n t e) - (k+1),by omega,z.1,k+1,by omega,k3,rfl,λj j1 j2=>?_,z.2⟩,?_⟩
  .rcases Sb j k with z' | z'
   .exact hk j j1 z'
   .have:j=k:=by omega
    rw[this];exact ex
  symm;exact⟨s2.trans s3,rfl⟩
 | false =>
  refine gn ?_;symm;refine q k H3 (s1.trans (s2.trans s3)) ⟨k1,λs hs=>?_,hk⟩;rw[Ws]at A';have:=A' _ (R9.mpr ⟨s,hs,rfl⟩)
  simpa using this
def Q8:Option Nat->V
 | some b=>.int b
 | none=>.non
def Q9(n:Nat)(t:AC)(a:Nat):Prop:=∀b,b<n->tb t a b=tb t b a
instance :Decidable (Q9 n t a):=inferInstanceAs (Decidable (∀b,b<n->tb t a b=tb t b a))
inductive G3(C:Addr)(K:RM)(vs:Z7)(H:Hp)(Q:VK)(E:XK):Prop
 | mk (g:Addr) (n e a b:Nat) (t:AC) (_:vs=[.ref g,.int a,.int b]) (_:aG C H g n t e) (_:GT n t e) (_:a<n) (_:b<n) (_:∀H',ag H H'->Q (.int (aQ n t e a b:Int)) H')
theorem mN:Fa P w base T.iq 2 (G3 T.aB K):=by
 exists T.iq.ok GZ
 obtain⟨g,n,e,a,b,t,rfl,hG,gt,ha,hb,q⟩:=h;obtain⟨dx,r,bk,hg,hT,hB⟩:=hG.get (K:=K);refine⟨_,(ae (az (pdf T.iO (pH T) hr (paF (pv 0) (pa1 (bj (paF (pv 2) (paF (pv 1) (pa1 (pxl K (pfl K (pv 0)) (pv 2))))))))))),?_⟩;symm;refine cH ?_;symm;refine bw hB (wL hb) ?_;symm;refine⟨small (by show 3<=1000;decide),λp hp=>?_⟩
 have s1:ag H (upd H p (.lst (aw [b,a,ay n t e b]))):=ar hp _;symm;refine⟨g,_,n,e,t,[b,a,ay n t e b],rfl,aG.mono s1 hG,gt,bu aj,λx hx=>?_,?_⟩
 .simp only[Sf,T7,or_false]at hx;rcases hx with rfl|rfl|rfl
  .exact hb
  .exact ha
  .exact gt.aO hb
 .have e1:prd t e [b,a,ay n t e b]=aQ n t e a b:=by
   show tb t (tb t (tb t e b) a) (ay n t e b)=_;rw[gt.unl b hb];rfl
  rw[e1];exact q _ s1
def zU(t:AC)(a:Nat)(l:AT):Prop:=∀b∈l,tb t a b=tb t b a
instance :Decidable (zU t a l):=inferInstanceAs (Decidable (∀b∈l,tb t a b=tb t b a))
inductive BW(C:Addr)(K:RM)(vs:Z7)(H:Hp)(Q:VK)(E:XK):Prop
 | mk (g:Addr) (v:V) (n e a:Nat) (t:AC) (l:AT) (_:vs=[.ref g,.int a,v]) (_:aG C H g n t e) (_:GT n t e) (_:a<n) (_:At K H v l) (_:(∀x∈l,x<n)) (_:Q (.bl (decide (zU t a l))) H)
theorem BD:Fa P w base T.jQ 1 (BW T.aB K):=by
 exists T.jQ.ok rK
 obtain⟨g,v,n,e,a,t,l,rfl,hG,gt,ha,hl,ZW,q⟩:=h;obtain⟨dx,r,bk,hg,hT,hB⟩:=hG.get (K:=K);refine⟨_,(aa (pfo (pil K (pv 2)) (pgn 3 rK.nd) (ae (aU (pcm fY (pxl K (pxl K (pfl K (pv 0)) (pv 1)) (pv 3)) (pxl K (pxl K (pfl K (pv 0)) (pv 3)) (pv 1))) (ae (az fX)) aH)))
   (ae (az fX))),?_⟩
 symm;refine eA hl (λi σ H'=>gv (H'=H) ((∀b∈l.take i,tb t a b=tb t b a)) (λy=>σ=[R? g,I? a,some v,y])) ⟨rfl,by simp,_,rfl⟩ (λi σ H' h=>by rw[h.1];exact ag.refl _) ?_ ?_
 .rintro i c w' σ' H' hc hw ⟨rfl,hf,y,rfl⟩;k_sub;have hcm:=RQ hc;have hi:=ZW c hcm;symm;k_ne;symm;refine b6 hT rfl (gt.get ha) λw1 U'=>?_;symm;refine bw U' (gt.c8 ha hi) ?_;symm;refine b6 hT rfl (gt.get hi) λw2 S!=>?_;symm;refine bw S! (gt.c8 hi ha) ?_;symm;refine bW (λz=>?_) (λz=>?_)
  .symm;rw[decide_eq_false (λk:zU t a l=>z (k c hcm))]at q;exact q
  .symm;refine⟨rfl,λb hb=>?_,_,rfl⟩;rw[Sw,hc]at hb;rcases R5.mp hb with k|k
   .exact hf b k
   .rw[RX.mp k];exact z
 .rintro σ' H' ⟨rfl,hf,y,rfl⟩;rw[SV]at hf;symm;rw[decide_eq_true (show zU t a l from hf)]at q;exact q
inductive C9(C:Addr)(K:RM)(vs:Z7)(H:Hp)(Q:VK)(E:XK):Prop
 | mk (g:Addr) (n e a:Nat) (t:AC) (_:vs=[.ref g,.int a]) (_:aG C H g n t e) (_:GT n t e) (_:a<n) (_:∀d H',H d=none->ag H H'->H' d=some (.lst (aw (cls n t e a)))->Q (.ref d) H')
theorem Cu:Fa P w base T.kY 3 (C9 T.aB K):=by
 exists T.kY.ok CS
 obtain⟨g,n,e,a,t,rfl,hG,gt,ha,q⟩:=h;obtain⟨dx,gr,gb,hg,hT,hB⟩:=hG.get (K:=K);have b!:=gt.le;refine⟨_,(ae (az (cO (qm w rfl rfl) rfl T.gg T1 (paF (bS (vw K rfl w rfl rfl) rfl T.Kx YL (pa1 (bA rfl qw (prg T.aK (pfl K (pv 0))) (λ_ _ _ _=>⟨(pgn 0 qw.nd),aZ,(pdf T.iq (mN T) hr (paF (pv 1) (paF (pv 2) (pa1 (pv 0)))))⟩)))) bT)))),?_⟩;apply bB T hg ?_;refine gJ K (n:=n) (β:=Nat) rfl (by omega) (λi=>((RS n).map (aQ n t e a)).take i) (λσ'=>∃y,σ'=[y,R? g,I? a]) rfl (λi _=>by rw[Sd];omega) ⟨_,rfl⟩ ?_ ?_
 .rintro i σ' H1 d' R R0 hi hs ⟨y,rfl⟩ hR a! ZZ;apply⟨g,n,e,a,i,t,rfl,hG.mono hs,gt,ha,hi,λH2 s2=>?_⟩;exact hR _ _ _ _ ⟨_,rfl⟩ s2 rfl (bE _ n i hi)
 intro dc H1 fc s1 h1;have g1:Gr K H1 dc (((RS n).map (aQ n t e a)).take n):=h1;rw[Sn (by simp)]at g1
 have ZW:∀x∈(RS n).map (aQ n t e a),x<n:=λx hx=>by
  obtain⟨b,hb,rfl⟩:=R9.mp hx;exact DM gt ha (RU.mp hb)
 apply Ge g1.at (λx hx=>by have:=ZW x hx;omega) λsa ks fs hks nd=>?_
 exists fs,(fL w sa ks),H1,sa,s2,h2,(fL w sa ks),H2;apply xW h2 λsd sl fd hp hs=>?_;k_put;have e1:sl=cls n t e a:=eF (kC (hp.nodup_iff.mpr nd) hs) iE λx=>by
  rw[hp.mem_iff,hks x,iJ gt ha,R9];exact⟨λ⟨b,hb,h⟩=>⟨b,RU.mp hb,h⟩,λ⟨b,hb,h⟩=>⟨b,RU.mpr hb,h⟩⟩
 rw[e1];exact q sd _ (d6.free fd) (d6.trans (ar fd _)) aj
def tK(F:AT):Z2:=F.map λk=>(nk k,V.bl true)
theorem wY:∀ {F:AT} {f:Nat},f∉F->bq (tK F) (nk f)=none
 | [],_,_=>rfl
 | a :: F,f,h=>by
  show bq ((nk a,V.bl true) :: tK F) (nk f)=none;rw[b7 (λz=>h (by rw[gj z];exact R4))]
  exact wY λz=>h (R3 _ z)
theorem DZ:∀ {F:AT} {f:Nat},f∈F->(bq (tK F) (nk f)).isSome=true
 | a :: F,f,h=>by
  by_cases c:a=f
  .subst c;show (bq ((nk a,V.bl true) :: tK F) (nk a)).isSome=true;rw[de rfl];rfl
  .show (bq ((nk a,V.bl true) :: tK F) (nk f)).isSome=true;rw[b7 (λz=>c (gj z))];rcases Sf.mp h with z|z
   .exact absurd z.symm c
   .exact DZ z
theorem PQ{f:Nat}:(bq (tK F) (nk f)).isSome=decide (f∈F):=by
 by_cases h:f∈F
 .rw[DZ h,decide_eq_true h]
 .rw[wY h,decide_eq_false h];rfl
theorem MG{f:Nat}(h:f∉F):putK (tK F) (nk f) (.bl true)=tK (F++[f]):=by
 rw[qi _ (wY h)];unfold tK;rw[SQ];rfl
theorem LB{d a:Addr}(h:Tbl H d L ps)(n1:a≠d)(n2:a∉ps):Tbl (del H a) d L ps :=
 ⟨by rw[bM n1.symm];exact h.top,h.nd,h.ap,h.len,λi p r e1 e2=>by rw[bM (λz:p=a=>n2 (by rw[<- z];exact RQ e1))];exact h.row i p r e1 e2⟩
theorem dA{a:Addr}:ag (del H a) H:=λb o z=>by
 by_cases c:b=a
 .subst c;unfold del at z;rw[if_pos rfl]at z;cases z
 .rw[bM c]at z;exact z
inductive EK(C:Addr)(vs:Z7)(H:Hp)(Q:VK)(E:XK):Prop
 | mk (g:Addr) (n e:Nat) (t:AC) (_:vs=[.ref g]) (_:aG C H g n t e) (_:GT n t e) (_:∀d H' ps,H d=none->(∀p∈ps,H p=none)->ag H H'->Tbl H' d (cC n t e n) ps->Q (.ref d) H')
theorem vg:Fa P w base T.ku 4 (EK T.aB):=by
 exists T.ku.ok gE
 obtain⟨g,n,e,t,rfl,hG,gt,q⟩:=h;obtain⟨dx,gr,gb,hg,hT,hB⟩:=hG.get (K:=K);have b!:=gt.le;refine⟨_,(aa (pz 1 gE.nd (bj bT))
   (aa (pz 2 gE.nd l6)
   (aa (pfo (prg T.aK (pfl K (pv 0))) (pgn 3 gE.nd) (ae (aU (md (qZ (cI hr) (pv 3) (pv 2))) (aa (pz 4 gE.nd (pdf T.kY (Cu T) hr (paF (pv 0) (pa1 (pv 3)))))
   (aa (a9 (pap K (pv 1) (pv 4)))
   (ae (pfo (pil K (pv 4)) (pgn 5 gE.nd) (ae (lG (cI hr) (pv 2) (pv 5) fX rfl)))))) aH)))
   (ae (az (pv 1)))))),?_⟩
 apply cH ?_;apply⟨sB,λdf K!=>?_⟩
 have s1:=ar K! (.lst []);have t1:Tbl (upd H df (.lst [])) df [] []:=Tbl.nil;generalize upd H df (.lst [])=H1 at s1 t1;apply rO λdw hdw=>?_;exists hdw,(.dK []),H1,dw,s2,w2,(.dK (tK [])),H2;have nwf:dw≠df:=(bC t1.top hdw).symm;have hdw0:H dw=none:=s1.free hdw;apply bB T ((s1.trans s2) _ _ hg) ?_;refine aX (n:=n) rfl (by omega) (λi σ' H'=>nA (ag H H') (λ(ps:ZL) (S:AT) (x3:ZQ) (x4:ZQ) (x5:ZQ)=>Tbl H' df (cC n t e i) ps) (λps S x3 x4 x5=>(∀p∈ps,H p=none)) (λps S x3 x4 x5=>dw∉ps) (λps S x3 x4 x5=>H' dw=some (.dK (tK S))) (λps S x3 x4 x5=>S=(cC n t e i).flatten) (λps S x3 x4 x5=>S.Nodup) (λps S x3 x4 x5=>σ'=[R? g,R? df,R? dw,x3,x4,x5])) ⟨s1.trans s2,[],[],_,_,_,t1.mono s2,(λp hp=>by cases hp),(λhp=>by cases hp),w2,rfl,VX,rfl⟩ ?_ ?_
 .rintro i σ' H3 hi ⟨s3,ps,S,x3,x4,x5,J!,hps,nwp,w3,hS,nd,rfl⟩;have seen:∀x,x∈S↔∃y,y<i/\x∈cls n t e y:=λx=>by rw[hS];exact Bl gt (by omega)
  have fs:=C5 (n:=n) (t:=t) (e:=e) i;have Sl:S.length<=n:=cx nd λx hx=>by obtain⟨y,_,h⟩:=(seen x).mp hx;exact lV h
  fin2;k_ne;apply rf ?_;apply um w3 ?_;rw[PQ];apply bW (λz=>?_) (λz=>?_)
  .have led:∀y,y<i->i∉cls n t e y:=λy hy h=>z ((seen i).mpr ⟨y,hy,h⟩);rw[if_pos led]at fs;have cL:cC n t e (i+1)=cC n t e i++[cls n t e i]:=by unfold cC;rw[fs,SQ];rfl
   apply⟨g,n,e,i,t,rfl,hG.mono s3,gt,hi,λdr H4 fdr s4 hr4=>?_⟩;have d!:=s3.trans s4;have nrf:dr≠df:=(bC J!.top fdr).symm;have nrw:dr≠dw:=(bC w3 fdr).symm;have nrp:dr∉ps:=λz=>by
    obtain⟨k,hk⟩:=Sk z;have g!:k<(cC n t e i).length:=by rw[<- J!.len];exact(RN.mp hk).1
    have:=J!.row k dr _ hk (RL g!);rw[fdr]at this;cases this
   have pl:ps.length<=23:=by
    rw[J!.len];unfold cC;rw[RP];exact SA (fI _ i) (by omega)
   have top4:=s4 _ _ J!.top;apply⟨.inl ⟨rfl,_,SqL.of top4⟩,?_⟩;apply⟨df,_,_,rfl,rfl,top4,Ti (show (ps.map V.ref).length<=1000 by rw[RP];omega) (by rw[SH];decide),?_⟩
   have tb5:=J!.snoc s4 hr4 nrp nrf;rw[<- cL]at tb5;have p!:ag H (upd H4 df (.lst (ps.map V.ref++[V.ref dr]))):=λb o y=>by rw[ak (au y K!)];exact d! _ _ y
   have w5:(upd H4 df (.lst (ps.map V.ref++[V.ref dr]))) dw=some (.dK (tK S)):=by rw[ak nwf];exact s4 _ _ w3
   have r5:(upd H4 df (.lst (ps.map V.ref++[V.ref dr]))) dr=some (.lst (aw (cls n t e i))):=by rw[ak nrf];exact hr4
   generalize upd H4 df (.lst (ps.map V.ref++[V.ref dr]))=H5 at tb5 p! w5 r5;have nwp5:dw∉ps++[dr]:=λy=>by
    rcases R5.mp y with y|y
    .exact nwp y
    .exact nrw (RX.mp y).symm
   have tbX:=LB tb5 nwf nwp5;have rX:(del H5 dw) dr=some (.lst (aw (cls n t e i))):=by rw[bM nrw];exact r5
   have sX:ag H (del H5 dw):=λb o y=>by rw[bM (au y hdw0)];exact p! _ _ y
   have nd1:∀x∈cls n t e i,x∉S:=λx hx z!=>by
    obtain⟨y,hy,h⟩:=(seen x).mp z!;exact led y hy (mV gt (by omega) h (sC gt hi hx))
   apply dQ (H₀:=del H5 dw) (α:=Nat) (bu rX) (λj σ' H'=>uX (ag (del H5 dw) H') (λ(x5:ZQ)=>H' dw=some (.dK (tK (S++(cls n t e i).take j)))) (λx5=>σ'=[R? g,R? df,R? dw,I? i,R? dr,x5])) ⟨dA,_,by simpa using w5,rfl⟩ (λi σ' H' z=>z.1) ?_ ?_
   .rintro j c w' σ' H6 hc hw ⟨s6,x5,w6,rfl⟩;k_sub;have hcm:=RQ hc;have jl:=(RN.mp hc).1;have cnt:c∉S++(cls n t e i).take j:=λy=>by
     rcases R5.mp y with y|y
     .exact nd1 c hcm y
     .obtain⟨k,hk⟩:=Sk y;have kj:k<j:=by
       have:=(RN.mp hk).1;rw[Sd]at this;omega
      rw[Th kj]at hk;obtain⟨k1,k2⟩:=RN.mp hk;obtain⟨c1,c2⟩:=RN.mp hc;have:=SX.mp (iE (n:=n) (t:=t) (e:=e) (a:=i)) k j k1 c1 kj;omega
    have cl:(cls n t e i).length<=n:=cx (aA iE) λx hx=>lV hx;apply lM ?_;apply oE w6 (by unfold tK;rw[RP,R8,Sd];omega) ?_
    rw[MG cnt];w_up
    refine⟨λb o y=>?_,_,?_,rfl⟩
    .have nb:b≠dw:=λy'=>by rw[y']at y;unfold del at y;rw[if_pos rfl]at y;cases y
     rw[ak nb];exact s6 _ _ y
    .rw[aj,Vf];have:(cls n t e i).take (j+1)=(cls n t e i).take j++[c]:=by rw[Sw,hc];rfl
     rw[this]
   .rintro σ' H6 ⟨s6,x5,w6,rfl⟩;rw[SV]at w6;apply⟨sX.trans s6,ps++[dr],S++cls n t e i,_,_,_,tbX.mono s6,λp hp=>?_,nwp5,w6,?_,?_,rfl⟩
    .rcases R5.mp hp with y|y
     .exact hps p y
     .rw[RX.mp y];exact s3.free fdr
    .rw[cL,U0,hS];simp
    .refine Vh.mpr ⟨nd,aA iE,λx hx y hy q=>?_⟩;subst q;exact nd1 x hy hx
  .have nled:¬ ∀y,y<i->i∉cls n t e y:=λl=>by
    obtain⟨y,hy,h⟩:=(seen i).mp z;exact l y hy h
   rw[if_neg nled]at fs;have cL:cC n t e (i+1)=cC n t e i:=by unfold cC;rw[fs]
   fin2;exact⟨s3,ps,S,_,_,_,by rw[cL];exact J!,hps,nwp,w3,by rw[cL];exact hS,nd,rfl⟩
 .rintro σ' H3 ⟨s3,ps,S,x3,x4,x5,J!,hps,nwp,w3,hS,nd,rfl⟩;fin2;exact q df H3 ps K! hps s3 J!
end
def Rx(H:Hp)(x:V):Option (Nat×Nat)->Prop
 | none=>x=.non
 | some (a,b)=>∃p,x=.ref p/\H p=some (.tup [.int a,.int b])
inductive Jg(C:Addr)(K:RM)(vs:Z7)(H:Hp)(Q:VK)(E:XK):Prop
 | mk (g:Addr) (v:V) (n e:Nat) (t:AC) (R:AT) (_:vs=[.ref g,v]) (_:aG C H g n t e) (_:GT n t e) (_:At K H v R) (_:IsPart n t R) (_:∀d H' L ps,H d=none->(∀p∈ps,H p=none)->ag H H'->Tbl H' d L ps->zW n t e R L->Q (.ref d) H')
inductive JX(C:Addr)(K:RM)(vs:Z7)(H:Hp)(Q:VK)(E:XK):Prop
 | mk (g:Addr) (v:V) (n e:Nat) (t:AC) (R:AT) (_:vs=[.ref g,v]) (_:aG C H g n t e) (_:GT n t e) (_:At K H v R) (_:IsPart n t R) (_:∀d H' M,H d=none->ag H H'->Gr K H' d M->Gen n t e (fq n t e R) M->Q (.ref d) H')
inductive Es(C:Addr)(K:RM)(vs:Z7)(H:Hp)(Q:VK)(E:XK):Prop
 | mk (g:Addr) (v:V) (n e:Nat) (t:AC) (S:AT) (_:vs=[.ref g,v]) (_:aG C H g n t e) (_:GT n t e) (_:At K H v S) (_:(∀s∈S,s<n)) (_:S.length<=63) (_:∀p dp dw H' R W pw,H dp=none->H dw=none->(∀q∈pw,H q=none)->dp≠dw->dp∉pw->ag H H'->H' p=some (.tup [.ref dp,.ref dw])->H' dp=some (.lst (aw R))->Tbl H' dw W pw->Gen n t e S R->Words n t e S R W->Q (.ref p) H')
section
variable {P:Sj}{w:World} 
theorem IsPart.gZ(h:IsPart n t R)(g:GT n t e):R.length<=23:=SA h.len g.le
inductive yZ(C:Addr)(K:RM)(vs:Z7)(H:Hp)(Q:VK)(E:XK):Prop
 | mk (g:Addr) (v:V) (n e:Nat) (t:AC) (R:AT) (_:vs=[.ref g,v]) (_:aG C H g n t e) (_:GT n t e) (_:At K H v R) (_:(∀x∈R,x<n)) (_:R.length<=64) (_:∀H',ag H H'->Q (.bl true) H')
theorem zF:Fa P w base T.jo 1 (yZ T.aB K):=by
 exists T.jo.ok yS
 obtain⟨g,v,n,e,t,R,rfl,hG,gt,hR,ZW,hlen,q⟩:=h;obtain⟨dx,r,bk,hg,hT,hB⟩:=hG.get (K:=K);refine⟨_,(ae (az (cO (xI K rfl rfl) rfl T.K9 YM (pa1 (bA rfl mO (pil K (pv 1)) (λ_ _ _ _=>⟨(pgn 0 mO.nd),aZ,(vM (iH zL (pv 0) ai (iT _)) (B6 (iH nh (pv 0) (pfl K (pv 1)) (iT _))))⟩)))))),?_⟩;symm;refine jy (β:=Bool) hR (by omega) (λi=>RZ i true) (λσ'=>∃y,σ'=[y,R? g]) rfl (λi hi=>by simp) ⟨_,rfl⟩ ?_ ?_
 .walk_at "125";have hg3:=hs _ _ hg;have c1:=ZW c (RQ hc);symm;refine aW (λ_=>?_) (λz=>absurd (SO _) z);symm;rw[decide_eq_true c1];exact J' _ _ true _ ⟨_,rfl⟩ (ag.refl _) rfl Vc
 intro d2 H3 s3 h3;symm;refine G2 h3 ?_;rw[show (RZ R.length true).all id=true by simp]
 exact q H3 s3
inductive Jp(K:RM)(vs:Z7)(H:Hp)(Q:VK)(E:XK):Prop
 | mk (v:V) (R:AT) (_:vs=[v]) (_:At K H v R) (_:R≠[]) (_:R.Pairwise (· < ·)) (_:R.length<=64) (_:∀H',ag H H'->Q (.bl true) H')
theorem Jj:Fa P w base T.sG 1 (Jp K):=by
 exists T.sG.ok Ju
 obtain⟨v,R,rfl,hR,ne,srt,hlen,q⟩:=h;have l0:0<R.length:=Sr.mpr ne;refine⟨_,(ae (az (cO (xI K rfl rfl) rfl T.K9 YM (pa1 (bA rfl u6 (prg T.aK (ao gA (pln K T.bz (pv 0)) ai)) (λ_ _ _ _=>⟨(pgn 0 u6.nd),aZ,(iH nh (pxl K (pv 1) (pv 0)) (pxl K (pv 1) (ao aT (pv 0) ai)) (iT _))⟩)))))),?_⟩;symm;refine ka K (n:=R.length - 1) (β:=Bool) (by omega) (by omega) (λi=>RZ i true) (λσ'=>∃y,σ'=[y,some v]) rfl (λi hi=>by simp) ⟨_,rfl⟩ ?_ ?_
 .rintro i σ' H3 d' R' R0 hi hs ⟨y,rfl⟩ J' a! ZZ;have hR3:=Rep.mono hs hR;symm;refine bw hR3 (RL (by omega)) ?_
  symm;refine bw hR3 (RL (by omega)) ?_
  symm;rw[decide_eq_true ((SX.mp srt) i (i+1) (by omega) (by omega) (by omega))]
  exact J' _ _ true _ ⟨_,rfl⟩ (ag.refl _) rfl Vc
 intro d2 H3 s3 h3;symm;refine G2 h3 ?_;rw[show (RZ (R.length - 1) true).all id=true by simp]
 exact q H3 s3
inductive sQ(C:Addr)(K:RM)(vs:Z7)(H:Hp)(Q:VK)(E:XK):Prop
 | mk (g:Addr) (v:V) (n e:Nat) (t:AC) (R:AT) (_:vs=[.ref g,v]) (_:aG C H g n t e) (_:GT n t e) (_:At K H v R) (_:IsPart n t R) (_:Q (.bl true) H)
theorem sT:Fa P w base T.fD 1 (sQ T.aB K):=by
 exists T.fD.ok gK
 obtain⟨g,v,n,e,t,R,rfl,hG,gt,hR,pt,q⟩:=h;obtain⟨dx,r,bk,hg,hT,hB⟩:=hG.get (K:=K);refine⟨_,(aa (pfo (pil K (pv 1)) (pgn 2 gK.nd) (ae (pfo (pil K (pv 1)) (pgn 3 gK.nd) (ae (aU (oi (mX K rfl) (pxl K (pxl K (pfl K (pv 0)) (pv 2)) (pv 3)) (pv 1) (by with_unfolding_all rfl)) (ae (az fX)) aH)))))
   (ae (az fX))),?_⟩
 symm;refine eA hR (λi σ H'=>Ak (H'=H) (λx y=>σ=[R? g,some v,x,y])) ⟨rfl,_,_,rfl⟩ (λi σ H' h=>by rw[h.1];exact ag.refl _) ?_ ?_
 .rintro i a w' σ' H' ha hw ⟨rfl,x,y,rfl⟩;cases(show w'=V.int a from hw);have haR:=RQ ha;symm;refine eA hR (λi σ V'=>jW (V'=H') (λy=>σ=[R? g,some v,I? a,y])) ⟨rfl,_,rfl⟩ (λi σ H' h=>by rw[h.1];exact ag.refl _) ?_ ?_
  .rintro j b w2 σ' V' hb S! ⟨rfl,y,rfl⟩;cases(show w2=V.int b from S!);have hbR:=RQ hb;symm;k_ne;symm;refine b6 hT rfl (gt.get (pt.lt a haR)) λw1 U'=>?_;symm;refine bw U' (gt.c8 (pt.lt a haR) (pt.lt b hbR)) ?_;symm;refine bW (λz=>absurd (pt.cl a haR b hbR) z) (λ_=>?_);symm;exact⟨rfl,_,rfl⟩
  .rintro σ' V' ⟨rfl,y,rfl⟩;w_up
   exact⟨rfl,_,_,rfl⟩
 .rintro σ' H' ⟨rfl,x,y,rfl⟩;symm;exact q
inductive Fd(C:Addr)(K:RM)(vs:Z7)(H:Hp)(Q:VK)(E:XK):Prop
 | mk (g:Addr) (v:V) (n e:Nat) (t:AC) (R:AT) (_:vs=[.ref g,v]) (_:aG C H g n t e) (_:GT n t e) (_:At K H v R) (_:IsPart n t R) (_:∀H',ag H H'->Q (.bl true) H')
theorem EC:Fa P w base T.mI 2 (Fd T.aB K):=by
 exists T.mI.ok F1
 obtain⟨g,v,n,e,t,R,rfl,hG,gt,hR,pt,q⟩:=h;have l0:0<R.length:=Sr.mpr pt.ne;have l23:=pt.gZ gt;refine⟨_,(ae (az (vM (iH jP (pln K T.bz (pv 1)) ai (iT _)) (vM (pdf T.jo (zF T) hr (paF (pv 0) (pa1 (pv 1)))) (vM (pdf T.sG (Jj T) hr (pa1 (pv 1))) (B6 (pdf T.fD (sT T) hr (paF (pv 0) (pa1 (pv 1)))))))))),?_⟩;symm;refine aW (λ_=>?_) (λz=>absurd l0 z);symm;refine⟨g,v,n,e,t,R,rfl,hG,gt,hR,pt.lt,by omega,λH1 s1=>?_⟩
 symm;refine⟨v,R,rfl,Rep.mono s1 hR,pt.ne,pt.srt,by omega,λH2 s2=>?_⟩
 symm;k_put;exact⟨g,v,n,e,t,R,rfl,hG.mono d6,gt,Rep.mono d6 hR,pt,q H2 d6⟩
inductive zx(C:Addr)(K:RM)(vs:Z7)(H:Hp)(Q:VK)(E:XK):Prop
 | mk (g:Addr) (v:V) (n e:Nat) (t:AC) (R:AT) (_:vs=[.ref g,v]) (_:aG C H g n t e) (_:GT n t e) (_:At K H v R) (_:IsPart n t R) (_:∀H',ag H H'->Q .non H')
theorem gX:Fa P w base T.dX 3 (zx T.aB K):=by
 exists T.dX.ok zu
 obtain⟨g,v,n,e,t,R,rfl,hG,gt,hR,pt,q⟩:=h;refine⟨_,(ae (aU (A9 (lS (pdf T.mI (EC T) hr (paF (pv 0) (pa1 (pv 1)))))) (ae cZ) aH)),?_⟩;symm;k_ne;symm;refine⟨g,v,n,e,t,R,rfl,hG,gt,hR,pt,λH1 s1=>?_⟩;symm;refine gn ?_;symm;exact q H1 s1
inductive Eo(C:Addr)(K:RM)(vs:Z7)(H:Hp)(Q:VK)(E:XK):Prop
 | mk (g:Addr) (v:V) (n e x:Nat) (t:AC) (R:AT) (_:vs=[.ref g,v,.int x]) (_:aG C H g n t e) (_:GT n t e) (_:At K H v R) (_:IsPart n t R) (_:x<n) (_:∀d H' s,H d=none->ag H H'->Gr K H' d s->s.Pairwise (· < ·)->(∀y,y∈s↔∃k,k∈R/\tb t x k=y)->Q (.ref d) H')
theorem Eu:Fa P w base T.mP 1 (Eo T.aB K):=by
 exists T.mP.ok EA
 obtain⟨g,v,n,e,x,t,R,rfl,hG,gt,hR,pt,hx,q⟩:=h;obtain⟨dx,r,bk,hg,hT,hB⟩:=hG.get (K:=K);have l23:=pt.gZ gt;refine⟨_,(ae (az (cO (sf K rfl) rfl T.gg T1 (pa1 (bA rfl qJ (pil K (pv 1)) (λ_ _ _ _=>⟨(pgn 0 qJ.nd),aZ,(pxl K (pxl K (pfl K (pv 1)) (pv 2)) (pv 0))⟩)))))),?_⟩;symm;refine jy (β:=Nat) hR (by omega) (λi=>(R.map λk=>tb t x k).take i) (λσ'=>∃y,σ'=[y,R? g,I? x]) rfl (λi hi=>by rw[Sd];omega) ⟨_,rfl⟩ ?_ ?_
 .walk_at "125";have hg3:=hs _ _ hg;have hT3:=Rep.mono hs hT;have c1:=pt.lt c (RQ hc);symm;refine b6 hT3 rfl (gt.get hx) λw1 U'=>?_;symm;refine bw U' (gt.c8 hx c1) ?_;refine J' _ _ (tb t x c) _ ⟨_,rfl⟩ (ag.refl _) rfl ?_;rw[Sw,RY,hc];rfl
 intro d2 H3 s3 h3;have h3':At K H3 (.ref d2) (R.map λk=>tb t x k):=by
  have z:At K H3 (.ref d2) ((R.map λk=>tb t x k).take R.length):=h3;rw[Sn (by simp)]at z
  exact z
 apply BL h3' (by rw[RP];omega) λd l' H4 hd s4 hpm hsr g4=>?_
 have nd:(R.map λk=>tb t x k).Nodup:=by
  have z:=aA pt.srt;unfold Zl at z ⊢;rw[Vi];exact z.imp_of_mem λha hb B' c=>B' (gt.cK hx (pt.lt _ ha) (pt.lt _ hb) c)
 refine q d H4 l' (s3.free hd) (s3.trans s4) g4 (kC (hpm.nodup_iff.mpr nd) hsr) λy=>?_;rw[hpm.mem_iff,R9]
theorem Iv:Fa P w base T.sE 4 (Jg T.aB K):=by
 exists T.sE.ok AO
 obtain⟨g,v,n,e,t,R,rfl,hG,gt,hR,pt,q⟩:=h;have b!:=gt.le;refine⟨_,(aa (a9 (pdf T.dX (gX T) hr (paF (pv 0) (pa1 (pv 1)))))
   (aa (cF (i:=2) rfl AO.nd rfl (VW rfl) vA (prg T.aK (pfl K (pv 0))) (λ_ _ _ _=>⟨(pgn 0 vA.nd),aZ,(pdf T.mP (Eu T) hr (paF (pv 1) (paF (pv 2) (pa1 (pv 0)))))⟩) rfl)
   (ae (az (bA rfl vB (iy K rfl rfl T.eM (pa1 (pv 2))) (λ_ _ _ _=>⟨(BJ K rfl (i:=0) (j:=1) rfl vB.nd rfl (VW rfl) rfl (VW rfl)),(DP (pcm cz (pxl K (pv 1) ai) (pv 0))),(pv 1)⟩)))))),?_⟩
 symm;refine⟨g,v,n,e,t,R,rfl,hG,gt,hR,pt,λH1 s1=>?_⟩;have hG1:=hG.mono s1;have hR1:=Rep.mono s1 hR;obtain⟨dx,r,bk,hg,hT,hB⟩:=hG1.get (K:=K);symm;refine FJ (n:=n) rfl (by omega) (λd i σ' H' ys=>so (ag H1 H') (λ(L:AC) (ps:ZL) (y:ZQ)=>Tbl H' d L ps) (λL ps y=>ys=ps.map V.ref) (λL ps y=>ps.length=i) (λL ps y=>(∀p∈ps,H1 p=none)) (λL ps y=>(∀ (j:Nat) (s:AT),L[j]?=some s->s.Pairwise (· < ·)/\∀y,y∈s↔∃k,k∈R/\tb t j k=y)) (λL ps y=>σ'=[y,R? g,some v]))
  (λd i σ' H' ys hi ⟨_,L,ps,y,_,e1,e2,_,_,_⟩=>by rw[e1,RP,e2];exact R6 _) (λd hd=>⟨ar hd _,[],[],_,Tbl.nil,rfl,rfl,by simp,by simp,rfl⟩) ?_ ?_
 .rintro d i σ' H' ys R' R0 hd hi ⟨s2,L,ps,y,D!,rfl,hl,F!,hL,rfl⟩ h! J' a!;symm;refine⟨g,v,n,e,i,t,R,rfl,hG1.mono s2,gt,Rep.mono s2 hR1,pt,hi,λp H3 sd fp s3 g3 srt hm=>?_⟩;have hp:=eI g3;have hdl:H3 d=some (.lst (ps.map V.ref)):=s3 _ _ D!.top;have hpd:p≠d:=λc=>by rw[c,D!.top]at fp;cases fp
  refine J' _ _ _ hdl ⟨λb o z=>?_,L++[sd],ps++[p],I? i,D!.snoc s3 hp (λc=>?_) hpd,by rw[SQ];rfl,by rw[R8,hl];rfl,λq' hq'=>?_,λj s' hj=>?_,rfl⟩
  .rw[ak (au z hd)];exact s3 _ _ (s2 _ _ z)
  .obtain⟨j,hj⟩:=Sk c;have:=D!.row j p _ hj (RL (by rw[<- D!.len];exact(RN.mp hj).1))
   rw[fp]at this;cases this
  .rcases R5.mp hq' with z|z
   .exact F! q' z
   .rw[RX.mp z];exact s2.free fp
  .have e1:L.length=i:=by rw[<- D!.len];exact hl
   rcases Sb j L.length with z|z
   .rw[Sz z]at hj;exact hL j s' hj
   .rw[SE z]at hj;have j0:j - L.length=0:=by
     rcases Tc (j - L.length) with c|c
     .exact c
     .rw[Sm (by simp;omega)]at hj;cases hj
    rw[j0]at hj;cases hj;have:j=i:=by omega
    rw[this];exact⟨srt,hm⟩
 rintro d1 σ1 H2 ys fd1 hd1 ⟨s2,L,ps,y,D!,rfl,hl,F!,hL,rfl⟩;k_put;have lL:L.length=n:=by rw[<- D!.len];exact hl
 symm;refine HE (xs:=ps.map V.ref) (by rw[RP];omega) (λd i σ' H' ys=>zp (ag H2 H') (λ(L':AC) (w!:ZL) (y:ZQ) (z:ZQ)=>Tbl H' d L' w!) (λL' w! y z=>ys=w!.map V.ref) (λL' w! y z=>w!.length<=i) (λL' w! y z=>(∀p∈w!,p∈ps.take i)) (λL' w! y z=>dI n t e R L' i) (λL' w! y z=>σ'=[y,z]))
  (λd i σ' H' ys z=>SqL.of (z.1 _ _ D!.top)) (SqL.of D!.top) (λd i σ' H' ys hi ⟨_,L',w!,y,z,_,e1,e2,_,_,_⟩=>by rw[e1,RP];exact e2)
  (λd hd=>⟨ar hd _,[],[],_,_,Tbl.nil,rfl,SO _,by simp,dI.nil,rfl⟩) ?_ ?_
 .rintro d i x σ' H3 H4 ys R' R0 hd hx ⟨s3,L',w!,y,z,J!,rfl,hl',hps',st,rfl⟩ h! s4 J' a!;rw[RY]at hx;obtain⟨p,hp,rfl⟩:=Tv.mp hx;have hi:i<n:=by rw[<- hl];exact(RN.mp hp).1
  obtain⟨sd,hsd⟩:∃sd,L[i]?=some sd:=⟨L[i],RL (by omega)⟩
  obtain⟨srt,hm⟩:=hL i sd hsd;obtain⟨k1,k2,k3⟩:=st.step gt pt hi srt hm;have hp4:H4 p=some (.lst (aw sd)):=s4 _ _ (s3 _ _ (D!.row i p sd hp hsd));have ap4:At K H4 (.ref p) sd:=bu hp4;have l0:0<sd.length:=Sr.mpr (UN k1);symm;refine bw ap4 (getD_some 0 l0) ?_;symm;have L!:∀q∈w!,q∈ps.take (i+1):=λq hq=>by
   rw[Sw];exact Tx _ (hps' q hq)
  l_fit
  .symm;have hn:p∉w!:=λc=>by
    have z1:=hps' p c;obtain⟨j,hj⟩:=Sk z1;have hj1:j<i:=by
     have:=(RN.mp hj).1;rw[Sd]at this;omega
    rw[Th hj1]at hj;obtain⟨i1,e1⟩:=(RN.mp hj);obtain⟨i2,e2⟩:=(RN.mp hp);exact(SX.mp D!.nd) j i i1 i2 hj1 (e1.trans e2.symm)
   have hpd:p≠d:=λc=>by
    have:=D!.row i p sd hp hsd;rw[c,hd]at this;cases this
   refine J' _ _ _ (s4 _ _ h!) ⟨λb o zz=>?_,L'++[sd],w!++[p],_,_,J!.snoc s4 hp4 hn hpd,by rw[SQ];rfl,by rw[R8];show _+1<=_;omega,λq' hq'=>?_,st.new gt pt hi (k2 c) srt hm,rfl⟩
   .rw[ak (au zz hd)];exact s4 _ _ (s3 _ _ zz)
   .rcases R5.mp hq' with z|z
    .exact L! q' z
    .rw[RX.mp z,Sw,hp];simp
  .refine a! _ _ (s4 _ _ h!) ⟨s3.trans s4,L',w!,_,_,J!.mono s4,rfl,by omega,L!,st.old (k3 c),rfl⟩
 rintro d2 σ2 H3 ys fd2 hd2 ⟨s3,L',w!,y,z,J!,rfl,hl',hps',st,rfl⟩;rw[RP,hl]at st;symm;exact q d2 H3 L' w! (d6.free fd2) (λp hp=>s1.free (F! p (VU (hps' p hp)))) (d6.trans s3) J! st.fin
inductive E4(C:Addr)(K:RM)(vs:Z7)(H:Hp)(Q:VK)(E:XK):Prop
 | mk (g:Addr) (v:V) (n e b:Nat) (t:AC) (R:AT) (_:vs=[.ref g,v,.int b]) (_:aG C H g n t e) (_:GT n t e) (_:At K H v R) (_:IsPart n t R) (_:b<n) (_:∀H' o,ag H H'->KP n t e R b o->Q (Q8 o) H')
theorem Fy:Fa P w base T.mW 3 (E4 T.aB K):=by
 exists T.mW.ok vx
 obtain⟨g,v,n,e,b,t,R,rfl,hG,gt,hR,pt,hb,q⟩:=h;refine⟨_,(aa (pfo (pil K (pv 1)) (pgn 3 vx.nd) (ae (aU (oi (mX K rfl) (pdf T.iq (mN T) hr (paF (pv 0) (paF (pv 3) (pa1 (pv 2))))) (pv 1) (by with_unfolding_all rfl)) (ae (az (pv 3))) aH)))
   (ae (az Cb))),?_⟩
 symm;refine eA hR (λi σ H'=>gv (ag H H') ((∀h∈R.take i,aQ n t e h b∈R)) (λx=>σ=[R? g,some v,I? b,x])) ⟨ag.refl _,by simp,_,rfl⟩ (λi σ H' h=>h.1) ?_ ?_
 .rintro i a w' σ' H' ha hw ⟨s1,hf,x,rfl⟩;cases(show w'=V.int a from hw);have haR:=RQ ha;have hR1:=Rep.mono s1 hR;symm;k_ne;symm;refine⟨g,n,e,a,b,t,rfl,hG.mono s1,gt,pt.lt a haR,hb,λH2 s2=>?_⟩;have hR2:=Rep.mono s2 hR1;symm;refine bW (λz=>?_) (λz=>?_)
  .symm;refine q H2 (some a) (s1.trans s2) ⟨haR,z,λh' x! ZW=>hf h' ?_⟩;obtain⟨j,hj⟩:=Sk x!;obtain⟨i1,e1⟩:=RN.mp ha;obtain⟨i2,e2⟩:=RN.mp hj;have hji:j<i:=by
    rcases TN j i with c|c|c
    .exact c
    .subst c;omega
    .have:=(SX.mp pt.srt) i j i1 i2 c;omega
   exact RQ (i:=j) (by rw[Th hji];exact hj)
  .symm;refine⟨s1.trans s2,λh hh=>?_,_,rfl⟩;rw[Sw,ha]at hh;rcases R5.mp hh with c|c
   .exact hf h c
   .rw[RX.mp c];exact z
 .rintro σ' H' ⟨s1,hf,x,rfl⟩;rw[SV]at hf;symm;exact q H' none s1 hf
structure CW(H:Hp)(dw a:Addr)(F:AT)(W:AC)(ps:ZL):Prop where
 top:H dw=some (.dK (dJ F ps))
 lst:H a=some (.lst (aw F))
 l1:ps.length=F.length
 l2:W.length=F.length
 nd:ps.Nodup
 ap:a∉ps
 row:∀ (i:Nat) (p:Addr) (w:AT),ps[i]?=some p->W[i]?=some w->H p=some (.lst (aw w))
theorem CW.mono{dw a:Addr}{W:AC}(s:ag H H')(c:CW H dw a F W ps):CW H' dw a F W ps :=
 ⟨s _ _ c.top,s _ _ c.lst,c.l1,c.l2,c.nd,c.ap,λi p w e1 e2=>s _ _ (c.row i p w e1 e2)⟩
theorem fH{α:Type}{l:List α}{x y:α}(h:(l++[x])[i]?=some y):(i<l.length/\l[i]?=some y)\/(i=l.length/\x=y):=by
 rcases Sb i l.length with z|z
 .rw[Sz z]at h;exact .inl ⟨z,h⟩
 .rw[SE z]at h;rcases Tc (i - l.length) with c|c
  .rw[c]at h;exact .inr ⟨by omega,SI h⟩
  .rw[Sm (by simp;omega)]at h;cases h
theorem CW.put{H2:Hp}{dw a:Addr}{W:AC}{f:Nat}{w:AT}(c:CW H dw a F W ps)(hq:H q=some (.lst (aw w)))(hn:q∉ps)(hqa:q≠a)(h1:H2 dw=some (.dK (dJ (F++[f]) (ps++[q]))))(h2:H2 a=some (.lst (aw (F++[f]))))
  (k:∀b o,b≠a->b≠dw->H b=some o->H2 b=some o):CW H2 dw a (F++[f]) (W++[w]) (ps++[q]):=by
 have e1:=c.l1;have e2:=c.l2;refine⟨h1,h2,by simp[e1],by simp[e2],sM c.nd hn,λz=>?_,λi p w' g1 g2=>?_⟩
 .rcases R5.mp z with z|z
  .exact c.ap z
  .exact hqa (RX.mp z).symm
 .rcases fH g1 with ⟨i1,g1'⟩|⟨i1,g1'⟩
  .rcases fH g2 with ⟨i2,g2'⟩|⟨i2,g2'⟩
   .have r:=c.row i p w' g1' g2';exact k p _ (λz=>c.ap (z ▸ RQ g1')) (λz=>by rw[z,c.top]at r;cases r) r
   .exact absurd i1 (by omega)
  .rcases fH g2 with ⟨i2,g2'⟩|⟨i2,g2'⟩
   .exact absurd i2 (by omega)
   .subst g1' g2';exact k q _ hqa (λz=>by rw[z,c.top]at hq;cases hq) hq
theorem oX:Fa P w base T.iP 1 (Es T.aB K):=by
 exists T.iP.ok eD
 obtain⟨g,v,n,e,t,S,rfl,hG,gt,hS,ZW,hsl,q⟩:=h;have b!:=gt.le;obtain⟨dx,r,bk,hg,hT,hB⟩:=hG.get (K:=K);refine⟨_,(aa (pz 2 eD.nd (LI (JW (pfl K (pv 0)) (bj bT) Mu) rfl rfl (by simp) (by decide)))
   (aa (pz 3 eD.nd (bj (pa1 (pfl K (pv 0)))))
   (aa (pz 4 eD.nd ai)
   (aa (fB Ut (pcm nh (pv 4) (pln K T.bz (pv 3))) (aa (pfo (pil K (pv 1)) (pgn 5 eD.nd) (aa (pz 6 eD.nd (pxl K (pxl K (pfl K (pv 0)) (pxl K (pv 3) (pv 4))) (pv 5)))
   (ae (aU (md (qZ (cI hr) (pv 6) (pv 2))) (aa (lG (cI hr) (pv 2) (pv 6) (ao oJ (dC (cI hr) (pv 2) (pxl K (pv 3) (pv 4)) (λ_ _=>rfl)) (bj (pa1 (pv 5)))) rfl)
   (ae (a9 (pap K (pv 3) (pv 6))))) aH))))
   (ae (pz 4 eD.nd (ao aT (pv 4) ai)))))
   (aa (pz 7 eD.nd (cO (sf K rfl) rfl T.gg T1 (pa1 (pv 3))))
   (ae (az (i8 (paF (pv 7) (pa1 (bA rfl qI (pil K (pv 7)) (λ_ _ _ _=>⟨(pgn 0 qI.nd),aZ,(dC (cI hr) (pv 1) (pv 0) (λ_ _=>rfl))⟩)))))))))))),?_⟩
 symm;refine L5 (λdw fdw=>?_);have hg1:=ar fdw (.dK []) _ _ hg;symm;refine cH ?_;symm;refine⟨sB,λp0 hp0=>?_⟩
 have p0d:p0≠dw:=λz=>by rw[z,aj]at hp0;cases hp0
 have fp0:H p0=none:=by rw[ak p0d]at hp0;exact hp0
 refine⟨by rw[ak p0d.symm];exact aj,[(nk e,.ref p0)],rfl,(by show 1<=15;decide),?_⟩
 have s2:ag H (upd (upd (upd H dw (.dK [])) p0 (.lst [])) dw (.dK (gR [] [(nk e,.ref p0)]))):=λb o z=>by
  rw[ak (au z fdw),ak (au z fp0),ak (au z fdw)];exact z
 have hdw:(upd (upd (upd H dw (.dK [])) p0 (.lst [])) dw (.dK (gR [] [(nk e,.ref p0)]))) dw=some (.dK (dJ [e] [p0])):=aj;have hp0':(upd (upd (upd H dw (.dK [])) p0 (.lst [])) dw (.dK (gR [] [(nk e,.ref p0)]))) p0=some (.lst (aw [])):=by
  rw[ak p0d];exact aj
 generalize upd (upd (upd H dw (.dK [])) p0 (.lst [])) dw (.dK (gR [] [(nk e,.ref p0)]))=H2 at s2 hdw hp0';have hg2:=s2 _ _ hg;symm;refine cH ?_;symm;refine⟨sK,λa ha=>?_⟩
 have fa:H a=none:=s2.free ha;have had:a≠dw:=λz=>by rw[z,hdw]at ha;cases ha
 have hap:a≠p0:=λz=>by rw[z,hp0']at ha;cases ha
 have c0:CW (upd H2 a (.lst [.int e])) dw a [e] [[]] [p0]:=by
  refine⟨by rw[ak had.symm];exact hdw,aj,rfl,rfl,by simp,by simpa using hap,λi p w g1 g2=>?_⟩
  rcases fH (l:=[]) g1 with ⟨z,_⟩|⟨z,g1'⟩
  .exact absurd z (by simp)
  .rcases fH (l:=[]) g2 with ⟨z,_⟩|⟨z,g2'⟩
   .exact absurd z (by simp)
   .subst g1' g2';rw[ak hap.symm];exact hp0'
 have s3:ag H (upd H2 a (.lst [.int e])):=s2.trans (ar ha _);symm;refine fJ (λm σ' H'=>uh (ag H H') (λ(F:AT) (W:AC) (ps:ZL) (k:Nat) (x:ZQ) (y:ZQ) (z:ZQ)=>m=n - k) (λF W ps k x y z=>CW H' dw a F W ps) (λF W ps k x y z=>jI n t e S F k) (λF W ps k x y z=>jt t e S F W) (λF W ps k x y z=>(∀p∈ps,H p=none)) (λF W ps k x y z=>σ'=[R? g,some v,R? dw,R? a,I? k,x,y,z])) (n - 0)
  ⟨s3,[e],[[]],[p0],0,none,none,none,rfl,c0,⟨by simp,λx hx=>by rw[RX.mp hx];exact gt.elt,by simp,SO _,λi _ hi=>absurd hi (by omega),λx hx=>⟨[],by simp,(RX.mp hx).symm⟩⟩,jt.one,λp hp=>by rw[RX.mp hp];exact fp0,rfl⟩ ?_
 rintro m σ' H3 ⟨s3,F,W,ps,k,x,y,z,rfl,cw,gr,gw,F!,rfl⟩;have aF:At K H3 (.ref a) F:=bu cw.lst;have fl:=gr.len;symm;l_fit
 .obtain⟨b0,hb0⟩:∃b0,F[k]?=some b0:=⟨F[k],RL c⟩;have hbF:b0∈F:=RQ hb0;have hbn:=gr.lt b0 hbF;refine⟨λσ4 H4=>ag H H4/\∃ (F4:AT) (W4:AC) (G!:ZL) (x y z:ZQ),CW H4 dw a F4 W4 G!/\jI n t e S F4 (k+1)/\jt t e S F4 W4/\(∀p∈G!,H p=none)/\σ4=[R? g,some v,R? dw,R? a,I? ((k+1:Nat):Int),x,y,z],λσ4 H4 z=>?_,?_⟩
  .obtain⟨z1,F4,W4,G!,x4,y4,z4,z2,z3,z5,z6,z7⟩:=z;have:=z3.le;have:=z3.len;exact⟨n - (k+1),by omega,z1,F4,W4,G!,k+1,x4,y4,z4,rfl,z2,z3,z5,z6,z7⟩
  symm;refine dQ (H₀:=H) hS (λj σ4 H4=>nA (ag H H4) (λ(F4:AT) (W4:AC) (G!:ZL) (x:ZQ) (y:ZQ)=>CW H4 dw a F4 W4 G!) (λF4 W4 G! x y=>jI n t e S F4 k) (λF4 W4 G! x y=>jt t e S F4 W4) (λF4 W4 G! x y=>(∀p∈G!,H p=none)) (λF4 W4 G! x y=>F4[k]?=some b0) (λF4 W4 G! x y=>(∀s∈S.take j,tb t b0 s∈F4)) (λF4 W4 G! x y=>σ4=[R? g,some v,R? dw,R? a,I? k,x,y,z])) ⟨s3,F,W,ps,x,y,cw,gr,gw,F!,hb0,λs hs=>absurd hs (by simp),rfl⟩ (λj σ4 H4 z=>z.1) ?_ ?_
  .rintro j b w' σ4 H4 hb hw ⟨s4,F4,W4,G!,x4,y4,U!,gr4,gw4,fps4,hb4,hj,rfl⟩;cases(show w'=V.int b from hw);have hbS:b∈S:=RQ hb;have hbl:=ZW b hbS;have aF4:At K H4 (.ref a) F4:=bu U!.lst;have hg4:=s4 _ _ hg;have hT4:=Rep.mono s4 hT;have fl4:=gr4.len;symm;refine bw aF4 hb4 ?_;refine b6 hT4 rfl (gt.get hbn) λw1 U'=>?_;symm;refine bw U' (gt.c8 hbn hbl) ?_;symm;k_ne;symm;refine rf ?_;symm;refine um U!.top ?_;rw[Lv gr4.nd U!.l1];symm;have more:∀F':AT,(∀z∈F4,z∈F')->tb t b0 b∈F'->∀s∈S.take (j+1),tb t b0 s∈F':=λF' h1 h2 s hs=>by
    rw[Sw,hb]at hs;rcases R5.mp hs with z|z
    .exact h1 _ (hj s z)
    .have:s=b:=by simpa using z
     rw[this];exact h2
   refine bW (λz=>?_) (λz=>?_)
   .have k4:k<W4.length:=by rw[U!.l2];exact(RN.mp hb4).1
    have k5:k<G!.length:=by rw[U!.l1];exact(RN.mp hb4).1
    have hwk:W4[k]?=some W4[k]:=RL k4;have hpk:G![k]?=some G![k]:=RL k5;have c!:=U!.row k _ _ hpk hwk;symm;refine lM ?_;symm;refine dB ?_;symm;refine bw aF4 hb4 ?_;refine dR U!.top (jG gr4.nd hb4 hpk) ?_;symm;refine cH ?_;symm;refine⟨sK,λp1 k!=>?_⟩
    have s5:=ar k! (.lst [.int b]);have wl:W4[k].length<=1000:=by
     have:=(gw4.word k b0 _ hb4 hwk).2.1;omega
    refine zZ (K:=K) (α:=Nat) (l:=W4[k]) (r:=[b]) ⟨_,_,rfl,s5 _ _ c!,dG⟩ ⟨p1,_,rfl,aj,dG (l:=[b])⟩ (by simp;omega) λp2 H6 fp2 s6 g6=>?_
    have s46:=s5.trans s6;have cw6:=U!.mono s46;have h6:=eI g6;have fp2':H4 p2=none:=s5.free fp2;symm;refine oE cw6.top (SA BP (by omega)) ?_
    rw[yk U!.l1 z];have had:a≠dw:=λz=>by have:=cw6.lst;rw[z,cw6.top]at this;cases this
    have p2n:p2∉G!:=λc=>by
     obtain⟨i,hi⟩:=Sk c;have:=U!.row i p2 _ hi (RL (by rw[U!.l2,<- U!.l1];exact(RN.mp hi).1))
     rw[fp2']at this;cases this
    have p2a:p2≠a:=λc=>by rw[c,U!.lst]at fp2';cases fp2'
    have g7:Gr K (upd H6 dw (.dK (dJ (F4++[tb t b0 b]) (G!++[p2])))) a F4:=⟨_,by rw[ak had];exact cw6.lst,dG⟩
    symm;refine⟨g7.ty,?_⟩;symm;refine ix (b:=tb t b0 b) g7 (by omega) rfl λH8 g8 k8 _=>?_
    have cw8:CW H8 dw a (F4++[tb t b0 b]) (W4++[W4[k]++[b]]) (G!++[p2]):=cw6.put h6 p2n p2a (k8 _ _ had.symm aj) (eI g8) λb' o h1 h2 h3=>k8 _ _ h1 (by rw[ak h2];exact h3)
    w_up
    refine⟨λb' o zz=>k8 _ _ (au zz fa) (by rw[ak (au zz fdw)];exact s46 _ _ (s4 _ _ zz)),_,_,_,_,_,cw8,gr4.put gt (RQ hb4) hbS hbl z,gw4.put hb4 hwk hbS,λp hp=>?_,by rw[Sz (RN.mp hb4).1];exact hb4,more _ (λy hy=>Tx _ hy) (by simp),rfl⟩
    rcases R5.mp hp with c|c
    .exact fps4 p c
    .rw[RX.mp c];exact s4.free fp2'
   .symm;exact⟨s4,_,_,_,_,_,U!,gr4,gw4,fps4,hb4,more _ (λy hy=>hy) z,rfl⟩
  .rintro σ4 H4 ⟨s4,F4,W4,G!,x4,y4,U!,gr4,gw4,fps4,hb4,hj,rfl⟩;rw[SV]at hj;symm;exact⟨s4,F4,W4,G!,_,_,_,U!,gr4.next hb4 hj,gw4,fps4,rfl⟩
 .apply BL aF (by omega) λd l' H4 hd s4 hpm hsr g4=>?_
  have gen:=gr.gen (by omega) hpm hsr
  have U!:=cw.mono s4;have V!:=eI g4;symm;refine jS ?_;symm;have pn:∀x∈l',∃j:Nat,F[j]?=some x/\j<ps.length:=λx hx=>by
   obtain⟨j,hj⟩:=Sk (hpm.mem_iff.mp hx);exact⟨j,hj,by rw[cw.l1];exact(RN.mp hj).1⟩
  have gl:=gen.len;refine ff (p:=d) (xs:=aw l') (by unfold aw;rw[RP];omega) (λd' i σ' H' ys=>so (ag H4 H') (λ(V:AC) (qs:ZL) (y:Option L2.V)=>Tbl H' d' V qs) (λV qs y=>ys=qs.map L2.V.ref) (λV qs y=>qs.length=i) (λV qs y=>(∀ (i':Nat) (p:Addr),qs[i']?=some p->∃ (r j:Nat),l'[i']?=some r/\F[j]?=some r/\ps[j]?=some p)) (λV qs y=>(∀ (i' r:Nat) (w:AT),l'[i']?=some r->V[i']?=some w->∃j:Nat,F[j]?=some r/\W[j]?=some w)) (λV qs y=>σ'=[y,R? dw]))
   (λd' i σ' H' ys z=>SqL.of (z.1 _ _ V!)) (SqL.of V!) (λd' i σ' H' ys hi ⟨_,V,qs,y,_,e1,e2,_,_,_⟩=>by rw[e1,RP,e2];exact R6 _)
   (λd' ZZ=>⟨ar ZZ _,[],[],_,Tbl.nil,rfl,rfl,by simp,by simp,rfl⟩) ?_ ?_
  .rintro d' i x' σ' H5 ys R' R0 ZZ hx ⟨s5,V,qs,y',tb5,rfl,hl5,hqs,hV,rfl⟩ h! J' a!;unfold aw at hx;rw[RY]at hx;obtain⟨r0,hr0,rfl⟩:=Tv.mp hx;obtain⟨j,hj,hjl⟩:=pn r0 (RQ hr0);have hpj:ps[j]?=some ps[j]:=RL hjl;have hwl:j<W.length:=by rw[cw.l2,<- cw.l1];exact hjl
   have hwj:W[j]?=some W[j]:=RL hwl;have cw5:=U!.mono s5;symm;refine dB ?_;symm;refine dR cw5.top (jG gr.nd hj hpj) ?_;have hpn:ps[j]∉qs:=λc=>by
    obtain⟨i',v!⟩:=Sk c;obtain⟨r1,j1,g1,g2,g3⟩:=hqs i' _ v!;obtain⟨u1,v1⟩:=RN.mp g3;have ej:j1=j:=by
     rcases TN j1 j with c|c|c
     .exact absurd v1 ((SX.mp cw.nd) j1 j u1 hjl c)
     .exact c
     .exact absurd v1.symm ((SX.mp cw.nd) j j1 hjl u1 c)
    subst ej;have er:r1=r0:=SI (g2.symm.trans hj);subst er;have hi2:i' < i:=by rw[<- hl5];exact(RN.mp v!).1
    obtain⟨u2,v2⟩:=RN.mp g1;obtain⟨u3,v3⟩:=RN.mp hr0;have:=(SX.mp gen.srt) i' i u2 u3 hi2;omega
   have hpd:ps[j]≠d':=λc=>by
    have:=U!.row j _ _ hpj hwj;rw[c,ZZ]at this;cases this
   refine J' _ _ _ h! ⟨λb o zz=>?_,V++[W[j]],qs++[ps[j]],_,tb5.snoc (ag.refl _) (cw5.row j _ _ hpj hwj) hpn hpd,by rw[SQ];rfl,by rw[R8,hl5];rfl,λi' p hp=>?_,λi' r1 w1 g1 g2=>?_,rfl⟩
   .rw[ak (au zz ZZ)];exact s5 _ _ zz
   .rcases fH hp with ⟨_,c⟩|⟨c,c2⟩
    .exact hqs i' p c
    .subst c2;rw[hl5]at c;subst c;exact⟨r0,j,hr0,hj,hpj⟩
   .rcases fH g2 with ⟨_,c⟩|⟨c,c2⟩
    .exact hV i' r1 w1 g1 c
    .subst c2;have:i'=i:=by rw[c,<- tb5.len,hl5]
     subst this;have er:r1=r0:=SI (g1.symm.trans hr0);subst er;exact⟨j,hj,hwj⟩
  rintro d2 σ5 H5 ys fd2 hd2 ⟨s5,V,qs,y',tb5,rfl,hl5,hqs,hV,rfl⟩;unfold aw at hl5;rw[RP]at hl5;symm;refine⟨Sc,λp9 hp9=>?_⟩
  have s9:=ar hp9 (.tup [.ref d,.ref d2]);have d!:=s3.trans s4;have p!:=d!.trans s5;have hdn:d∉qs:=λc=>by
   obtain⟨i',v!⟩:=Sk c;obtain⟨r1,j1,g1,g2,g3⟩:=hqs i' _ v!;have:=cw.row j1 d _ g3 (RL (by rw[cw.l2,<- cw.l1];exact(RN.mp g3).1))
   rw[hd]at this;cases this
  refine q p9 d d2 _ l' V qs (s3.free hd) (d!.free fd2) (λp hp=>?_) (λc=>?_) hdn (p!.trans s9) aj (s9 _ _ (s5 _ _ V!)) (tb5.mono s9) gen (gw.words gr.nd fl (by rw[<- tb5.len,hl5]) hV)
  .obtain⟨i',v!⟩:=Sk hp;obtain⟨r1,j1,g1,g2,g3⟩:=hqs i' _ v!;exact F! p (RQ g3)
  .rw[<- c,V!]at fd2;cases fd2
theorem GR{α β:Type}{l:List α}{f:α->List β}{c:α}(h:l[i]?=some c):(l.take (i+1)).flatMap f=(l.take i).flatMap f++f c:=by
 rw[Sw,h,Za];simp
theorem B0:Fa P w base T.nW 4 (JX T.aB K):=by
 exists T.nW.ok p6
 obtain⟨g,v,n,e,t,R,rfl,hG,gt,hR,pt,q⟩:=h;obtain⟨dx,gr,gb,hg,hT,hB⟩:=hG.get (K:=K);have n1:=gt.pos;have b!:=gt.le;have rl:=pt.len;refine⟨_,(aa (a9 (pdf T.dX (gX T) hr (paF (pv 0) (pa1 (pv 1)))))
   (aa (pz 2 p6.nd (bj bT))
   (aa (pfo (pil K (pv 1)) (pgn 3 p6.nd) (ae (pfo (pil K (pv 1)) (pgn 4 p6.nd) (ae (a9 (pap K (pv 2) (pdf T.iO (pH T) hr (paF (pv 0) (pa1 (bj (paF (pv 3) (paF (pv 4) (paF (pxl K (pfl K (pv 0)) (pv 3)) (pa1 (pxl K (pfl K (pv 0)) (pv 4))))))))))))))))
   (ae (az (dY (cP K rfl) (pdf T.iP (oX T) hr (paF (pv 0) (pa1 (cO (qm w rfl rfl) rfl T.gg T1 (paF (bS (vw K rfl w rfl rfl) rfl T.Kx YL (pa1 (pv 2))) bT))))) ai (λ_ _=>rfl))))))),?_⟩
 apply⟨g,v,n,e,t,R,rfl,hG,gt,hR,pt,λH1 s1=>?_⟩;have aR1:=Rep.mono s1 hR;apply ei (K:=K) (l:=([]:AT)) jj (by decide) λdm H2 fm s2 g2=>?_
 fin2
 let cm:Nat->Nat->Nat:=λa b=>tb t (tb t (tb t a b) (ay n t e a)) (ay n t e b)
 have cml:∀a∈R,∀b∈R,cm a b<n:=λa ha b hb=>gt.lt _ _ (gt.lt _ _ (gt.lt _ _ (pt.lt a ha) (pt.lt b hb)) (gt.aO (pt.lt a ha))) (gt.aO (pt.lt b hb));refine dQ (H₀:=H1) aR1 (λi σ H'=>pO (ag H1 H') (λ(L:AT) (x3:ZQ) (x4:ZQ)=>Gr K H' dm L) (λL x3 x4=>L.length<=i * 23) (λL x3 x4=>L=(R.take i).flatMap (λa=>R.map (cm a))) (λL x3 x4=>σ=[R? g,some v,R? dm,x3,x4])) ⟨s2,[],_,_,g2,by simp,rfl,rfl⟩ (λi σ' H' z=>z.1) ?_ ?_
 .rintro i a w' σ' H3 ha hw ⟨s3,L,x3,x4,g3,ll,hL,rfl⟩;cases(show w'=V.int a from hw);have haR:a∈R:=RQ ha;have han:=pt.lt a haR;have il:=(RN.mp ha).1;have ib:i * 23<=23 * 23:=UQ _ (by omega)
  apply dQ (H₀:=H1) aR1 (λj σ H'=>xX (ag H1 H') (λ(L:AT) (x4:ZQ)=>Gr K H' dm L) (λL x4=>L.length<=i * 23+j) (λL x4=>L=(R.take i).flatMap (λa=>R.map (cm a))++(R.take j).map (cm a)) (λL x4=>σ=[R? g,some v,R? dm,I? a,x4])) ⟨s3,L,_,g3,ll,by simpa using hL,rfl⟩ (λi σ' H' z=>z.1) ?_ ?_
  .rintro j b w' σ' H4 hb hw ⟨s4,L,x4,g4,ll,hL,rfl⟩;cases(show w'=V.int b from hw);have hbR:b∈R:=RQ hb;have hbn:=pt.lt b hbR;have jl:=(RN.mp hb).1;have s14:=s1.trans s4;have hg4:=s14 _ _ hg;have ba:=gt.aO han;have bb:=gt.aO hbn;apply⟨g4.ty,?_⟩;apply cH ?_;apply bI T hg4 ?_;apply bw (Rep.mono s14 hB) (wL han) ?_;apply bI T hg4 ?_;apply bw (Rep.mono s14 hB) (wL hbn) ?_;apply⟨small (by show 4<=1000;decide),λpl hpl=>?_⟩
   have s5:ag H4 (upd H4 pl (.lst (aw [a,b,ay n t e a,ay n t e b]))):=ar hpl _;have hl5:(upd H4 pl (.lst (aw [a,b,ay n t e a,ay n t e b]))) pl=some (.lst (aw [a,b,ay n t e a,ay n t e b])):=aj;have g5:Gr K (upd H4 pl (.lst (aw [a,b,ay n t e a,ay n t e b]))) dm L:=g4.mono s5;apply⟨g,_,n,e,t,[a,b,ay n t e a,ay n t e b],rfl,aG.mono (s14.trans s5) hG,gt,bu hl5,λx hx=>?_,?_⟩
   .simp only[Sf,T7,or_false]at hx;rcases hx with rfl|rfl|rfl|rfl
    .exact han
    .exact hbn
    .exact ba
    .exact bb
   have e1:prd t e [a,b,ay n t e a,ay n t e b]=cm a b:=by
    show tb t (tb t (tb t (tb t e a) b) (ay n t e a)) (ay n t e b)=_;rw[gt.unl a han]
   rw[e1];apply ix (b:=cm a b) g5 (by omega) rfl λH6 g6 k6 _=>?_
   w_up
   refine⟨ag.but fm (s4.trans s5) k6,L++[cm a b],_,g6,?_,?_,rfl⟩
   .rw[R8,U6];omega
   .rw[hL,Vf,Sw,hb];simp
  .rintro σ' H4 ⟨s4,L,x4,g4,ll,hL,rfl⟩;rw[SV]at hL;apply⟨s4,L,_,_,g4,?_,?_,rfl⟩
   .rw[VL];omega
   .rw[GR ha];exact hL
 .rintro σ' H3 ⟨s3,L,x3,x4,g3,ll,hL,rfl⟩;rw[SV]at hL;have hm:L=fq n t e R:=hL;have ZW:∀x∈L,x<n:=λx hx=>by
   rw[hm]at hx;obtain⟨a,ha,b,hb,rfl⟩:=iz.mp hx;exact cml a ha b hb
  apply Ge g3.at (λx hx=>by have:=ZW x hx;omega) λsa ks fs hks nd=>?_
  exists fs,(fL w sa ks),H3,sa,s4,h4,(fL w sa ks),H4;apply xW h4 λsd sl fd hp hs=>?_;exists fd,(.lst (aw sl)),H4,sd,s5,h5,(.lst (aw sl)),H5;have s35:=s4.trans s5;have p!:=s1.trans (s3.trans s35);have hmem:∀x,x∈sl↔x∈fq n t e R:=λx=>by rw[hp.mem_iff,hks x,hm]
  have sll:sl.length<=n:=cx (hp.nodup_iff.mpr nd) λx hx=>ZW x (by rw[hm];exact(hmem x).mp hx)
  apply⟨g,_,n,e,t,sl,rfl,aG.mono p! hG,gt,bu h5,λx hx=>ZW x (by rw[hm];exact(hmem x).mp hx),by omega,λp dp dw H6 M W pw f1 f2 f3 n1 n2 s6 h6 hp6 _ G _=>?_⟩
  apply fV (i:=0) h6 rfl ?_;exact q dp H6 M (p!.free f1) (p!.trans s6) ⟨_,hp6,dG⟩ (G.congr hmem)
def G8(n:Nat)(t:AC)(e:Nat)(F:AT)(x:Nat):Prop:=∃P,Gen n t e (F++[x]) P/\P.length=n
def Cd(n:Nat)(t:AC)(e:Nat)(F:AT)(x:Nat):Prop:=∃P,Gen n t e (F++[x]) P/\P.length≠n
inductive t8(C:Addr)(vs:Z7)(H:Hp)(Q:VK)(E:XK):Prop
 | mk (g dp:Addr) (n e:Nat) (t:AC) (F:AT) (_:vs=[.ref g,.ref dp]) (_:aG C H g n t e) (_:GT n t e) (_:H dp=some (.lst (aw F))) (_:(∀x∈F,x<n)) (_:F.length<=n) (_:Led n t e F) (_:∀ (x:Nat) H',ag H H'->x<n->G8 n t e F x->(∀y,y<x->Cd n t e F y)->Q (.int x) H')
theorem uu:Fa P w base T.fU 4 (t8 T.aB):=by
 exists T.fU.ok mq
 obtain⟨g,dp,n,e,t,F,rfl,hG,gt,hp,ZW,hl,led,q⟩:=h;obtain⟨dx,gr,gb,hg,hT,hB⟩:=hG.get (K:=K);have b!:=gt.le;refine⟨_,(aa (pfo (prg T.aK (pfl K (pv 0))) (pgn 2 mq.nd) (ae (aU (pcm cz (pln K T.bz (dY (cP K rfl) (pdf T.iP (oX T) hr (paF (pv 0) (pa1 (ao oJ (pv 1) (bj (pa1 (pv 2))))))) ai (λ_ _=>rfl))) (pfl K (pv 0))) (ae (az (pv 2))) aH)))
   (ae (az Cb))),?_⟩
 apply bB T hg ?_;refine aX (n:=n) rfl (by omega) (λi σ' H'=>uX (ag H H') (λ(x2:ZQ)=>(∀y,y<i->Cd n t e F y)) (λx2=>σ'=[R? g,R? dp,x2])) ⟨ag.refl _,_,λy hy=>absurd hy (Vl _),rfl⟩ ?_ ?_
 .rintro i σ' H1 hi ⟨s1,x2,no,rfl⟩;have k!:=s1 _ _ hp;fin2;k_ne;apply cH ?_;apply⟨sK,λd2 hd2=>?_⟩
  exists hd2,(.lst [.int i]),H1,d2,s2,g2,(.lst (aw [i])),H2;refine zZ (K:=K) (α:=Nat) (l:=F) (r:=[i]) ⟨dp,_,rfl,s2 _ _ k!,dG⟩ ⟨d2,_,rfl,g2,dG⟩ (by simp;omega) λd3 H3 _ s3 g3=>?_
  have s13:=s2.trans s3;apply⟨g,_,n,e,t,F++[i],rfl,aG.mono (s1.trans s13) hG,gt,g3.at,λx hx=>?_,by rw[R8,U6];omega,λp dq dw H4 R W pw f1 f2 f3 n1 n2 s4 h4 hp4 _ G _=>?_⟩
  .rcases R5.mp hx with z|z
   .exact ZW x z
   .rw[RX.mp z];exact hi
  apply fV (i:=0) h4 rfl ?_;apply cS (bu hp4) ?_;fin2;have s14:=s13.trans s4;refine bB T ((s1.trans s14) _ _ hg) ?_;apply aW (λc=>?_) (λc=>?_)
  .fin2;exact q i H4 (s1.trans s14) hi ⟨R,G,c⟩ no
  .apply⟨s1.trans s14,_,λy hy=>?_,rfl⟩;rcases Sb y i with z|z
   .exact no y z
   .have:y=i:=by omega
    rw[this];exact⟨R,G,c⟩
 .rintro σ' H1 ⟨s1,x2,no,rfl⟩;obtain⟨x,hx,z!⟩:=led;obtain⟨P',G',c⟩:=no x hx;exact absurd (z! P' G') c
inductive JU(C:Addr)(vs:Z7)(H:Hp)(Q:VK)(E:XK):Prop
 | mk (g:Addr) (n e:Nat) (t:AC) (_:vs=[.ref g]) (_:aG C H g n t e) (_:GT n t e) (_:Meta n t) (_:∀p dp (x:Nat) (F:AT) H',ag H H'->H dp=none->H' p=some (.tup [.ref dp,.int x])->H' dp=some (.lst (aw F))->Ce n t e n F->x<n->G8 n t e F x->(∀y,y<x->Cd n t e F y)->Q (.ref p) H')
theorem Kc:Fa P w base T.sF 5 (JU T.aB):=by
 exists T.sF.ok qd
 obtain⟨g,n,e,t,rfl,hG,gt,M,q⟩:=h;obtain⟨dx,gr,gb,hg,hT,hB⟩:=hG.get (K:=K);have n1:=gt.pos;have b!:=gt.le;have pr:IsPart n t (RS n):=⟨TM,λx hx=>RU.mp hx,UN (RU.mpr n1),λx hx y hy=>RU.mpr (gt.lt x y (RU.mp hx) (RU.mp hy))⟩;refine⟨_,(aa (pz 1 qd.nd (pdf T.nW (B0 T) hr (paF (pv 0) (pa1 (bS (jJ rfl) rfl T.f6 Tw (paF (bS nN rfl T.aK Wo (pa1 (pfl K (pv 0)))) bT))))))
   (aa (pfo (prg T.aK (pfl K (pv 0))) (pgn 2 qd.nd) (ae (aU (lS (pdf T.jQ (BD T) hr (paF (pv 0) (paF (pv 2) (pa1 (pv 1)))))) (ae (pz 1 qd.nd (dY (cP K rfl) (pdf T.iP (oX T) hr (paF (pv 0) (pa1 (ao oJ (pv 1) (bj (pa1 (pv 2))))))) ai (λ_ _=>rfl)))) aH)))
   (ae (az (i8 (paF (pv 1) (pa1 (pdf T.fU (uu T) hr (paF (pv 0) (pa1 (pv 1))))))))))),?_⟩
 apply bB T hg ?_;apply wq λpr2 hpr2=>?_;apply nQ (K:=K) aj (by omega) λdl H1 _ s1' gl=>?_
 have s1:ag H H1:=(ar hpr2 _).trans s1';apply⟨g,_,n,e,t,RS n,rfl,aG.mono s1 hG,gt,gl.at,pr,λd0 H2 M0 f0 s2 g0 G0=>?_⟩;k_put;apply bB T (d6 _ _ hg) ?_;refine aX (n:=n) rfl (by omega) (λi σ' H'=>pO (ag H H') (λ(dp:Addr) (F:AT) (x2:ZQ)=>H dp=none) (λdp F x2=>H' dp=some (.lst (aw F))) (λdp F x2=>Ce n t e i F) (λdp F x2=>σ'=[R? g,R? dp,x2])) ⟨d6,d0,M0,_,s1.free f0,eI g0,G0,rfl⟩ ?_ ?_
 .rintro i σ' H3 hi ⟨s3,dp,F,x2,fp,hp3,hs,rfl⟩;have hok:=w9 gt M i F (by omega) hs
  have fl:=hok.1.len;fin2;k_ne;apply⟨g,_,n,e,i,t,F,rfl,aG.mono s3 hG,gt,hi,bu hp3,hok.1.lt,?_⟩;apply aW (λc=>?_) (λc=>?_)
  .apply cH ?_;apply⟨sK,λd4 V!=>?_⟩
   exists V!,(.lst [.int i]),H3,d4,s4,g4,(.lst (aw [i])),H4;refine zZ (K:=K) (α:=Nat) (l:=F) (r:=[i]) ⟨dp,_,rfl,s4 _ _ hp3,dG⟩ ⟨d4,_,rfl,g4,dG⟩ (by simp;omega) λd5 H5 _ s5 g5=>?_
   have s35:=s4.trans s5;apply⟨g,_,n,e,t,F++[i],rfl,aG.mono (s3.trans s35) hG,gt,g5.at,λx hx=>?_,by rw[R8,U6];omega,λp dq dw H6 R W pw f1 f2 f3 n1 n2 s6 h6 hp6 _ G _=>?_⟩
   .rcases R5.mp hx with z|z
    .exact hok.1.lt x z
    .rw[RX.mp z];exact hi
   apply fV (i:=0) h6 rfl ?_;fin2;exact⟨s3.trans (s35.trans s6),dq,R,_,(s3.trans s35).free f1,hp6,⟨F,hs,.inl ⟨c,G⟩⟩,rfl⟩
  .fin2;exact⟨s3,dp,F,_,fp,hp3,⟨F,hs,.inr ⟨c,rfl⟩⟩,rfl⟩
 .rintro σ' H3 ⟨s3,dp,F,x2,fp,hp3,hs,rfl⟩;have hh:=(vP gt M hs).1;apply jS ?_;apply⟨g,dp,n,e,t,F,rfl,aG.mono s3 hG,gt,hp3,hh.pt.lt,hh.pt.len,hh.led gt,λx H4 s4 hx l1 l2=>?_⟩;apply⟨Sc,λp hp=>?_⟩
  have s5:=ar hp (.tup [.ref dp,.int x]);exact q p dp x F _ (s3.trans (s4.trans s5)) fp aj ((s4.trans s5) _ _ hp3) hs hx l1 l2
inductive u7 (vs:Z7)(H:Hp)(Q:VK)(E:XK):Prop
 | mk (m:Nat) (_:vs=[.int m]) (_:1<=m) (_:m<=60) (_:Q .non H)
theorem m8:Fa P w base T.eT 1 u7:=by
 exists T.eT.ok vH
 obtain⟨m,rfl,m1,m2,q⟩:=h;refine⟨_,(ae (aU (PW.pt (uQ (pcm nh (pv 0) ai) (rJ (pcm jP (pv 0) (D4 (v:=.int 60) rfl T.yT ⟨_,rfl⟩))))) (ae cZ) aH)),?_⟩;k_go;k_ne;k_go;k_cls
 k_go;k_cls
 k_go;exact q
def oF(n:Nat)(t:AC)(e:Nat)(z:V)(m:Nat):Prop:=(z=.non/\cA (b5 n t e) m)\/(z=.int m/\1<=m/\m<=60/\∀k,cA (b5 n t e) k->m % k=0)
inductive FE(C:Addr)(vs:Z7)(H:Hp)(Q:VK)(E:XK):Prop
 | mk (g:Addr) (z:V) (n e m:Nat) (t:AC) (_:vs=[.ref g,z]) (_:aG C H g n t e) (_:GT n t e) (_:oF n t e z m) (_:∀H',ag H H'->Q (.int m) H')
theorem iW:Fa P w base T.fg 3 (FE T.aB):=by
 exists T.fg.ok vN
 obtain⟨g,z,n,e,m,t,rfl,hG,gt,hz,q⟩:=h;refine⟨_,(aa (pz 2 vN.nd (pdf T.sA (Js T) hr (pa1 (pv 0))))
   (aa (aU (md (Ng (pv 1))) (ae (az (pv 2))) aH)
   (aa (a9 (pdf T.eT (m8 T) hr (pa1 (pv 1))))
   (aa (aU (pcm fY (ao aM (pv 1) (pv 2)) ai) (ae cZ) aH)
   (ae (az (pv 1))))))),?_⟩
 k_go;refine⟨g,n,e,t,rfl,hG,gt,λk H1 s1 hk=>?_⟩;k_go;k_ne;k_go;rcases hz with ⟨rfl,hm⟩|⟨rfl,m1,m2,hm⟩
 .refine aW (λ_=>?_) (λc=>absurd rfl c);k_go;rw[hk.uni hm];exact q _ s1
 .refine aW (λc=>by cases c) (λ_=>?_)
  k_go;refine⟨m,rfl,m1,m2,?_⟩;have hk0:=hk.pos;k_go;k_ne;k_go;refine bW (λc=>absurd (hm k hk) c) (λ_=>?_);k_go;exact q _ s1
def zsV(l:ZM):Z7:=l.map V.int
theorem KH{H:Hp}:∀ {l:ZM},Tb (Rep.is K H) (zsV l) l
 | []=>.nil
 | x :: l=>.cons rfl KH
theorem iw{l:ZM}(h:H p=some (.lst (zsV l))):At K H (.ref p) l:=⟨p,_,rfl,SqL.of h,KH⟩
theorem F2{H:Hp}:∀ {xs:Z7} {l:ZM},Tb (Rep.is K H) xs l->xs=zsV l
 | _,_,.nil=>rfl
 | _,_,.cons h t=>by
  have h':=h;rw[F2 t];cases(show _=V.int _ from h');rfl
theorem MU{v:V}{l:ZM}(h:At K H v l):∃p,v=.ref p/\SqL K H p (zsV l):=by
 k_get;rw[F2 hP]at hS;exact⟨p,rfl,hS⟩
theorem Ea{v:V}{l:ZM}(h:At K H v l)(q:∀p,H p=none->Q (.ref p) (upd H p (.lst (zsV l)))):zG K [v] H Q:=by
 obtain⟨p,rfl,hS⟩:=MU h;exact⟨p,_,rfl,.inl hS,q⟩
theorem vt{v:V}{l:ZM}{a:Int}{c:Int}(h:At K H v l)(e:a=(n:Int))(hn:l[n]?=some c)(q:Q (.int c) H):mG K v (.int a) H Q:=K8 h e hn q
inductive Fm(K:RM)(vs:Z7)(H:Hp)(Q:VK)(E:XK):Prop
 | mk (v u:V) (p d:ZM) (_:vs=[v,u]) (_:At K H v p) (_:At K H u d) (_:d≠[]) (_:kq d=true) (_:p.length<=1000) (_:∀t a b H',ag H H'->H' t=some (.tup [.ref a,.ref b])->H a=none->H b=none->a≠b->H' a=some (.lst (zsV (ir p d).1))->H' b=some (.lst (zsV (ir p d).2))->Q (.ref t) H')
theorem uZ:Fa P w base T.ky 1 (Fm K):=by
 exists T.ky.ok fG
 obtain⟨v,u,p,d,rfl,hv,hu,dn,ds,pl,q⟩:=h;have dp:=Sr.mpr dn;refine⟨_,(aa (pz 2 fG.nd (ao gA (pln K T.bz (pv 1)) ai))
   (aa (pz 3 fG.nd (bS (fC K rfl) rfl T.f6 Tw (pa1 (pv 0))))
   (aa (pz 4 fG.nd (bj bT))
   (aa (fB Ut (pcm jP (pln K T.bz (pv 3)) (pv 2)) (aa (pz 5 fG.nd (Lf K rfl Us PySem.F.slot_list_pop PySem.F.type_list_pop OV (pv 3)))
   (aa (a9 (pap K (pv 4) (pv 5)))
   (aa (pz 6 fG.nd (ao gA (pln K T.bz (pv 3)) (pv 2)))
   (ae (pfo (prg T.aK (pv 2)) (pgn 7 fG.nd) (ae (ot (ao gA (pxl K (pv 3) (ao aT (pv 6) (pv 7))) (ao bO (pv 5) (pxl K (pv 1) (pv 7)))) (oC (pv 3) (ao aT (pv 6) (pv 7)) set_list)))))))))
   (ae (az (i8 (paF (ET K rfl rfl rfl T.f6 rfl T.FH (pa1 (pv 4))) (pa1 (pv 3)))))))))),?_⟩
 k_go;refine Ea hv λa fa=>?_;k_go;refine cH ?_;k_go;refine⟨sB,λb hb=>?_⟩
 have ab:a≠b:=λz=>by rw[<- z,aj]at hb;cases hb
 have fb:H b=none:=by rw[ak ab.symm]at hb;exact hb
 have e1:((d.length:Int) - ((1:Nat):Int))=((d.length - 1:Nat):Int):=by omega
 rw[e1];k_go;refine fJ (λm σ' H'=>yU (ag H H') (λ(L:ZM) (tk:ZM) (x:ZQ) (y:ZQ) (z:ZQ)=>m=L.length) (λL tk x y z=>H' a=some (.lst (zsV L))) (λL tk x y z=>H' b=some (.lst (zsV tk))) (λL tk x y z=>ng d (L.length+1 - d.length) L tk=ir p d) (λL tk x y z=>L.length+tk.length<=p.length /\
   σ'=[some v,some u,I? ((d.length - 1:Nat):Int),R? a,R? b,x,y,z])) p.length
  ⟨λc o z=>by rw[ak (au z fb),ak (au z fa)];exact z,p,[],none,none,none,rfl,by rw[ak ab];exact aj,aj,rfl,by simp,rfl⟩ ?_
 rintro m σ' H2 ⟨s2,L,tk,x,y,z,rfl,ha,hb2,hgo,hle,rfl⟩;have aL:At K H2 (.ref a) L:=iw ha;k_go;l_fit
 .have hl:d.length<=L.length:=by omega
  have ln:L≠[]:=λz=>by rw[z]at hl;simp at hl;exact dn hl
  refine⟨λσ3 H3=>ag H H3/\∃ (x y z:ZQ),H3 a=some (.lst (zsV (dP d L)))/\H3 b=some (.lst (zsV (tk++[L.getLastD 0])))/\σ3=[some v,some u,I? ((d.length - 1:Nat):Int),R? a,R? b,x,y,z],λσ3 H3 zz=>?_,?_⟩
  .obtain⟨z1,x3,y3,z3,z4,z5,z6⟩:=zz;have e:=nU dn hl;refine⟨L.length - 1,by omega,z1,dP d L,_,x3,y3,z3,e.symm,z4,z5,?_,?_,z6⟩
   .rw[<- hgo,e,show L.length+1 - d.length=(L.length - 1+1 - d.length)+1 by omega]
    rfl
   .rw[e,R8];show L.length - 1+(tk.length+1)<=_;omega
  have lp:0<L.length:=Sr.mpr ln;k_go;refine⟨.inl ⟨rfl,_,SqL.of ha⟩,?_⟩;refine⟨a,zsV L,.int (L.getLastD 0),rfl,rfl,ha,?_,?_⟩
  .unfold zsV;rw[RP,RY,XB,List.getLast?_eq_getElem?];rw[RL (by omega)]
   rfl
  have ed:(zsV L).dropLast=zsV L.dropLast:=by unfold zsV;rw[List.map_dropLast]
  rw[ed];k_go;have hb3:(upd H2 a (.lst (zsV L.dropLast))) b=some (.lst (zsV tk)):=by rw[ak ab.symm];exact hb2
  refine⟨.inl ⟨rfl,_,SqL.of hb3⟩,?_⟩;k_go;refine⟨b,zsV tk,_,rfl,rfl,hb3,Ti (show (zsV tk).length<=1000 by unfold zsV;rw[RP];omega) (by rw[SH];decide),?_⟩
  have ha4:(upd (upd H2 a (.lst (zsV L.dropLast))) b (.lst (zsV tk++[.int (L.getLastD 0)]))) a=some (.lst (zsV L.dropLast)):=by rw[ak ab];exact aj
  have hb4:(upd (upd H2 a (.lst (zsV L.dropLast))) b (.lst (zsV tk++[.int (L.getLastD 0)]))) b=some (.lst (zsV (tk++[L.getLastD 0]))):=by
   rw[aj];unfold zsV;rw[SQ];rfl
  have s4:ag H (upd (upd H2 a (.lst (zsV L.dropLast))) b (.lst (zsV tk++[.int (L.getLastD 0)]))):=λc o z=>by
   rw[ak (au z fb),ak (au z fa)];exact s2 _ _ z
  generalize upd (upd H2 a (.lst (zsV L.dropLast))) b (.lst (zsV tk++[.int (L.getLastD 0)]))=H4 at ha4 hb4 s4;have aL4:At K H4 (.ref a) L.dropLast:=iw ha4;k_go;have e2:((L.dropLast.length:Int) - ((d.length - 1:Nat):Int))=((L.length - d.length:Nat):Int):=by rw[UP];omega
  rw[e2];k_go;refine aX (n:=d.length - 1) rfl (by omega) (λj σ3 H3=>DH (ag H H3) (λx=>H3 a=some (.lst (zsV (eP (L.getLastD 0) d (L.length - d.length) j L.dropLast)))) (λx=>H3 b=some (.lst (zsV (tk++[L.getLastD 0])))) (λx=>σ3=[some v,some u,I? ((d.length - 1:Nat):Int),R? a,R? b,I? (L.getLastD 0),I? ((L.length - d.length:Nat):Int),x]))
   ⟨s4,_,by rw[vz];exact ha4,hb4,rfl⟩ ?_ ?_
  .rintro j σ3 H5 hj ⟨s5,x5,ha5,hb5,rfl⟩;have aL5:=iw (K:=K) ha5;have aD5:=Rep.mono s5 hu;have hjl:L.length - d.length+j<L.dropLast.length:=by rw[UP];omega
   have hdj:d[j]?=some (d.getD j 0):=by simp[V0,RL (show j<d.length by omega)]
   have sm:=GA ds j;k_go;refine vt aL5 rfl (Bw hjl) ?_;k_go;refine vt aD5 rfl hdj ?_;refine wo (.inr ⟨by omega,by omega⟩) ?_
   k_go;refine oG ha5 rfl (by unfold zsV;rw[RP,mZ];exact hjl) ?_
   have ha6:(upd H5 a (.lst ((zsV (eP (L.getLastD 0) d (L.length - d.length) j L.dropLast)).set (L.length - d.length+j) (.int (L.dropLast.getD (L.length - d.length+j) 0 - L.getLastD 0 * d.getD j 0))))) a=some (.lst (zsV (eP (L.getLastD 0) d (L.length - d.length) (j+1) L.dropLast))):=by
    rw[aj,<- yg hjl];unfold zsV;rw[Xl]
   w_up
   exact⟨λc o z=>by rw[ak (au z fa)];exact s5 _ _ z,_,ha6,by rw[ak ab.symm];exact hb5,rfl⟩
  .rintro σ3 H5 ⟨s5,x5,ha5,hb5,rfl⟩;rw[EW dn hl]at ha5;exact⟨s5,_,_,_,ha5,hb5,rfl⟩
 .have e0:L.length+1 - d.length=0:=by omega
  rw[e0]at hgo;have g1:tk.reverse=(ir p d).1:=congrArg Prod.fst hgo;have g2:L=(ir p d).2:=congrArg Prod.snd hgo;k_go;refine jS ?_;k_go;refine GI ?_;k_go;refine⟨b,_,rfl,SqL.of hb2,λc hc=>?_⟩;have er:(zsV tk).reverse=zsV (ir p d).1:=by rw[<- g1];unfold zsV;rw[List.map_reverse]
  rw[er];k_go;refine⟨Sc,λt ht=>?_⟩
  have ca:c≠a:=λz=>by rw[z,ha]at hc;cases hc
  have tc:c≠t:=λz=>by rw[<- z,aj]at ht;cases ht
  have ta:a≠t:=λz=>by rw[<- z,ak ca.symm,ha]at ht;cases ht
  refine q t c a _ (λc' o z=>?_) aj (s2.free hc) fa ca ?_ ?_
  .have h1:c'≠c:=au (s2 _ _ z) hc;have h2:c'≠t:=λe=>by rw[<- e,ak h1,s2 _ _ z]at ht;cases ht
   rw[ak h2,ak h1];exact s2 _ _ z
  .rw[ak tc];exact aj
  .rw[ak ta,ak ca.symm,<- g2];exact ha
structure CF(H:Hp)(f:Addr)(fs:List (Nat×ZM))(ps:ZL):Prop where
 top:H f=some (.dK (dJ (fs.map (·.1)) ps))
 len:ps.length=fs.length
 nd:(fs.map (·.1)).Nodup
 row:∀ (i:Nat) (p:Addr) (x:Nat×ZM),ps[i]?=some p->fs[i]?=some x->H p=some (.lst (zsV x.2))
theorem Je{x:Key×V}(h:(dJ F ps)[i]?=some x):∃k p,F[i]?=some k/\ps[i]?=some p/\x=(nk k,.ref p):=by
 unfold dJ at h;rw[RY]at h;obtain⟨y,hy,rfl⟩:=Tv.mp h;obtain⟨h1,h2⟩:=Xx.mp hy;exact⟨y.1,y.2,h1,h2,rfl⟩
inductive wg(K:RM)(vs:Z7)(H:Hp)(Q:VK)(E:XK):Prop
 | mk (f:Addr) (m:Nat) (fs:List (Nat×ZM)) (ps:ZL) (_:vs=[.int m,.ref f]) (_:CF H f fs ps) (_:1<=m) (_:m<=60) (_:(∀x∈fs,x.2≠[]/\kq x.2=true/\1<=x.1)) (_:∀a H',H a=none->ag H H'->H' a=some (.lst (zsV (zT m fs)))->Q (.ref a) H')
theorem KG(k:Nat)(a:Int):(RZ k [V.int a]).flatten=zsV (RZ k a):=by
 unfold zsV
 induction k with
 | zero=>rfl
 | succ k ih=>rw[TK,UG,ih,TK];rfl
theorem vV:Fa P w base T.hZ 2 (wg K):=by
 exists T.hZ.ok gD
 obtain⟨f,m,fs,ps,rfl,cf,m1,m2,hx,q⟩:=h;refine⟨_,(aa (pz 2 gD.nd (ao oJ (ao oJ (bj (pa1 (P1 NX ai))) (ao qR (bj (pa1 ai)) (ao gA (pv 0) ai))) (bj (pa1 ai))))
   (aa (Mz P w 1 rfl rfl (pfo (MB P w rfl rfl (pv 1)) (pgn 3 gD.nd) (ae (aU (pcm cz (ao aM (pv 0) (pv 3)) ai) (ae (pz 2 gD.nd (dY (cP K rfl) (pdf T.ky (uZ T) hr (paF (pv 2) (pa1 (IH P w rfl rfl (pv 1) (pv 3) (λ_ _=>rfl))))) ai (λ_ _=>rfl)))) aH))))
   (ae (LG P w 1 rfl rfl (az (pv 2)))))),?_⟩
 k_go;refine cH ?_;k_go;refine⟨sK,λp1 k!=>?_⟩
 k_go;refine cH ?_;k_go;refine⟨sK,λp2 hp2=>?_⟩
 k_go;refine⟨p2,_,_,rfl,rfl,aj,by omega,by omega,?_,λp3 hp3=>?_⟩
 .rw[SH];show 1 * _<=_;omega
 rw[show ((m:Int) - ((1:Nat):Int)).toNat=m - 1 by omega,KG]
 have n21:p2≠p1:=λz=>by rw[z,aj]at hp2;cases hp2
 have n31:p3≠p1:=λz=>by rw[z,ak n21.symm,aj]at hp3;cases hp3
 have h3:(upd (upd (upd H p1 (.lst [.int (-((1:Nat):Int))])) p2 (.lst [.int ((0:Nat):Int)])) p3 (.lst (zsV (RZ (m - 1) ((0:Nat):Int))))) p1=some (.lst (zsV [-1])):=by
  rw[ak n31.symm,ak n21.symm,aj];rfl
 have h33:(upd (upd (upd H p1 (.lst [.int (-((1:Nat):Int))])) p2 (.lst [.int ((0:Nat):Int)])) p3 (.lst (zsV (RZ (m - 1) ((0:Nat):Int))))) p3=some (.lst (zsV (RZ (m - 1) 0))):=aj;have s3:ag H (upd (upd (upd H p1 (.lst [.int (-((1:Nat):Int))])) p2 (.lst [.int ((0:Nat):Int)])) p3 (.lst (zsV (RZ (m - 1) ((0:Nat):Int))))):=(ar k! _).trans ((ar hp2 _).trans (ar hp3 _));generalize upd (upd (upd H p1 (.lst [.int (-((1:Nat):Int))])) p2 (.lst [.int ((0:Nat):Int)])) p3 (.lst (zsV (RZ (m - 1) ((0:Nat):Int))))=H3 at h3 h33 s3;refine⟨p1,p3,_,_,rfl,rfl,h3,h33,?_,λp4 hp4=>?_⟩
 .unfold zsV;rw[SH];simp;omega
 have h4:(upd H3 p4 (.lst (zsV [-1]++zsV (RZ (m - 1) 0)))) p4=some (.lst (zsV ([-1]++RZ (m - 1) 0))):=by rw[aj];unfold zsV;rw[SQ]
 have s4:=s3.trans (ar hp4 (.lst (zsV [-1]++zsV (RZ (m - 1) 0))));generalize upd H3 p4 (.lst (zsV [-1]++zsV (RZ (m - 1) 0)))=H4 at h4 s4;k_go;refine cH ?_;k_go;refine⟨sK,λp5 hp5=>?_⟩
 have n54:p4≠p5:=λz=>by rw[<- z,h4]at hp5;cases hp5
 refine⟨p4,p5,_,_,rfl,rfl,by rw[ak n54];exact h4,aj,?_,λa ha=>?_⟩
 .unfold zsV;rw[SH];simp;omega
 have h6:(upd (upd H4 p5 (.lst [.int ((1:Nat):Int)])) a (.lst (zsV ([-1]++RZ (m - 1) 0)++[.int ((1:Nat):Int)]))) a=some (.lst (zsV ([-1]++RZ (m - 1) 0++[1]))):=by
  have e:zsV ([-1]++RZ (m - 1) 0++[1])=zsV ([-1]++RZ (m - 1) 0)++[.int ((1:Nat):Int)]:=SQ;rw[aj,e]
 have s6:=s4.trans ((ar hp5 (.lst [.int ((1:Nat):Int)])).trans (ar ha (.lst (zsV ([-1]++RZ (m - 1) 0)++[.int ((1:Nat):Int)]))));have fa:H a=none:=(s4.trans (ar hp5 (.lst [.int ((1:Nat):Int)]))).free ha;generalize upd (upd H4 p5 (.lst [.int ((1:Nat):Int)])) a (.lst (zsV ([-1]++RZ (m - 1) 0)++[.int ((1:Nat):Int)]))=H6 at h6 s6;k_go;have fa':a≠f:=λz=>by rw[z,cf.top]at fa;cases fa
 refine⟨f,_,rfl,s6 _ _ cf.top,λep=>?_⟩;have hf7:(upd H6 f (DE P w f (dJ (fs.map (·.1)) ps) ep)) f=some (DE P w f (dJ (fs.map (·.1)) ps) ep):=aj;have k7:∀c o,c≠f->H c=some o->(upd H6 f (DE P w f (dJ (fs.map (·.1)) ps) ep)) c=some o:=λc o hc z=>by rw[ak hc];exact s6 _ _ z
 have h7:(upd H6 f (DE P w f (dJ (fs.map (·.1)) ps) ep)) a=some (.lst (zsV ([-1]++RZ (m - 1) 0++[1]))):=by rw[ak fa'];exact h6
 generalize upd H6 f (DE P w f (dJ (fs.map (·.1)) ps) ep)=H7 at hf7 k7 h7;k_go;refine Mg ?_;k_go;have zl:(dJ (fs.map (·.1)) ps).length=fs.length:=by unfold dJ;rw[RP,WZ,RP,cf.len];omega
 refine vZ hf7 (λi σ' H'=>ED (H' f=some (DE P w f (dJ (fs.map (·.1)) ps) ep)) ((∀c o,c≠f->H c=some o->H' c=some o)) (λ(a:Addr) (x:ZQ)=>H a=none) (λa x=>H' a=some (.lst (zsV (pX m (fs.take i) ([-1]++RZ (m - 1) 0++[1]))))) (λa x=>(pX m (fs.take i) ([-1]++RZ (m - 1) 0++[1])).length<=100) (λa x=>σ'=[I? m,R? f,R? a,x]))
  ⟨hf7,k7,a,_,fa,h7,by simp[pX];omega,rfl⟩ (λi σ' H' z=>z.1) ?_ ?_
 .rintro i x σ' H8 hxi ⟨hf8,k8,a8,y8,fa8,ha8,hl8,rfl⟩;obtain⟨k,p,hk,hp,rfl⟩:=Je hxi;rw[RY]at hk;obtain⟨fx,hfx,rfl⟩:=Tv.mp hk;obtain⟨c1,c2,c3⟩:=hx fx (RQ hfx);have c!:=cf.row i p fx hp hfx;have pf:p≠f:=λz=>by rw[z,cf.top]at c!;cases c!
  have hp8:=k8 p _ pf c!;have et:fs.take (i+1)=fs.take i++[fx]:=by rw[Sw,hfx];rfl
  refine Cg (λ_ _ _ _ _ _=>?_);show dZ 3 (.int (fx.1:Int)) _ _ _;k_go;k_ne;k_go;have X':=FK m (fs.take i) fx ([-1]++RZ (m - 1) 0++[1]);l_fit
  .rw[if_pos c]at X';k_go;refine JB ?_;k_go;refine LX hf8 (jG cf.nd (by rw[RY,hfx];rfl) hp) ?_
   k_go;refine⟨_,_,_,_,rfl,iw ha8,iw hp8,c1,c2,by omega,λt qa qb H9 s9 ht fqa fqb _ hqa _=>?_⟩
   k_go;refine fV ht (i:=0) rfl ?_;k_go;have fqa':H qa=none:=by
    cases z:H qa with
    | none=>rfl
    | some o =>
     by_cases e:qa=f
     .rw[e,hf8]at fqa;cases fqa
     .rw[k8 qa o e z]at fqa;cases fqa
   refine⟨s9 _ _ hf8,λc o hc z=>s9 _ _ (k8 c o hc z),qa,_,fqa',by rw[et,X'];exact hqa,by rw[et,X'];exact SA (ID c1) hl8,rfl⟩
  .rw[if_neg c]at X';k_go;exact⟨hf8,k8,a8,_,fa8,by rw[et,X'];exact ha8,by rw[et,X'];exact hl8,rfl⟩
 .rintro σ' H8 ⟨hf8,k8,a8,y8,fa8,ha8,hl8,rfl⟩;rw[zl,SV]at ha8;k_go;have n8:a8≠f:=λz=>by rw[z,cf.top]at fa8;cases fa8
  refine⟨f,_,ep,rfl,hf8,?_⟩;k_go;refine q a8 _ fa8 (λc o z=>?_) (by rw[ak n8];exact ha8)
  by_cases e:c=f
  .rw[e]at z ⊢;rw[aj,<- z,cf.top]
  .rw[ak e];exact k8 c o e z
theorem mH{m:Nat}:∀ {k:Nat} {x:Nat×ZM},x∈bU m k->1<=x.1/\x.1<=k
 | 0,x,h=>by simp[bU]at h
 | k+1,x,h=>by
  unfold bU at h
  split at h
  .rcases R5.mp h with z|z
   .have:=mH z;omega
   .rw[RX.mp z];exact⟨by omega,R6 _⟩
  .have:=mH h;omega
theorem yq{m:Nat}:∀ {k j:Nat} {x:Nat×ZM},k<=j->x∈bU m k->x∈bU m j
 | k,0,x,h,z=>by
  have:k=0:=by omega
  rw[this]at z;exact z
 | k,j+1,x,h,z=>by
  rcases Sb k (j+1) with y|y
  .have:=yq (show k<=j by omega) z
   unfold bU
   split
   .exact Tx _ this
   .l_out
  .have:k=j+1:=by omega
   rw[<- this];exact z
inductive GY(K:RM)(vs:Z7)(H:Hp)(Q:VK)(E:XK):Prop
 | mk (m:Nat) (_:vs=[.int m]) (_:1<=m) (_:m<=60) (_:fO m=true) (_:∀a H',H a=none->ag H H'->H' a=some (.lst (zsV (d9 m)))->Q (.ref a) H')
theorem CD(h:fO m=true):∀x∈bU m m,x.2≠[]/\kq x.2=true:=λx hx=>by
 unfold fO at h;simp only[Uj]at h;have:=h.1.1.2;rw[SF]at this;have z:=this x hx;simp only[Uj,decide_eq_true_eq]at z;refine⟨λe=>?_,z.1⟩;rw[e]at z;exact absurd z.2 (by decide)
theorem Gn:Fa P w base T.pB 3 (GY K):=by
 exists T.pB.ok rR
 obtain⟨m,rfl,m1,m2,ok,q⟩:=h;refine⟨_,(aa (a9 (pdf T.eT (m8 T) hr (pa1 (pv 0))))
   (aa (pz 1 rR.nd l6)
   (aa (pfo (Fn rfl T.aK (paF ai (pa1 (ao aT (pv 0) ai)))) (pgn 2 rR.nd) (ae (aU (pcm cz (ao aM (pv 0) (pv 2)) ai) (ae (lG (cI hr) (pv 1) (pv 2) (pdf T.hZ (vV T) hr (paF (pv 2) (pa1 (pv 1)))) rfl)) aH)))
   (ae (az (dC (cI hr) (pv 1) (pv 0) (λ_ _=>rfl))))))),?_⟩
 k_go;refine⟨m,rfl,m1,m2,?_⟩;k_go;refine rO λf hf=>?_;k_go;refine Lz ?_;k_go;have f0:CF (upd H f (.dK [])) f [] []:=⟨aj,rfl,by simp,λi p x e=>by simp at e⟩
 refine rD (lo:=1) (n:=m) rfl (by omega) (by omega) (λi σ' H'=>Cn (ag H H') (λ(ps:ZL) (x:ZQ)=>CF H' f (bU m i) ps) (λps x=>(∀p∈ps,H p=none)) (λps x=>σ'=[I? m,R? f,x])) ⟨ar hf _,[],_,f0,by simp,rfl⟩ ?_ ?_
 .rintro i σ' H2 hi ⟨s2,ps,x,cf,F!,rfl⟩;k_go;k_ne;k_go;have e1:1+i=i+1:=by omega
  rw[e1];have cl:(bU m i).length<=i:=by
   have:∀k,(bU m k).length<=k:=λk=>by
    induction k with
    | zero=>exact R6 _
    | succ k ih =>
     unfold bU
     split
     .rw[R8];show _+1<=_;omega
     .omega
   exact this i
  l_fit
  .have ec:bU m (i+1)=bU m i++[(i+1,zT (i+1) (bU m i))]:=by
    show (if m % (i+1)=0 then _ else _)=_;rw[if_pos c]
   k_go;refine lM ?_;k_go;refine⟨f,i+1,bU m i,ps,rfl,cf,by omega,by omega,λx hx=>?_,λa H3 fa s3 ha=>?_⟩
   .have h1:=CD ok x (yq (by omega) hx)
    exact⟨h1.1,h1.2,(mH hx).1⟩
   k_go;have kn:i+1∉(bU m i).map (·.1):=λz=>by
    obtain⟨x,hx,e⟩:=R9.mp z;have:=mH hx;omega
   refine oE (s3 _ _ cf.top) (SA BP (by rw[RP];omega)) ?_
   rw[yk (by rw[RP,cf.len]) kn]
   have af:a≠f:=λz=>by rw[z,cf.top]at fa;cases fa
   w_up
   refine⟨λc o z=>?_,ps++[a],_,⟨?_,?_,?_,λj p x e1 e2=>?_⟩,λp hp=>?_,rfl⟩
   .rw[ak (au z hf)];exact s3 _ _ (s2 _ _ z)
   .rw[aj,ec,SQ];rfl
   .rw[ec,R8,R8,cf.len];rfl
   .rw[ec,SQ];exact sM cf.nd kn
   .rw[ec]at e2;have hl:=cf.len;rcases Sb j ps.length with z|z
    .rw[Sz z]at e1;rw[Sz (by omega)]at e2
     have r:=cf.row j p x e1 e2;have pf:p≠f:=λc=>by rw[c,cf.top]at r;cases r
     rw[ak pf];exact s3 _ _ r
    .rw[SE z]at e1;rw[SE (by omega)]at e2
     have j0:j - ps.length=0:=by
      rcases Tc (j - ps.length) with c|c
      .exact c
      .rw[Sm (by simp;omega)]at e1;cases e1
     rw[j0]at e1;rw[show j - (bU m i).length=0 by omega]at e2
     cases e1;cases e2;rw[ak af];exact ha
   .rcases R5.mp hp with z|z
    .exact F! p z
    .rw[RX.mp z];exact s2.free fa
  .have ec:bU m (i+1)=bU m i:=by
    show (if m % (i+1)=0 then _ else _)=_;rw[if_neg c]
   k_go;exact⟨s2,ps,_,by rw[ec];exact cf,F!,rfl⟩
 .rintro σ' H2 ⟨s2,ps,x,cf,F!,rfl⟩;have ec:bU m m=bU m (m - 1)++[(m,d9 m)]:=by
   obtain⟨k,rfl⟩:∃k,m=k+1:=⟨m - 1,by omega⟩
   show (if (k+1) % (k+1)=0 then _ else _)=_;rw[if_pos (V8 _)];rfl
  have hl:(bU m m)[(bU m (m - 1)).length]?=some (m,d9 m):=by rw[ec,SE (R6 _)];simp
  have ZW:(bU m (m - 1)).length<ps.length:=by rw[cf.len,ec,R8];exact Ui _
  k_go;refine dB ?_;k_go;refine dR cf.top (jG cf.nd (j:=(bU m (m - 1)).length) (by rw[RY,hl];rfl) (RL ZW)) ?_
  exact q _ _ (F! _ (S3 ZW)) s2 (cf.row _ _ _ (RL ZW) hl)
def wfs(r:V)(m z:Int):List (Str×V):=[("rim",r),("spokes",.int m),("size",.int z)]
def uv(C:Addr)(H:Hp)(g:Addr)(m:Nat):Prop:=∃dx r,H g=some (.ins C dx (wfs (.ref r) m ((d9 m).length - 1:Nat)))/\H r=some (.lst (zsV (d9 m)))
theorem uv.mono{g:Nat}(s:ag H H')(h:uv C H g m):uv C H' g m:=by
 obtain⟨dx,r,h1,h2⟩:=h;exact⟨dx,r,s _ _ h1,s _ _ h2⟩
inductive J7(C:Addr)(vs:Z7)(H:Hp)(Q:VK)(E:XK):Prop
 | mk (p dx:Addr) (m:Nat) (_:vs=[.ref p,.int m]) (_:H p=some (.ins C dx [])) (_:1<=m) (_:m<=60) (_:fO m=true) (_:∀r H',H r=none->H' p=some (.ins C dx (wfs (.ref r) m ((d9 m).length - 1:Nat)))->H' r=some (.lst (zsV (d9 m)))->(∀a o,H a=some o->a≠p->H' a=some o)->Q .non H')
theorem Jo:aE P w K mg base CX0 4 T.xl T.wm ["self","many"] (J7 T.cq):=by
 exists T.LD.ok zw
 obtain⟨p,dx,m,rfl,hp,m1,m2,ok,q⟩:=h;have W:=pF ok;refine⟨_,(aa (cB K rfl (pv 0) (pdf T.pB (Gn T) hr (pa1 (pv 1))) rfl)
   (aa (cB K rfl (pv 0) (pv 1) rfl)
   (ae (cB K rfl (pv 0) (ao gA (pln K T.bz (pfl K (pv 0))) ai) rfl)))),?_⟩
 k_go;refine⟨m,rfl,m1,m2,ok,λr H1 fr s1 hr1=>?_⟩;have rp:r≠p:=λz=>by rw[z,hp]at fr;cases fr
 k_go;refine⟨p,T.cq,dx,_,rfl,s1 _ _ hp,T.gF,T.nG,(by show 0<1000;decide),?_⟩
 k_go;refine⟨p,T.cq,dx,_,rfl,aj,T.gF,T.jx,(by show 1<1000;decide),?_⟩
 k_go;refine⟨p,T.cq,dx,_,_,rfl,aj,T.gF,T.nG,rfl,?_⟩;k_go;refine cS (l:=d9 m) (iw (by rw[ak rp,ak rp];exact hr1)) ?_
 k_go;refine⟨p,T.cq,dx,_,rfl,aj,T.gF,T.Bb,(by show 2<1000;decide),?_⟩
 have e:(((d9 m).length:Int) - ((1:Nat):Int))=(((d9 m).length - 1:Nat):Int):=by rw[W.len];omega
 rw[e];refine q r _ fr aj ?_ λa o ha B'=>?_
 .rw[ak rp,ak rp,ak rp];exact hr1
 .rw[ak B',ak B',ak B'];exact s1 _ _ ha
inductive zE(C:Addr)(K:RM)(vs:Z7)(H:Hp)(Q:VK)(E:XK):Prop
 | mk (g:Addr) (v:V) (sp st:Int) (m:Nat) (l:ZM) (_:vs=[.ref g,v,.int sp,.int st]) (_:uv C H g m) (_:1<=m) (_:m<=60) (_:lH m) (_:At K H v l) (_:l.length<=1000) (_:∀b H',H b=none->ag H H'->H' b=some (.lst (zsV (ir (fW m sp st l) (d9 m)).2))->Q (.ref b) H')
theorem zq:aE P w K mg base CX0 2 T.l9 T.l8 ["self","counts","step","start"] (zE T.cq K):=by
 exists T.Bf.ok fM
 obtain⟨g,v,sp,st,m,l,rfl,hW,m1,m2,W,hv,hl,q⟩:=h;obtain⟨dx,r,hg,hr'⟩:=id hW;refine⟨_,(aa (pz 4 fM.nd (ao qR (bj (pa1 ai)) (pfl K (pv 0))))
   (aa (pfo (iy K rfl rfl T.eM (pa1 (pv 1))) (my rfl (cv (pgn 5 fM.nd) (cv (pgn 6 fM.nd) iN))) (aa (pz 7 fM.nd (ao aM (ao aT (pv 3) (ao bO (pv 2) (pv 5))) (pfl K (pv 0))))
   (ae (ot (ao aT (pxl K (pv 4) (pv 7)) (pv 6)) (oC (pv 4) (pv 7) set_list)))))
   (ae (az (dY (cP K rfl) (pdf T.ky (uZ T) hr (paF (pv 4) (pa1 (pfl K (pv 0))))) ai (λ_ _=>rfl)))))),?_⟩
 k_go;refine cH ?_;k_go;refine⟨sK,λp1 k!=>?_⟩
 have s1:=ar k! (.lst [.int ((0:Nat):Int)]);k_go;refine⟨g,T.cq,dx,_,_,rfl,s1 _ _ hg,T.gF,T.jx,rfl,?_⟩;refine⟨p1,_,_,rfl,rfl,aj,by omega,by omega,?_,λa ha=>?_⟩
 .rw[SH];show 1 * _<=_;omega
 rw[show ((m:Nat):Int).toNat=m by omega,KG]
 have fa:H a=none:=s1.free ha;have s2:=s1.trans (ar ha (.lst (zsV (RZ m ((0:Nat):Int)))));have h2:(upd (upd H p1 (.lst [.int ((0:Nat):Int)])) a (.lst (zsV (RZ m ((0:Nat):Int))))) a=some (.lst (zsV (fW m sp st []))):=aj;generalize upd (upd H p1 (.lst [.int ((0:Nat):Int)])) a (.lst (zsV (RZ m ((0:Nat):Int))))=H2 at s2 h2;k_go;refine iG (H₀:=H) hv (λi σ' H'=>JT (ag H H') (λ(x:ZQ) (y:ZQ) (z:ZQ)=>H' a=some (.lst (zsV (fW m sp st (l.take i))))) (λx y z=>σ'=[R? g,some v,I? sp,I? st,R? a,x,y,z])) ⟨s2,_,_,_,h2,rfl⟩ (λi σ' H' z=>z.1) ?_ ?_
 .rintro i c w' σ' H3 H4 p hc hw ⟨s3,x,y,z,h3,rfl⟩ hp hH4 s4;k_sub;have h4:=s4 _ _ h3;have d!:=s3.trans s4;have hil:i<l.length:=(RN.mp hc).1;have pl:=xj (show 0<m by omega) sp st i
  have hll:=m6 m sp st (l.take i);k_go;refine wo (.inr ⟨by omega,by omega⟩) ?_
  k_go;refine⟨g,T.cq,dx,_,_,rfl,d! _ _ hg,T.gF,T.jx,rfl,?_⟩;refine OS (by omega) ?_
  rw[<- xQ (show 0<m by omega)]
  k_go;refine vt (iw h4) rfl (show (fW m sp st (l.take i))[iV m sp st i]?=some ((fW m sp st (l.take i)).getD (iV m sp st i) 0) by
   rw[V0,RL (by omega)];rfl) ?_
  k_go;refine oG h4 rfl (by unfold zsV;rw[RP,hll];exact pl) ?_
  have et:l.take (i+1)=l.take i++[c]:=by rw[Sw,hc];rfl
  have hlen:(l.take i).length=i:=by rw[Sd];omega
  w_up
  refine⟨λb o zz=>by rw[ak (au zz fa)];exact d! _ _ zz,_,_,_,?_,rfl⟩
  rw[aj,et,vh,hlen];unfold zsV;rw[Xl]
 .rintro σ' H3 ⟨s3,x,y,z,h3,rfl⟩;rw[SV]at h3;k_go;refine⟨g,T.cq,dx,_,_,rfl,s3 _ _ hg,T.gF,T.nG,rfl,?_⟩;k_go;refine⟨_,_,_,_,rfl,iw h3,iw (s3 _ _ hr'),W.ne,W.sm,by rw[m6];omega,λt qa qb H4 s4 ht _ fqb _ _ hqb=>?_⟩
  k_go;refine fV ht (i:=1) rfl ?_;exact q qb H4 (s3.free fqb) (s3.trans s4) hqb
inductive vn(C:Addr)(K:RM)(vs:Z7)(H:Hp)(Q:VK)(E:XK):Prop
 | mk (g:Addr) (v:V) (m:Nat) (l:ZM) (_:vs=[.ref g,v]) (_:uv C H g m) (_:1<=m) (_:m<=60) (_:lH m) (_:At K H v l) (_:l.length<=1000) (_:∀b H',H b=none->ag H H'->H' b=some (.lst (zsV (cU m l)))->Q (.ref b) H')
theorem uP:aE P w K mg base CX0 3 T.jw T.jF ["self","counts"] (vn T.cq K):=by
 exists T.xb.ok uK
 obtain⟨g,v,m,l,rfl,hW,m1,m2,W,hv,hl,q⟩:=h;obtain⟨dx,r,hg,hr'⟩:=id hW;refine⟨_,(ae (az (p7 (pv 0) T.gF T.Al (zq T) (hr.mono (by decide)) T.AZ (paF (pv 1) (paF ai (pa1 ai)))))),?_⟩
 k_go;refine vL ?_;k_go;refine⟨g,dx,_,rfl,hg,rfl,?_⟩;k_go;exact⟨g,v,1,0,m,l,rfl,hW,m1,m2,W,hv,hl,q⟩
end
inductive wb(C:Addr)(K:RM)(vs:Z7)(H:Hp)(Q:VK)(E:XK):Prop
 | mk (g:Addr) (v u z:V) (n e m l:Nat) (t:AC) (R M:AT) (_:vs=[.ref g,v,u,z]) (_:aG C H g n t e) (_:GT n t e) (_:At K H v R) (_:IsPart n t R) (_:At K H u M) (_:M.length=R.length) (_:(∀x∈M,x<m)) (_:(z=.int m\/(z=.non/\m=l))) (_:cA (b5 n t e) l) (_:m % l=0) (_:0<m) (_:m<=60) (_:∀x H' o,ag H H'->Rx H' x o->lO t R M m o->Q x H')
section
variable {P:Sj}{w:World} 
inductive wC(K:RM)(vs:Z7)(H:Hp)(Q:VK)(E:XK):Prop
 | mk (v u:V) (m:Nat) (R M:AT) (_:vs=[v,u,.int m]) (_:At K H v R) (_:At K H u M) (_:M.length=R.length) (_:M.length<=1000) (_:(∀x∈M,x<m)) (_:∀H',ag H H'->Q .non H')
theorem wR:Fa P w base T.ik 1 (wC K):=by
 exists T.ik.ok xr
 obtain⟨v,u,m,R,M,rfl,hR,hM,hl,h1,mm,q⟩:=h;refine⟨_,(aa (aU (pcm fY (pln K T.bz (pv 1)) (pln K T.bz (pv 0))) (ae cZ) aH)
   (ae (aU (lS (cO (yG K rfl rfl) rfl T.Kt YK (pa1 (bA rfl lT (pil K (pv 1)) (λ_ _ _ _=>⟨(pgn 0 lT.nd),aZ,(P5 (iH nh (pv 0) ai (iT _)) (B6 (iH zL (pv 0) (pv 1) (iT _))))⟩))))) (ae cZ) aH))),?_⟩
 k_go;k_ne;k_go;refine bW (λc=>absurd hl c) (λ_=>?_);k_go;k_ne;k_go;refine jy (β:=Bool) hM (by omega) (λi=>RZ i false) (λσ'=>∃y,σ'=[y,I? m]) rfl (λi _=>by simp) ⟨_,rfl⟩ ?_ ?_
 .walk_at "125";have c1:=mm c (RQ hc);k_go;k_cls
  k_go;rw[decide_eq_false (show ¬ c >= m by omega)]
  exact J' _ _ false _ ⟨_,rfl⟩ (ag.refl _) rfl Vc
 intro d2 H3 s3 h3;have h3':At K H3 (.ref d2) (RZ M.length false):=h3;k_go;refine Kr h3' ?_;rw[show (RZ M.length false).any id=false from Ws.mpr λx hx=>by rw[Vt hx];decide]
 k_go;refine gn ?_;k_go;exact q _ s3
theorem wU:aE P w K mg base CX0 4 T.ic.f T.ic.fd ["group","part","marks","spokes"] (wb T.aB K):=by
 exists T.ic.ok eY
 obtain⟨g,v,u,z,n,e,m,l,t,R,M,rfl,hG,gt,hR,pt,hM,ml,mm,hz,hl,H!,m1,K',q⟩:=h;have b!:=gt.le;have rl:=pt.len;have nd:=aA pt.srt;have sv:oF n t e z m:=by
  rcases hz with rfl|⟨rfl,rfl⟩
  .k_mem
  .exact .inl ⟨rfl,hl⟩
 refine⟨_,(aa (a9 (pdf T.dX (gX T) hr (paF (pv 0) (pa1 (pv 1)))))
   (aa (pz 4 eY.nd (pdf T.fg (iW T) hr (paF (pv 0) (pa1 (pv 3)))))
   (aa (a9 (pdf T.ik (wR T) hr (paF (pv 1) (paF (pv 2) (pa1 (pv 4))))))
   (aa (pz 5 eY.nd (js K rfl rfl rfl T.rM rfl T.va (paF (pv 1) (pa1 (pv 2)))))
   (aa (pfo (pil K (pv 1)) (pgn 6 eY.nd) (ae (pfo (pil K (pv 1)) (pgn 7 eY.nd) (ae (aU (pcm fY (dC (cI hr) (pv 5) (pxl K (pxl K (pfl K (pv 0)) (pv 6)) (pv 7)) (λ_ _=>rfl)) (ao aM (ao aT (dC (cI hr) (pv 5) (pv 6) (λ_ _=>rfl)) (dC (cI hr) (pv 5) (pv 7) (λ_ _=>rfl))) (pv 4))) (ae (az (i8 (paF (pv 6) (pa1 (pv 7)))))) aH)))))
   (ae (az Cb))))))),?_⟩
 apply⟨g,v,n,e,t,R,rfl,hG,gt,hR,pt,λH1 s1=>?_⟩;apply⟨g,z,n,e,m,t,rfl,aG.mono s1 hG,gt,sv,λH2 s2=>?_⟩;k_put;apply⟨v,u,m,R,M,rfl,Rep.mono d6 hR,Rep.mono d6 hM,ml,by omega,mm,λH3 s3=>?_⟩
 have C':=d6.trans s3;apply j9 ?_;apply AE (Rep.mono C' hR) (Rep.mono C' hM) ml.symm nd λd hd=>?_;have d!:=C'.trans (ar hd (.dK (cY R M)));have V!:upd H3 d (.dK (cY R M)) d=some (.dK (cY R M)):=aj;generalize upd H3 d (.dK (cY R M))=H4 at d! V! ⊢;have hG4:=aG.mono d! hG;obtain⟨dx,r4,bk,hg,hT,hB⟩:=hG4.get (K:=K);apply eA (Rep.mono d! hR) (λj σ' H'=>lK (H'=H4) ((∀j',j' < j->∀k,k<R.length->jz t R M m j' k)) (λx6 x7=>σ'=[R? g,some v,some u,some z,I? m,R? d,x6,x7])) ⟨rfl,λj hj=>absurd hj (by omega),_,_,rfl⟩ (λi σ' H' y=>by rw[y.1];exact ag.refl _) ?_ ?_
 .rintro j a w' σ' H' ha hw ⟨rfl,hj,x6,x7,rfl⟩;cases(show w'=V.int a from hw);have jl:j<R.length:=(RN.mp ha).1;have haR:=RQ ha;have han:=pt.lt a haR;have mi:=getD_some (l:=M) 0 (show j<M.length by omega)
  have ea:R.getD j 0=a:=by rw[RT,ha];rfl
  apply eA (Rep.mono d! hR) (λk σ' H1=>gv (H1=H') ((∀k',k' < k->jz t R M m j k')) (λx7=>σ'=[R? g,some v,some u,some z,I? m,R? d,I? a,x7])) ⟨rfl,λj hj=>absurd hj (by omega),_,rfl⟩ (λi σ' H1 y=>by rw[y.1];exact ag.refl _) ?_ ?_
  .rintro k b w2 σ' H1 hb S! ⟨rfl,g!,x7,rfl⟩;cases(show w2=V.int b from S!);have kl:k<R.length:=(RN.mp hb).1;have hbR:=RQ hb;have hbn:=pt.lt b hbR;have mk:=getD_some (l:=M) 0 (show k<M.length by omega)
   have eb:R.getD k 0=b:=by rw[RT,hb];rfl
   have hab:=pt.cl a haR b hbR;have hx:=SY hab;have mx:=getD_some (l:=M) 0 (show R.idxOf (tb t a b)<M.length by omega)
   have oke:jz t R M m j k↔M.getD (R.idxOf (tb t a b)) 0=(M.getD j 0+M.getD k 0) % m:=by
    unfold jz;rw[ea,eb]
   fin2;k_ne;apply dB ?_;symm;refine b6 hT rfl (gt.get han) λw1 U'=>?_;apply bw U' (gt.c8 han hbn) ?_;refine dR V! (gm nd (lJ hab) mx) ?_;apply dB ?_;apply dR V! (gm nd ha mi) ?_;apply dB ?_;apply dR V! (gm nd hb mk) ?_;apply bW (λy=>?_) (λy=>?_)
   .apply jS ?_;apply⟨Sc,λp hp=>?_⟩
    fin2;exact q _ _ (some (a,b)) (d!.trans (ar hp _)) ⟨p,rfl,aj⟩ ⟨j,k,jl,kl,ea,eb,λy'=>y (oke.mp y'),hj,g!⟩
   .apply⟨rfl,λk' hk2=>?_,_,rfl⟩;rcases Sb k' k with y' | y'
    .exact g! k' y'
    .have:k'=k:=by omega
     rw[this];exact oke.mpr y
  .rintro σ' H1 ⟨rfl,g!,x7,rfl⟩;apply⟨rfl,λj' hj2 k hk=>?_,_,_,rfl⟩;rcases Sb j' j with y|y
   .exact hj j' y k hk
   .have:j'=j:=by omega
    rw[this];exact g! k hk
 .rintro σ' H' ⟨rfl,hj,x6,x7,rfl⟩;fin2;exact q _ _ none d! rfl λj hj2 k hk=>hj j hj2 k hk
inductive zr(C:Addr)(K:RM)(vs:Z7)(H:Hp)(Q:VK)(E:XK):Prop
 | mk (g:Addr) (v:V) (n e x:Nat) (t:AC) (R:AT) (_:vs=[.ref g,v,.int x]) (_:aG C H g n t e) (_:GT n t e) (_:At K H v R) (_:IsPart n t R) (_:x<n) (_:∀k H',ag H H'->1<=k->ax t e x k∈R->(∀i,1<=i->i<k->ax t e x i∉R)->Q (.int k) H')
theorem oB(gt:GT n t e)(hx:x<n)(k:Nat):ax t e x ((k:Int) % (aI n t e x:Int)).toNat=ax t e x k:=by
 rw[<- ur gt hx k];rfl
theorem yK:Fa P w base T.jk 3 (zr T.aB K):=by
 exists T.jk.ok kJ
 obtain⟨g,v,n,e,x,t,R,rfl,hG,gt,hR,pt,hx,q⟩:=h;refine⟨_,(aa (pz 3 kJ.nd ai)
   (aa (fB Ut (oi (mX K rfl) (pdf T.iM (mE T) hr (paF (pv 0) (paF (pv 2) (pa1 (pv 3))))) (pv 1) (by with_unfolding_all rfl)) (ae (pz 3 kJ.nd (ao aT (pv 3) ai))))
   (ae (az (pv 3))))),?_⟩
 have os:=dD gt hx;have op:=fP (n:=n) (t:=t) (e:=e) (a:=x);apply fJ (λb σ' H'=>rP (ag H H') (λk=>1<=k) (λk=>k<=aI n t e x) (λk=>b=aI n t e x - k) (λk=>(∀i,1<=i->i<k->ax t e x i∉R)) (λk=>σ'=[R? g,some v,I? x,I? k])) (aI n t e x - 1)
  ⟨ag.refl _,1,R6 _,op,rfl,λi h1 h2=>absurd h1 (by omega),rfl⟩ ?_
 rintro b σ' H1 ⟨s1,k,k1,k2,rfl,ko,rfl⟩;apply⟨g,n,e,x,(k:Int),t,rfl,aG.mono s1 hG,gt,hx,λH2 s2=>?_⟩;rw[oB gt hx k];k_put;apply xa (Rep.mono d6 hR) ?_;apply bW (λc=>?_) (λc=>?_)
 .have k3:k<aI n t e x:=by
   rcases Sb k (aI n t e x) with y|y
   .exact y
   .have:k=aI n t e x:=by omega
    rw[this,os.2.1]at c;exact absurd (pt.un gt) c
  refine⟨λσ2 H4=>ag H H4/\σ2=[R? g,some v,I? x,I? ((k+1:Nat):Int)],λσ2 H4 y=>⟨aI n t e x - (k+1),by omega,y.1,k+1,by omega,k3,rfl,λi i1 i2=>?_,y.2⟩,?_⟩
  .rcases Sb i k with y|y
   .exact ko i i1 y
   .have:i=k:=by omega
    rw[this];exact c
  fin2;exact⟨d6,rfl⟩
 .fin2;exact q k _ d6 k1 c ko
theorem LM{b:Addr}(fb:H b=none)(s:ag H H'):ag H (upd H' b o):=λa o' z=>by
 rw[ak (au z fb)];exact s _ _ z
theorem qi{kvs:Z2}{k:Key}{v:V}(h:k∉kvs.map (·.1)):putK kvs k v=kvs++[(k,v)]:=by
 unfold putK;rw[if_neg];intro z;obtain⟨p,hp,e⟩:=WL.mp z;exact h (R9.mpr ⟨p,hp,of_decide_eq_true e⟩)
theorem IL{kvs:Z2}{k k':Key}{v:V}(h:k∉kvs.map (·.1)):bq (kvs++[(k,v)]) k'=if k=k' then some v else bq kvs k':=by
 unfold bq;rw[List.find?_append]
 by_cases c:k=k'
 .subst c;have:kvs.find? (λkv=>decide (kv.1=k))=none:=List.find?_eq_none.mpr λp hp z=>h (R9.mpr ⟨p,hp,of_decide_eq_true z⟩);rw[this,if_pos rfl];simp
 .rw[if_neg c];have:[(k,v)].find? (λkv=>decide (kv.1=k'))=none:=by simp[c]
  rw[this,Option.or_none]
def AF(n:Nat)(t:AC)(e:Nat)(R M:AT)(x k:Nat)(H:Hp)(kvs:Z2)(l:AT):Prop:=kvs.map (·.1)=l.map nk /\
 ∀y∈l,∃q,bq kvs (nk y)=some (.ref q)/\H q=some (.tup [.int (mkO R M (bsO n t e R x k y):Int),.int (ixO n t e R x k y:Int)])
theorem AF.put{kvs:Z2}(h:AF n t e R M x k H kvs l)(hy:y∉l)(hH:∀a xs,H a=some (.tup xs)->H' a=some (.tup xs))(hq:H' q=some (.tup [.int (mkO R M (bsO n t e R x k y):Int),.int (ixO n t e R x k y:Int)])) :
  AF n t e R M x k H' (putK kvs (nk y) (.ref q)) (l++[y]):=by
 have no:nk y∉kvs.map (·.1):=by
  rw[h.1];intro z;obtain⟨y',h1,h2⟩:=R9.mp z;exact hy (gj h2 ▸ h1)
 rw[qi no];refine⟨by rw[SQ,h.1,SQ];rfl,λz hz=>?_⟩
 rw[IL no];rcases R5.mp hz with c|c
 .obtain⟨q',a,b⟩:=h.2 z c;have:¬ nk y=nk z:=λe=>hy (gj e ▸ c);rw[if_neg this];exact⟨q',a,hH _ _ b⟩
 .have:=RX.mp c;subst this;rw[if_pos rfl];exact⟨q,rfl,hq⟩
inductive CB(C:Addr)(K:RM)(vs:Z7)(H:Hp)(Q:VK)(E:XK):Prop
 | mk (g:Addr) (v u:V) (n e x m:Nat) (t:AC) (R M:AT) (_:vs=[.ref g,v,u,.int x,.int m]) (_:aG C H g n t e) (_:GT n t e) (_:At K H v R) (_:IsPart n t R) (_:At K H u M) (_:IsW t R M m) (_:x<n) (_:m<=60) (_:(∀k,1<=k->ax t e x k∈R->(∀i,1<=i->i<k->ax t e x i∉R)->cV n t e R M x m k)) (_:∀p dg df H' P L,H dg=none->ag H H'->H' p=some (.tup [.ref dg,.ref df])->H' dg=some (.lst (aw P))->Rows H H' df L->Taken n t e R M x m P L->Q (.ref p) H')
theorem tH:Fa P w base T.i5 4 (CB T.aB K):=by
 exists T.i5.ok cX
 obtain⟨g,v,u,n,e,x,m,t,R,M,rfl,hG,gt,hR,pt,hM,hw,hx,K',tk,q⟩:=h;obtain⟨dx,gr,gb,hg,hT,hB⟩:=hG.get (K:=K);have b!:=gt.le;have rl:=pt.len;have ml:=hw.len;have nd:=aA pt.srt;refine⟨_,(aa (pz 5 cX.nd (js K rfl rfl rfl T.rM rfl T.va (paF (pv 1) (pa1 (pv 2)))))
   (aa (pz 6 cX.nd (pdf T.jk (yK T) hr (paF (pv 0) (paF (pv 1) (pa1 (pv 3))))))
   (aa (pz 7 cX.nd (dC (cI hr) (pv 5) (pdf T.iM (mE T) hr (paF (pv 0) (paF (pv 3) (pa1 (pv 6))))) (λ_ _=>rfl)))
   (aa (pz 8 cX.nd l6)
   (aa (pfo (prg T.aK (pv 6)) (pgn 9 cX.nd) (ae (pfo (pil K (pv 1)) (pgn 10 cX.nd) (ae (lG (cI hr) (pv 8) (pxl K (pxl K (pfl K (pv 0)) (pv 10)) (pdf T.iM (mE T) hr (paF (pv 0) (paF (pv 3) (pa1 (pv 9)))))) (i8 (paF (dC (cI hr) (pv 5) (pv 10) (λ_ _=>rfl)) (pa1 (pv 9)))) rfl)))))
   (aa (pz 11 cX.nd (cO (zB rfl) rfl T.gg T1 (pa1 (pv 8))))
   (aa (pz 12 cX.nd (bj bT))
   (aa (pfo (prg T.aK (pv 4)) (pgn 13 cX.nd) (ae (aU (pcm cz (ao aM (ao bO (pv 6) (pv 13)) (pv 4)) (pv 7)) (ae (a9 (pap K (pv 12) (bA rfl qk (pil K (pv 11)) (λ_ _ _ _=>⟨(pgn 0 qk.nd),aZ,(ao aM (ao aT (dY (cP K rfl) (dC (cI hr) (pv 1) (pv 0) (λ_ _=>rfl)) ai (λ_ _=>rfl)) (ao bO (dY (cP K rfl) (dC (cI hr) (pv 1) (pv 0) (λ_ _=>rfl)) ai (λ_ _=>rfl)) (pv 2))) (pv 3))⟩))))) aH)))
   (ae (az (i8 (paF (pv 11) (pa1 (cO (qD K rfl hr.units) rfl T.gg T1 (pa1 (pv 12)))))))))))))))),?_⟩
 apply j9 ?_;apply AE hR hM ml.symm nd λd hd=>?_;exists hd,(.dK (cY R M)),H,d,s1,hd1,(.dK (cY R M)),H1;apply⟨g,v,n,e,x,t,R,rfl,aG.mono s1 hG,gt,Rep.mono s1 hR,pt,hx,λk H2 s2 k1 kin nT=>?_⟩;have T0:=tk k k1 kin nT;k_put;have hd2:=s2 _ _ hd1;have pn:=λj=>bp gt hx j;k_asm
 apply dB ?_;apply⟨g,n,e,x,(k:Int),t,rfl,aG.mono d6 hG,gt,hx,λH3 s3=>?_⟩;rw[oB gt hx k];have C':=d6.trans s3;have hd3:=s3 _ _ hd2;refine dR hd3 (mk0 _ kin) ?_;apply rO λdo' hdo=>?_;exists hdo,(.dK []),H3,do',s34,w4,(.dK []),H4;have d!:=C'.trans s34;have V!:=s34 _ _ hd3;have fo:H do'=none:=C'.free hdo;have dne:d≠do':=bC hd3 hdo;have ll:(lay t e x R k).length<=n:=cx (T0.nd gt) (T0.lt gt);have lk:k * R.length<=23:=by rw[<- wc (t:=t) (e:=e) (x:=x)];omega
 have r1:0<R.length:=Sr.mpr pt.ne;have k23:k<=23:=SA (US k r1) lk;have new:∀ {i j h:Nat},i<k->R[j]?=some h->tb t h (ax t e x i)∉lay t e x R i++(R.take j).map (λh=>tb t h (ax t e x i)):=λ{i j h} hi hj z=>by
  have hh:=RQ hj;rcases R5.mp z with c|c
  .obtain⟨i',v!,h',x!,e'⟩:=eR.mp c;have:=(T0.one gt x! hh (by omega) hi e').1
   omega
  .obtain⟨h',x!,e'⟩:=R9.mp c;have e2:=(T0.one gt (VU x!) hh hi hi e').2;subst e2;obtain⟨j',Q!⟩:=Sk x!;rw[List.getElem?_take]at Q!
   split at Q!
   .have a1:=eG nd hj;have a2:=eG nd Q!;omega
   .cases Q!
 apply aX (n:=k) rfl (by omega) (λi σ' H'=>Ig (ag H3 H') (λ(kvs:Z2) (x9:ZQ) (e!:ZQ)=>H' do'=some (.dK kvs)) (λkvs x9 e!=>AF n t e R M x k H' kvs (lay t e x R i)) (λkvs x9 e!=>σ'=[R? g,some v,some u,I? x,I? m,R? d,I? k,I? (mkO R M (ax t e x k):Int),R? do',x9,e!,none,none,none])) ⟨s34,[],_,_,w4,⟨rfl,λy hy=>absurd hy T7⟩,rfl⟩ ?_ ?_
 .rintro i σ' H5 hi ⟨s5,kvs,x9,e!,w5,og,rfl⟩;apply dQ (H₀:=H3) (α:=Nat) (Rep.mono C' hR) (λj σ' H'=>Cn (ag H3 H') (λ(kvs:Z2) (e!:ZQ)=>H' do'=some (.dK kvs)) (λkvs e!=>AF n t e R M x k H' kvs (lay t e x R i++(R.take j).map λh=>tb t h (ax t e x i))) (λkvs e!=>σ'=[R? g,some v,some u,I? x,I? m,R? d,I? k,I? (mkO R M (ax t e x k):Int),R? do',I? i,e!,none,none,none])) ⟨s5,kvs,_,w5,by simpa using og,rfl⟩ (λi σ' H' z=>z.1) ?_ ?_
  .rintro j h w' σ' H6 hj E! ⟨s6,kvs,e!,w6,og,rfl⟩;cases(show w'=V.int h from E!);have hh:=RQ hj;have hn:=pt.lt h hh;have kl:kvs.length<=100000:=by
    have e1:=congrArg V4 og.1;rw[RP,RP,R8,RP,wc]at e1;have:(R.take j).length<=R.length:=by rw[Sd];omega
    have:i * R.length<=k * R.length:=UQ _ (by omega)
    omega
   apply lM ?_;apply jS ?_;apply dB ?_;apply dR (s6 _ _ hd3) (mk0 h hh) ?_;apply⟨Sc,λq' hq'=>?_⟩
   exists hq',(.tup [.int (mkO R M h:Int),.int i]),H6,q',s67,w7,(.tup [.int (mkO R M h:Int),.int i]),H7;have s07:=C'.trans (s6.trans s67);apply bR T (s07 _ _ hg) ?_;apply b6 (Rep.mono s07 hT) rfl (gt.get hn) λw1 U'=>?_;apply⟨g,n,e,x,(i:Int),t,rfl,aG.mono s07 hG,gt,hx,λH8 s8=>?_⟩;rw[oB gt hx i];refine bw (Rep.mono s8 U') (gt.c8 hn (pn i)) ?_;have w8:=s8 _ _ (s67 _ _ w6);refine oE w8 kl ?_;w_up
   refine⟨LM hdo (s6.trans (s67.trans s8)),_,_,aj,?_,rfl⟩;have tk1:lay t e x R i++(R.take (j+1)).map (λh=>tb t h (ax t e x i))=(lay t e x R i++(R.take j).map λh=>tb t h (ax t e x i))++[tb t h (ax t e x i)]:=by
    rw[Sw,hj,SQ,Vf];rfl
   rw[tk1];refine og.put (new hi hj) (q:=q') (λa xs z=>?_) ?_
   .have:a≠do':=λe1=>by rw[e1,w6]at z;cases z
    rw[ak this];exact s8 _ _ (s67 _ _ z)
   .have:q'≠do':=λe1=>by rw[e1,w6]at hq';cases hq'
    rw[ak this,(T0.org gt hh hi).1,(T0.org gt hh hi).2];exact s8 _ _ w7
  .rintro σ' H6 ⟨s6,kvs,e!,w6,og,rfl⟩;rw[SV]at og;fin2;exact⟨s6,kvs,_,_,w6,by rw[Bx];exact og,rfl⟩
 rintro σ' H5 ⟨s5,kvs,x9,e!,w5,og,rfl⟩;apply F5 w5 og.1 (by omega) λdg Pt hdg hpt X'=>?_
 exists hdg,(.lst (aw Pt)),H5,dg,s56,w6,(.lst (aw Pt)),H6;have s06:=C'.trans (s5.trans s56);have fdg:H dg=none:=(C'.trans s5).free hdg;have pl:Pt.length<=23:=by rw[hpt.length_eq];omega
 have pm:∀y,y∈Pt↔y∈lay t e x R k:=λy=>hpt.mem_iff;have ps:Pt.Pairwise (· < ·):=kC (hpt.nodup_iff.mpr (T0.nd gt)) X';have wo6:=s56 _ _ w5;have og6:∀y∈Pt,∃q,bq kvs (nk y)=some (.ref q)/\H6 q=some (.tup [.int (mkO R M (bsO n t e R x k y):Int),.int (ixO n t e R x k y:Int)]):=λy hy=>by
  obtain⟨q,a,b⟩:=og.2 y ((pm y).mp hy);exact⟨q,a,s56 _ _ b⟩
 apply cH ?_;apply⟨sB,λdf K!=>?_⟩
 exists K!,(.lst []),H6,df,s67,w7,(.lst []),H7;have m1:=T0.m1
 let pr:Nat->Bool:=λy=>decide (k * y % m=mkO R M (ax t e x k))
 let row:Nat->AT:=λy=>Pt.map (gY n t e R M x m k y)
 apply aX (n:=m) rfl (by omega) (λi σ' H'=>uX (ag H6 H') (λ(x13:ZQ)=>Rows H H' df (((RS i).filter pr).map row)) (λx13=>σ'=[R? g,some v,some u,I? x,I? m,R? d,I? k,I? (mkO R M (ax t e x k):Int),R? do',x9,e!,R? dg,R? df,x13])) ⟨s67,_,Rows.nil (s06.free K!) w7,rfl⟩ ?_ ?_
 .rintro y σ' H8 hy ⟨s8,x13,rw8,rfl⟩;have kc:((RS y).filter pr).length<=y:=by
   have:=Up pr (RS y);rw[Sv]at this;l_out
  fin2;k_ne;apply aW (λc=>?_) (λc=>?_)
  .have pt1:(RS (y+1)).filter pr=(RS y).filter pr++[y]:=by
    rw[Vs,VE];have:pr y=true:=decide_eq_true c;simp[List.filter,this]
   obtain⟨hb1,ps1,hb2,hb3⟩:=id rw8;apply⟨.inl ⟨rfl,_,SqL.of hb2⟩,?_⟩;apply kg (β:=Nat) (bu (s8 _ _ w6)) (by omega) (λi=>(row y).take i) (λσ'=>∃z,σ'=[z,R? do',I? y,I? m]) rfl (λi _=>by rw[Sd];omega) ⟨_,rfl⟩ ?_ ?_
   .rintro i z w' σ' H9 d' R' R0 hz hs E! ⟨z',rfl⟩ J' a! ZZ;cases(show w'=V.int z from E!);obtain⟨q1,a1,b1⟩:=og6 z (RQ hz);have s69:=s8.trans hs;apply dB ?_;apply dR (s69 _ _ wo6) a1 ?_;apply fV (i:=0) (s69 _ _ b1) rfl ?_;apply dB ?_;apply dR (s69 _ _ wo6) a1 ?_;apply fV (i:=1) (s69 _ _ b1) rfl ?_;fin2;exact J' _ _ _ _ ⟨_,rfl⟩ (ag.refl _) rfl (by
     rw[Sw];show _++((Pt.map (gY n t e R M x m k y))[i]?).toList=_;rw[RY,hz];rfl)
   intro dr H9 hdr s9 h9;have g9:Gr K H9 dr ((row y).take Pt.length):=h9;rw[Sn (by show (Pt.map _).length<=_;simp)]at g9
   have rw9:=rw8.mono s9;apply nH rw9 (by rw[RP];omega) ((s06.trans s8).free hdr) (bC hb2 hdr).symm (eI g9) λH10 rw10 k10=>?_
   w_up
   refine⟨λa o z=>?_,_,?_,rfl⟩
   .have ha:a≠df:=bC z K!;exact k10 a o ha (s9 _ _ (s8 _ _ z))
   .rw[pt1,SQ];exact rw10
  .have pt1:(RS (y+1)).filter pr=(RS y).filter pr:=by
    rw[Vs,VE];have:pr y=false:=decide_eq_false c;simp[List.filter,this]
   fin2;exact⟨s8,_,by rw[pt1];exact rw8,rfl⟩
 rintro σ' H8 ⟨s8,x13,rw8,rfl⟩;have s08:=s06.trans s8;have fl:(((RS m).filter pr).map row).length<64:=by
  have:=Up pr (RS m);rw[Sv]at this;rw[RP];omega
 apply jS ?_;apply uM s08 rw8 fl λd' L H9 ZZ s9 hpm rw9=>?_;apply⟨Sc,λp hp=>?_⟩
 have s910:=ar hp (.tup [.ref dg,.ref d']);refine q p dg d' _ Pt L fdg (s08.trans (s9.trans s910)) aj (s910 _ _ (s9 _ _ (s8 _ _ w6))) (rw9.mono s910) (T0.taken gt ps pm hpm)
theorem Ke{g:TG}{t:TS}{D:Ends}{xs:Z7}(Pv:ZT)(h0:Pv 0 σ H)(hl:∀i σ' H',Pv i σ' H'->SqL K H' p xs)
  (hs:∀i x σ' H',xs[i]?=some x->Pv i σ' H'->g x σ' H' λσ2 H2=>t { D with nx:=Pv (i+1),ct:=Pv (i+1),bk:=D.nx } σ2 H2) (hd:∀σ' H',Pv xs.length σ' H'->D.nx σ' H') :
  gL K (.ref p) H (eJ g t D σ) :=
 ⟨p,rfl,⟨xs,hl 0 σ H h0⟩,o7 (K:=K) (a:=p) (xs:=xs) Pv h0 (λi σ' H' _ q=>hl i σ' H' q) hs hd⟩
theorem Paired.Fs{α β:Type}{F:α->β->Prop}:∀ {l:List α} {m:List β},Tb F l m->∀ {i:Nat} {a:α} {b:β},l[i]?=some a->m[i]?=some b->F a b
 | _,_,.nil,i,a,b,h,_=>by simp at h
 | _,_,.cons r t,0,a,b,h,h'=>by
  simp at h h';subst h;subst h';exact r
 | _,_,.cons r t,i+1,a,b,h,h'=>Paired.Fs t (by simpa using h) (by simpa using h')
inductive G4(K:RM)(vs:Z7)(H:Hp)(Q:VK)(E:XK):Prop
 | mk (p:Addr) (H0:Hp) (as:ZL) (Ls:List (AC)) (_:vs=[.ref p]) (_:ag H0 H) (_:SqL K H p (as.map V.ref)) (_:Tb (λa L=>Rows H0 H a L) as Ls) (_:(∀L∈Ls,∀r∈L,r≠[])) (_:Ls.flatten.length<=1000) (_:∀d H',ag H H'->Rows H0 H' d Ls.flatten->Q (.ref d) H')
theorem HM:Fa P w base T.qg 1 (G4 K):=by
 exists T.qg.ok qV
 obtain⟨p,H0,as,Ls,rfl,s0,hp,hP,B',hl,q⟩:=h;refine⟨_,(aa (pz 1 qV.nd (bj bT))
   (aa (pfo (pil K (pv 0)) (pgn 2 qV.nd) (ae (a9 (rm K rfl Us XX XY xK (pv 1) (pa1 (pv 2))))))
   (ae (az (pv 1))))),?_⟩
 apply cH ?_;apply⟨sB,λd hd=>?_⟩
 exists hd,(.lst []),H,d,s1,w1,(.lst []),H1;apply Ke (K:=K) (xs:=as.map V.ref) (λi σ' H'=>uX (ag H H') (λ(x2:ZQ)=>Rows H0 H' d (Ls.take i).flatten) (λx2=>σ'=[R? p,R? d,x2])) ⟨s1,_,by rw[List.take_zero];exact Rows.nil (s0.free hd) w1,rfl⟩ (λi σ' H' z=>z.1.seq hp) ?_ ?_
 .rintro i x σ' H2 hx ⟨s2,x2,rw2,rfl⟩;rw[RY]at hx;obtain⟨a,ha,rfl⟩:=Tv.mp hx;obtain⟨L,hL,ra⟩:=Paired.getL hP ha;have hLm:=RQ hL;have tk:(Ls.take (i+1)).flatten=(Ls.take i).flatten++L:=by
   rw[Sw,hL,U0];simp
  have len:((Ls.take i).flatten++L).length<=1000:=by
   rw[<- tk];have:(Ls.take (i+1)).flatten.length+(Ls.drop (i+1)).flatten.length=Ls.flatten.length:=by
    rw[<- R8,<- U0,UK]
   omega
  obtain⟨hb1,ps1,hb2,hb3⟩:=id rw2;apply⟨.inl ⟨rfl,_,SqL.of hb2⟩,?_⟩;apply CK rw2 (ra.mono s2) (B' L hLm) (by rw[R8]at len;omega) λH3 rw3 k3=>?_
  exact⟨λb o z=>k3 b o (bC z hd) (s2 _ _ z),_,by rw[tk];exact rw3,rfl⟩
 .rintro σ' H2 ⟨s2,x2,rw2,rfl⟩;rw[RP,hP.length,SV]at rw2;fin2;exact q d H2 s2 rw2
def vX(n:Nat)(t:AC)(e:Nat)(R:AT)(x m:Nat)(H0 H:Hp)(y:V)(M:AT):Prop:=∃ (p dg df:Addr) (Pt:AT) (L:AC),y=.ref p/\H p=some (.tup [.ref dg,.ref df])/\H dg=some (.lst (aw Pt))/\Rows H0 H df L/\Taken n t e R M x m Pt L
theorem vX.mono{y:V}(s:ag H H')(h:vX n t e R x m H0 H y M):vX n t e R x m H0 H' y M:=by
 obtain⟨p,dg,df,Pt,L,a,b,c,d,f⟩:=h;exact⟨p,dg,df,Pt,L,a,s _ _ b,s _ _ c,d.mono s,f⟩
theorem Br{n e x m:Nat}{t:AC}{R:AT}{H0 H:Hp}:∀ {ys:Z7} {F:AC},Tb (λy M=>vX n t e R x m H0 H y M) ys F->∃ (dfs:ZL) (Ls:List (AC)),Tb (λy a=>∃p dg,y=.ref p/\H p=some (.tup [.ref dg,.ref a])) ys dfs/\Tb (λa L=>Rows H0 H a L) dfs Ls/\Tb (λM L=>∃Pt,Taken n t e R M x m Pt L) F Ls
 | _,_,.nil=>⟨[],[],.nil,.nil,.nil⟩
 | _,_,.cons r h=>by
  obtain⟨dfs,Ls,a,b,c⟩:=Br h;obtain⟨p,dg,df,Pt,L,r1,r2,r3,r4,r5⟩:=r;exact⟨df :: dfs,L :: Ls,.cons ⟨p,dg,r1,r2⟩ a,.cons r4 b,.cons ⟨Pt,r5⟩ c⟩
theorem Ia{l:Nat}(gt:GT n t e)(hl:cA (b5 n t e) l)(h:m % l=0)(hx:x<n):ax t e x m=e:=by
 obtain⟨c,rfl⟩:=Tj h;have ho:l % aI n t e x=0:=hl.all _ (R9.mpr ⟨x,RU.mpr hx,rfl⟩);obtain⟨d,rfl⟩:=Tj ho;rw[Vw];exact jA gt hx (dD gt hx).2.1 _
theorem KR(k:Nat):(RZ k [V.int ((0:Nat):Int)]).flatten=aw (RZ k 0):=by
 unfold aw
 induction k with
 | zero=>rfl
 | succ k ih=>rw[TK,UG,ih,TK];rfl
inductive Lp(C:Addr)(K:RM)(vs:Z7)(H:Hp)(Q:VK)(E:XK):Prop
 | mk (g:Addr) (v z:V) (n e m l:Nat) (t:AC) (S:AT) (_:vs=[.ref g,v,z]) (_:aG C H g n t e) (_:GT n t e) (_:At K H v S) (_:IsPart n t S) (_:(z=.int m\/(z=.non/\m=l))) (_:cA (b5 n t e) l) (_:m % l=0) (_:0<m) (_:m<=60) (_:∀d H' D L,ag H H'->Rows H H' d L->Gen n t e (fq n t e S) D->NJ t D S m L->Q (.ref d) H')
theorem Ln:aE P w K mg base CX0 6 T.uA.f T.uA.fd ["group","part","spokes"] (Lp T.aB K):=by
 exists T.uA.ok iD
 obtain⟨g,v,z,n,e,m,l,t,S,rfl,hG,gt,hS,pt,hz,hl,H!,m1,K',q⟩:=h;have b!:=gt.le;have sv:oF n t e z m:=by
  rcases hz with rfl|⟨rfl,rfl⟩
  .k_mem
  .exact .inl ⟨rfl,hl⟩
 refine⟨_,(aa (a9 (pdf T.dX (gX T) hr (paF (pv 0) (pa1 (pv 1)))))
   (aa (pz 3 iD.nd (pdf T.fg (iW T) hr (paF (pv 0) (pa1 (pv 2)))))
   (aa (pz 4 iD.nd (pdf T.nW (B0 T) hr (paF (pv 0) (pa1 (pv 1)))))
   (aa (pz 5 iD.nd (bj (pa1 (ao qR (bj (pa1 ai)) (pln K T.bz (pv 4))))))
   (aa (pfo (pil K (pv 1)) (pgn 6 iD.nd) (ae (aU (oi (mX K rfl) (pv 6) (pv 4) (by with_unfolding_all rfl)) (aa (cF (i:=7) rfl iD.nd rfl (VW rfl) xN (pil K (pv 5)) (λ_ _ _ _=>⟨(pgn 0 xN.nd),aZ,(pdf T.i5 (tH T) hr (paF (pv 1) (paF (pv 3) (paF (pv 0) (paF (pv 4) (pa1 (pv 2)))))))⟩) rfl)
   (aa (pz 4 iD.nd (dY (cP K rfl) (pxl K (pv 7) ai) ai (λ_ _=>rfl)))
   (ae (pz 5 iD.nd (pdf T.qg (HM T) hr (pa1 (bA rfl yA (pil K (pv 7)) (λ_ _ _ _=>⟨(BJ K rfl (i:=0) (j:=1) rfl yA.nd rfl (VW rfl) rfl (VW rfl)),aZ,(pv 1)⟩)))))))) aH)))
   (ae (az (cO (qD K rfl hr.units) rfl T.gg T1 (pa1 (pv 5)))))))))),?_⟩
 apply⟨g,v,n,e,t,S,rfl,hG,gt,hS,pt,λH1 s1=>?_⟩;apply⟨g,z,n,e,m,t,rfl,aG.mono s1 hG,gt,sv,λH2 s2=>?_⟩;k_put;apply⟨g,v,n,e,t,S,rfl,aG.mono d6 hG,gt,Rep.mono d6 hS,pt,λdr H3 D fdr s3 g3 G=>?_⟩;have C':=d6.trans s3;have I0:=fK.start gt pt G m1;have dl:=I0.pt.len;apply cH ?_;apply cH ?_;apply⟨sK,λp1 k!=>?_⟩
 exists k!,(.lst [.int ((0:Nat):Int)]),H3,p1,s34,w4,(.lst [.int ((0:Nat):Int)]),H4;apply cS (bu (s34 _ _ (eI g3))) ?_;refine⟨p1,_,_,rfl,rfl,w4,by omega,by omega,?_,λp2 hp2=>?_⟩
 .rw[SH];show 1 * _<=_;omega
 rw[show ((D.length:Nat):Int).toNat=D.length from rfl,KR];exists hp2,(.lst (aw (RZ D.length 0))),H4,p2,s45,w5,(.lst (aw (RZ D.length 0))),H5;apply⟨sK,λdf K!=>?_⟩
 exists K!,(.lst [.ref p2]),H5,df,s56,w6,(.lst [.ref p2]),H6;have d!:=C'.trans s34;have p!:=d!.trans s45;have s06:=p!.trans s56;have rw6:Rows H H6 df [RZ D.length 0]:=⟨p!.free K!,[p2],w6,.cons ⟨d!.free hp2,bC w5 K!,s56 _ _ w5⟩ .nil⟩;have hr6:=(s34.trans (s45.trans s56)) _ _ (eI g3);apply dQ (H₀:=H) (α:=Nat) hS (λi σ' H'=>we (ag H H') (λ(R:AT) (F:AC) (dr:Addr) (df:Addr) (x6:ZQ) (x7:ZQ)=>H' dr=some (.lst (aw R))) (λR F dr df x6 x7=>Rows H H' df F) (λR F dr df x6 x7=>fK n t e D S m R F) (λR F dr df x6 x7=>(∀y∈S.take i,y∈R)) (λR F dr df x6 x7=>σ'=[R? g,some v,some z,I? m,R? dr,R? df,x6,x7])) ⟨s06,D,_,dr,df,_,_,hr6,rw6,I0,λy hy=>absurd hy (by simp),rfl⟩ (λi σ' H' z=>z.1) ?_ ?_
 .rintro i x w' σ' H7 hx E! ⟨s7,R,F,dr,df,x6,x7,hr7,rw7,I,tk,rfl⟩;cases(show w'=V.int x from E!);have hxS:=RQ hx;have hxn:=pt.lt x hxS;have tk1:∀R':AT,(∀y∈R,y∈R')->x∈R'->∀y∈S.take (i+1),y∈R':=λR' h1 h2 y hy=>by
   rw[Sw,hx]at hy;rcases R5.mp hy with c|c
   .exact h1 y (tk y c)
   .rw[show y=x by simpa using c];exact h2
  fin2;k_ne;apply xa (bu hr7) ?_;apply bW (λc=>?_) (λc=>?_)
  .have fF:=I.few;have f0:=I.some;have rl:=I.pt.len;obtain⟨hb1,ps1,hb2,hb3⟩:=id rw7;have pl:=hb3.length;apply ff (K:=K) (p:=df) (xs:=ps1.map V.ref) (by rw[RP];omega) (λd i σ' H' ys=>gv (ag H7 H') (Tb (λy M=>vX n t e R x m H (del H' d) y M) ys (F.take i)) (λy0=>σ'=[y0,R? g,I? m,R? dr,I? x])) (λd i σ' H' ys z=>z.1.seq (SqL.of hb2)) (SqL.of hb2)
    (λd i σ' H' ys _ z=>by rw[z.2.length,Sd];omega) (λd hd=>⟨ar hd _,.nil,_,rfl⟩) ?_ ?_
   .rintro d j y σ' H8 ys Rk R0 hd hy ⟨s8,pr,y0,rfl⟩ hd8 hR a!;rw[RY]at hy;obtain⟨pa,hpa,rfl⟩:=Tv.mp hy;obtain⟨M,hM,ra⟩:=Paired.getL hb3 hpa;have hMF:=RQ hM;have s08:=s7.trans s8;apply⟨g,_,_,n,e,x,m,t,R,M,rfl,aG.mono s08 hG,gt,bu (s8 _ _ hr7),I.pt,bu (s8 _ _ ra.2.2),((I.mem M).mp hMF).1,hxn,K',λk k1 kin nT=>I.on gt pt G hxS hMF k1 kin nT m1 (Ia gt hl H! hxn),λp dg df' H9 Pt L fdg s9 hp9 hg9 rw9 Tk=>?_⟩;refine hR _ _ _ (s9 _ _ hd8) ⟨?_,?_,_,rfl⟩
    .intro a o z;rw[ak (au z hd)];exact s9 _ _ (s8 _ _ z)
    .rw[Sw,hM];have sd:ag (del H8 d) (del (upd H9 d (.lst (ys++[.ref p]))) d):=(f9 s9).trans eB;refine Paired.app (Paired.bK pr λ_ _ z=>z.mono sd) (.cons ?_ .nil);have dn:∀ {a:Addr} {o:HO},a≠d->H9 a=some o->(del (upd H9 d (.lst (ys++[.ref p]))) d) a=some o:=λha z=>by rw[bM ha,ak ha];exact z
     have pd:p≠d:=λq=>by rw[q,s9 _ _ hd8]at hp9;cases hp9
     obtain⟨c1,ps2,c2,c3⟩:=rw9;exact⟨p,dg,df',Pt,L,rfl,dn pd hp9,dn (bC hd8 fdg).symm hg9,⟨s08.free c1,ps2,dn (bC hd8 c1).symm c2,Paired.bK c3 λ_ _ z=>⟨s08.free z.1,z.2.1,dn (bC hd8 z.1).symm z.2.2⟩⟩,Tk⟩
   intro dt σ' H8 ys hdt hd8 ⟨s8,pr,_,_⟩;rw[RP,pl,SV]at pr;have pr8:=Paired.bK pr λ_ _ z=>vX.mono dA z;have yl:=pr8.length;obtain⟨dfs,Ls,b1,b2,b3⟩:=Br pr8;obtain⟨M0,hM0⟩:∃M0,F[0]?=some M0:=⟨F[0],RL f0⟩;obtain⟨y0,hy0⟩:∃y0,ys[0]?=some y0:=⟨ys[0],RL (by omega)⟩
   obtain⟨p0,dg0,df0,Pt,L0,e0,e1,e2,e3,e4⟩:=Paired.Fs pr8 hy0 hM0;subst e0;have hT:∀ (i:Nat) (M:AT) (L:AC),F[i]?=some M->Ls[i]?=some L->Taken n t e R M x m Pt L:=λi M L h1 h2=>by
    obtain⟨Pt',T'⟩:=Paired.Fs b3 h1 h2;rw[T'.gen.uni e4.gen λ_=>Iff.rfl]at T';exact T'
   have I':=I.step gt pt hxS b3.length.symm hT;have hSn:∀s∈R++[x],s<n:=λs hs=>by
    rcases R5.mp hs with c|c
    .exact I.pt.lt s c
    .rw[RX.mp c];exact hxn
   have sub:∀h∈R,h∈Pt:=λh hh=>e4.gen.has gt (R5.mpr (.inl hh)) (I.pt.lt h hh);have xP:x∈Pt:=e4.gen.has gt (R5.mpr (.inr R4)) hxn;have s08:=s7.trans s8;apply⟨dt,_,_,_,rfl,rfl,SqL.of hd8,eU (j:=0) hy0,?_⟩;apply fV (i:=0) e1 rfl ?_;apply ff (K:=K) (p:=dt) (xs:=ys) (by omega) (λd i σ' H' zs=>lK (ag H8 H') (zs=(dfs.take i).map V.ref) (λa b=>σ'=[a,b])) (λd i σ' H' ys z=>z.1.seq (SqL.of hd8)) (SqL.of hd8)
    (λd i σ' H' zs _ z=>by rw[z.2,RP,Sd];omega) (λd hd=>⟨ar hd _,rfl,_,_,rfl⟩) ?_ ?_
   .rintro d j y σ' H9 zs Rk R0 hd hy ⟨s9,rfl,a,b,rfl⟩ hd9 hR a!;obtain⟨da,hda,p,dg,rfl,hpp⟩:=Paired.getL b1 hy;refine⟨p,_,rfl,SqT.of (s9 _ _ hpp),rfl,?_⟩;refine YN _ (YN _ (And.intro rfl (YN _ (YN _ (And.intro rfl (And.intro rfl ?_))))));apply hR _ _ _ hd9 ⟨λa' o z'=>?_,?_,_,_,rfl⟩
    .rw[ak (au z' hd)];exact s9 _ _ z'
    .rw[Sw,hda,SQ];rfl
   intro dj σ' H9 zs hdj hd9 ⟨s9,ez,_,_,_⟩;subst ez;rw[b1.length,SV]at hd9;fin2;have i'l:=I'.few;refine⟨dj,H,dfs,Ls,rfl,s08.trans s9,SqL.of hd9,Paired.bK b2 λ_ _ z=>z.mono s9,λL hL r hr=>?_,by omega,λd' H10 s10 rw10=>?_⟩
   .obtain⟨i',v!⟩:=Sk hL;have il:i' < F.length:=by rw[b3.length];exact(RN.mp v!).1
    have w1:=((hT i' _ L (RL il) v!).mem r).mp hr;intro er;have:=w1.1.len;rw[er]at this;exact UN xP (Ud.mp this.symm)
   fin2;exact⟨s08.trans (s9.trans s10),Pt,_,dg0,d',_,_,s10 _ _ (s9 _ _ e2),rw10,I',tk1 Pt sub xP,rfl⟩
  .fin2;exact⟨s7,R,F,dr,df,_,_,hr7,rw7,I,tk1 R (λ_ h=>h) c,rfl⟩
 rintro σ' H7 ⟨s7,R,F,dr,df,x6,x7,hr7,rw7,I,tk,rfl⟩;rw[SV]at tk;have fF:=I.few;apply uM s7 rw7 (by omega) λd' L H8 ZZ s8 hpm rw8=>?_
 refine q d' H8 D L (s7.trans s8) rw8 G (I.fin gt pt G tk hpm)
def iY(H:Hp)(p:Addr)(r:Z3):Prop:=∃qs:ZL,H p=some (.lst (qs.map V.ref))/\qs.length=r.length/\∀ (i:Nat) (q:Addr) (x:Nat×Nat),qs[i]?=some q->r[i]?=some x->H q=some (.tup [.int (x.1:Int),.int (x.2:Int)])
def dH(H:Hp)(d:Addr)(D:List (Z3)):Prop:=∃ps:ZL,H d=some (.lst (ps.map V.ref))/\ps.length=D.length/\∀ (i:Nat) (p:Addr) (r:Z3),ps[i]?=some p->D[i]?=some r->iY H p r
theorem iY.mono(s:ag H H')(h:iY H p r):iY H' p r:=by
 obtain⟨qs,h1,h2,h3⟩:=h;exact⟨qs,s _ _ h1,h2,λi q x a b=>s _ _ (h3 i q x a b)⟩
theorem dH.mono{d:Addr}(s:ag H H')(h:dH H d D):dH H' d D:=by
 obtain⟨ps,h1,h2,h3⟩:=h;exact⟨ps,s _ _ h1,h2,λi p r a b=>(h3 i p r a b).mono s⟩
theorem qH{α β:Type}{F:α->β->Prop}:∀ {as:List α} {bs:List β},as.length=bs.length->(∀ (i:Nat) (a:α) (b:β),as[i]?=some a->bs[i]?=some b->F a b)->Tb F as bs
 | [],[],_,_=>.nil
 | [],_ :: _,h,_=>by cases h
 | _ :: _,[],h,_=>by cases h
 | a :: as,b :: bs,h,f=>.cons (f 0 a b rfl rfl) (qH (Nat.succ.inj h) λi x y h1 h2=>f (i+1) x y h1 h2)
theorem iY.at{H:Hp}{p:Addr}{r:Z3}(h:iY H p r):At K H (.ref p) r:=by
 obtain⟨qs,h1,h2,h3⟩:=h;refine⟨p,_,rfl,SqL.of h1,qH (by rw[RP];exact h2) λi a b ha hb=>?_⟩
 rw[RY]at ha;cases hq:qs[i]? with
 | none=>rw[hq]at ha;cases ha
 | some q =>
  rw[hq]at ha;cases ha;exact Mn (h3 i q b hq hb)
theorem dH.at{H:Hp}{d:Addr}{D:List (Z3)}(h:dH H d D):At K H (.ref d) D:=by
 obtain⟨ps,h1,h2,h3⟩:=h;refine⟨d,_,rfl,SqL.of h1,qH (by rw[RP];exact h2) λi a b ha hb=>?_⟩
 rw[RY]at ha;cases hq:ps[i]? with
 | none=>rw[hq]at ha;cases ha
 | some q =>
  rw[hq]at ha;cases ha;exact(h3 i q b hq hb).at
theorem dH.but{d:Addr}{fs:List (Str×V)}(h:dH H d D)(hp:H p=some (.ins C dx fs))(k:∀a o,H a=some o->a≠p->H' a=some o):dH H' d D:=by
 obtain⟨ps,h1,h2,h3⟩:=h;have no:∀ (a:Addr) (o:HO),H a=some o->(∀C dx fs,o≠.ins C dx fs)->H' a=some o:=λa o ha n=>k a o ha λe=>by
  rw[e,hp]at ha;exact n _ _ _ (SI ha).symm
 refine⟨ps,no _ _ h1 (λ_ _ _ z=>by cases z),h2,λi q r a b=>?_⟩
 obtain⟨qs,g1,g2,g3⟩:=h3 i q r a b;exact⟨qs,no _ _ g1 (λ_ _ _ z=>by cases z),g2,λj q' x y z=>no _ _ (g3 j q' x y z) (λ_ _ _ z=>by cases z)⟩
theorem iY.keep{d:Addr}{ys:Z7}(h:iY H p r)(hd:H d=some (.lst ys))(np:p≠d):iY (upd H d o) p r:=by
 obtain⟨qs,h1,h2,h3⟩:=h;refine⟨qs,by rw[ak np];exact h1,h2,λi q x a b=>?_⟩
 have z:=h3 i q x a b;rw[ak (λe=>by rw[e,hd]at z;cases z)]
 exact z
theorem ke{α β:Type}{F:α->β->Prop}:∀ {as:List α} {bs:List β} {i:Nat} {a:α},Tb F as bs->as[i]?=some a->∃b,bs[i]?=some b/\F a b
 | _,_,0,_,.cons h _,e=>⟨_,rfl,by cases e;exact h⟩
 | _,_,i+1,_,.cons _ t,e=>ke (i:=i) t e
 | _,_,_,_,.nil,e=>by simp at e
def jv(acc:AT)(i:Nat)(x:Nat×Nat):AT:=if x.1=i then acc.set x.2 (acc.getD x.2 0+1) else acc
def lQ:List (Nat×Nat)->Nat->AT->AT
 | [],_,acc=>acc
 | x :: r,i,acc=>lQ r (i+1) (jv acc i x)
theorem xB(x:Nat×Nat):∀ (r:Z3) (i:Nat) (acc:AT),lQ (r++[x]) i acc=jv (lQ r i acc) (i+r.length) x
 | [],i,acc=>rfl
 | y :: r,i,acc=>by
  show lQ (r++[x]) (i+1) (jv acc i y)=jv (lQ r (i+1) (jv acc i y)) (i+(r.length+1)) x;rw[xB x r,show i+1+r.length=i+(r.length+1) by omega]
theorem Ik{x:Nat×Nat}:(jv acc i x).length=acc.length:=by
 unfold jv
 split
 .rw[VJ]
 .rfl
theorem Aq:∀ (r:Z3) (i:Nat) (acc:AT),(lQ r i acc).length=acc.length
 | [],_,_=>rfl
 | x :: r,i,acc=>by
  show (lQ r (i+1) (jv acc i x)).length=_;rw[Aq r,Ik]
def cnt(m:Nat)(r:Z3):AT:=lQ r 0 (RZ m 0)
theorem Du :(cnt m r).length=m:=by unfold cnt;rw[Aq,VI]
theorem JO{x:Nat×Nat}(h:r[i]?=some x):cnt m (r.take (i+1))=jv (cnt m (r.take i)) i x:=by
 have hi:=(RN.mp h).1;unfold cnt;rw[Sw,h];show lQ (r.take i++[x]) 0 _=_;rw[xB,Sd,show 0+min i r.length=i by omega]
theorem ints_set :(aw l).set k (V.int c)=aw (l.set k c):=by
 unfold aw;rw[Xl]
theorem dH.get{H2:Hp}{d:Addr}(h:dH H d D)(s:ag H H2)(hi:D[i]?=some r)(q:∀p,iY H p r->Q (.ref p) H2):mG K (.ref d) (.int i) H2 Q:=by
 obtain⟨ps,h1,h2,h3⟩:=h;have hl:i<ps.length:=by rw[h2];exact(RN.mp hi).1
 refine⟨d,_,_,.ref ps[i],rfl,rfl,SqL.of (s _ _ h1),eU (by rw[RY,RL hl];rfl),q _ (h3 i _ r (RL hl) hi)⟩
theorem D5{xs:Z7}{g:TG}(r:Z3)(Sh:St->Prop)(hS:SqL K H p xs)(hl:xs.length=r.length)(hz:r.length<=1000)(h0:Sh (cD own fr σ))
  (turn:∀ (i:Nat) (x:V) (y:Nat×Nat) σ' H' (R:St->V->Hp->Prop) (R0:Z5),xs[i]?=some x->r[i]?=some y->ag H H'->Sh σ'->(∀σ2 q H5,Sh σ2->ag H' H5->H5 q=some (.tup [.int (y.1:Int),.int (y.2:Int)])->R σ2 (.ref q) H5) ->
   g x σ' H' λσ2 H3=>tt σ2 H3 λok H4=>if ok=true then ta σ2 H4 (R σ2) else R0 σ2 H4)
  (fin:∀d H',H d=none->ag H H'->iY H' d r->Q (.ref d) H'):gL K (.ref p) H (fj own fr g tt ta σ Q):=by
 refine ff (p:=p) (xs:=xs) (by omega) (λd i σ' H' ys=>t9 (ag H H') (λ(qs:ZL)=>ys=qs.map V.ref) (λqs=>qs.length=i) (λqs=>(∀ (j:Nat) (q:Addr) (c:Nat×Nat),qs[j]?=some q->r[j]?=some c->H' q=some (.tup [.int (c.1:Int),.int (c.2:Int)]))) (λqs=>Sh σ'))
  (λd i σ' H' ys z=>z.1.seq hS) hS (λd i σ' H' ys hi z=>by obtain⟨_,qs,e,e2,_⟩:=z;rw[e,RP,e2];exact R6 _) (λd hd=>⟨ar hd _,[],rfl,rfl,(λj q c z=>by simp at z),h0⟩) ?_ ?_
 .rintro d i o σ' H2 ys R R0 hd hi ⟨s2,qs,rfl,hq,hc,hsh⟩ h! hR a!;have hil:i<r.length:=by rw[<- hl];exact(RN.mp hi).1
  refine turn i o _ σ' H2 R R0 hi (RL hil) s2 hsh λσ2 a H5 r! s5 ha=>?_;have na:a≠d:=λe=>by rw[e,s5 _ _ h!]at ha;cases ha
  refine hR _ _ _ (s5 _ _ h!) ⟨λb o zz=>by rw[ak (au zz hd)];exact s5 _ _ (s2 _ _ zz),qs++[a],by rw[SQ];rfl,by rw[R8,hq];rfl,λj q c' hj Q!=>?_,r!⟩
  rcases fH hj with ⟨_,z⟩|⟨z1,z2⟩
  .have zz:=s5 _ _ (hc j q c' z Q!);rw[ak (λe=>by rw[e,s5 _ _ h!]at zz;cases zz)]
   exact zz
  .subst z2;rw[z1,hq,RL hil]at Q!;cases Q!;rw[ak na];exact ha
 .rintro d σ' H2 ys fd hd ⟨s2,qs,rfl,hq,hc,_⟩;exact fin d H2 fd s2 ⟨qs,hd,by omega,hc⟩
theorem Ax{xs:Z7}{g:TG}(D:List (Z3))(Sh:St->Prop)(hS:SqL K H p xs)(hl:xs.length=D.length)(hz:D.length<=1000)(h0:Sh (cD own fr σ))
  (turn:∀ (i:Nat) (x:V) (r:Z3) σ' H' (R:St->V->Hp->Prop) (R0:Z5),xs[i]?=some x->D[i]?=some r->ag H H'->Sh σ'->(∀σ2 q H5,Sh σ2->ag H' H5->H' q=none->iY H5 q r->R σ2 (.ref q) H5) ->
   g x σ' H' λσ2 H3=>tt σ2 H3 λok H4=>if ok=true then ta σ2 H4 (R σ2) else R0 σ2 H4)
  (fin:∀d H',H d=none->ag H H'->dH H' d D->Q (.ref d) H'):gL K (.ref p) H (fj own fr g tt ta σ Q):=by
 refine ff (p:=p) (xs:=xs) (by omega) (λd i σ' H' ys=>rP (ag H H') (λ(ps:ZL)=>ys=ps.map V.ref) (λps=>ps.length=i) (λps=>(∀p∈ps,p≠d)) (λps=>(∀ (j:Nat) (p:Addr) (r:Z3),ps[j]?=some p->D[j]?=some r->iY H' p r)) (λps=>Sh σ'))
  (λd i σ' H' ys z=>z.1.seq hS) hS (λd i σ' H' ys hi z=>by obtain⟨_,qs,e,e2,_⟩:=z;rw[e,RP,e2];exact R6 _) (λd hd=>⟨ar hd _,[],rfl,rfl,(λp hp=>by cases hp),(λj q c z=>by simp at z),h0⟩) ?_ ?_
 .rintro d i o σ' H2 ys R R0 hd hi ⟨s2,ps,rfl,hq,hnd,hc,hsh⟩ h! hR a!;have hil:i<D.length:=by rw[<- hl];exact(RN.mp hi).1
  refine turn i o _ σ' H2 R R0 hi (RL hil) s2 hsh λσ2 a H5 r! s5 fa ra=>?_;have na:a≠d:=λe=>by rw[e,h!]at fa;cases fa
  have hys5:=s5 _ _ h!;refine hR _ _ _ hys5 ⟨λb o zz=>by rw[ak (au zz hd)];exact s5 _ _ (s2 _ _ zz),ps++[a],by rw[SQ];rfl,by rw[R8,hq];rfl,λp hp=>?_,λj p' r' hj Q!=>?_,r!⟩
  .rcases R5.mp hp with z|z
   .exact hnd p z
   .rw[RX.mp z];exact na
  .rcases fH hj with ⟨_,z⟩|⟨z1,z2⟩
   .exact((hc j p' r' z Q!).mono s5).keep hys5 (hnd p' (RQ z))
   .subst z2;rw[z1,hq,RL hil]at Q!;cases Q!;exact ra.keep hys5 na
 .rintro d σ' H2 ys fd hd ⟨s2,ps,rfl,hq,hnd,hc,_⟩;exact fin d H2 fd s2 ⟨ps,hd,by omega,hc⟩
inductive wQ(C:Addr)(K:RM)(vs:Z7)(H:Hp)(Q:VK)(E:XK):Prop
 | mk (g:Addr) (v:V) (n e:Nat) (t:AC) (R:AT) (_:vs=[.ref g,v]) (_:aG C H g n t e) (_:GT n t e) (_:At K H v R) (_:IsPart n t R) (_:∀d H',H d=none->ag H H'->Gr K H' d (aV n t e R)->Q (.ref d) H')
theorem wu:Fa P w base T.hX 5 (wQ T.aB K):=by
 exists T.hX.ok xm
 obtain⟨g,v,n,e,t,R,rfl,hG,gt,hR,pt,q⟩:=h;have b!:=gt.le;refine⟨_,(ae (az (bA rfl mf (pil K (pdf T.sE (Iv T) hr (paF (pv 0) (pa1 (pv 1))))) (λ_ _ _ _=>⟨(pgn 0 mf.nd),aZ,(pxl K (pv 0) ai)⟩)))),?_⟩;apply⟨g,v,n,e,t,R,rfl,hG,gt,hR,pt,λd H1 L ps fd F! s1 hL hsd=>?_⟩;have ec:=hsd.aV gt pt;have ll:L.length<=n:=by
  have:=congrArg V4 ec;rw[RP]at this;rw[this];exact lZ
 apply LF (β:=Nat) hL (by omega) (λi=>(L.map λs=>s.getD 0 0).take i) (λσ'=>∃y,σ'=[y]) rfl (λi _=>by rw[Sd];omega) ⟨_,rfl⟩ ?_ ?_
 .rintro i c p σ' H5 d' R' R0 hc hs hp ⟨y,rfl⟩ J' a! ZZ;have cne:=hsd.ne c (RQ hc);apply bw (n:=0) (bu hp) (c:=c.getD 0 0) (getD_some 0 (Sr.mpr cne)) ?_;exact J' _ _ _ _ ⟨_,rfl⟩ (ag.refl _) rfl (by rw[Sw,RY,hc];rfl)
 .intro d' H5 fd' hs hg;have hg':Gr K H5 d' ((L.map λs=>s.getD 0 0).take L.length):=hg;rw[Sn (by simp),ec]at hg'
  exact q d' H5 (s1.free fd') (s1.trans hs) hg'
def MV(n:Nat)(t:AC)(e:Nat)(R:AT)(H:Hp)(kvs:Z2)(i k:Nat):Prop:=∀i' k' c h,(i' < i\/(i'=i/\k' < k))->(aV n t e R)[i']?=some c->R[k']?=some h ->
 ∃q,bq kvs (nk (tb t c h))=some (.ref q)/\H q=some (.tup [.int ((i':Nat):Int),.int ((k':Nat):Int)])
theorem MV.mono{kvs:Z2}(s:ag H H')(h:MV n t e R H kvs i k):MV n t e R H' kvs i k:=λi' k' c x a b d=>by
 obtain⟨q,z1,z2⟩:=h i' k' c x a b d;exact⟨q,z1,s _ _ z2⟩
theorem MV.nil :MV n t e R H [] 0 0:=λi' k' c x a=>by omega
theorem MV.next{kvs:Z2}(h:MV n t e R H kvs i R.length):MV n t e R H kvs (i+1) 0:=λi' k' c x a b d=>by
 have:=(RN.mp d).1;exact h i' k' c x (by omega) b d
theorem MV.put{kvs:Z2}{df:Addr}(gt:GT n t e)(pt:IsPart n t R)(h:MV n t e R H kvs i k)(hd:H df=some (.dK kvs))(hc:(aV n t e R)[i]?=some c)(hx:R[k]?=some x)
  (hq:H q=some (.tup [.int i,.int k])):MV n t e R (upd H df (.dK (putK kvs (nk (tb t c x)) (.ref q)))) (putK kvs (nk (tb t c x)) (.ref q)) i (k+1):=λi' k' c' x' a b d=>by
 have no:∀ {p:Addr} {ys:Z7},H p=some (.tup ys)->p≠df:=λz y=>by rw[y,hd]at z;cases z
 rw[BM];obtain⟨a1,a2⟩:=KO gt pt hc hx rfl
 by_cases hk:nk (tb t c' x')=nk (tb t c x)
 .rw[if_pos hk];obtain⟨b1,b2⟩:=KO gt pt b d (gj hk);refine⟨q,rfl,?_⟩;rw[ak (no hq),<- b1,<- b2,a1,a2];exact hq
 .rw[if_neg hk];have ne:¬ (i'=i/\k'=k):=λ⟨z1,z2⟩=>hk (by
   subst z1 z2;rw[hc]at b;rw[hx]at d;cases b;cases d;rfl)
  obtain⟨q',z1,z2⟩:=h i' k' c' x' (by omega) b d
  exact⟨q',z1,by rw[ak (no z2)];exact z2⟩
inductive yR(C:Addr)(K:RM)(vs:Z7)(H:Hp)(Q:VK)(E:XK):Prop
 | mk (g:Addr) (v:V) (n e:Nat) (t:AC) (R:AT) (_:vs=[.ref g,v]) (_:aG C H g n t e) (_:GT n t e) (_:At K H v R) (_:IsPart n t R) (_:∀d H',H d=none->ag H H'->dH H' d (mU n t e R)->Q (.ref d) H')
theorem y9:Fa P w base T.jm 6 (yR T.aB K):=by
 exists T.jm.ok dM
 obtain⟨g,v,n,e,t,R,rfl,hG,gt,hR,pt,q⟩:=h;have b!:=gt.le;have rl:=pt.len;have cl:=lZ (n:=n) (t:=t) (e:=e) (R:=R);refine⟨_,(aa (pz 2 dM.nd (pdf T.hX (wu T) hr (paF (pv 0) (pa1 (pv 1)))))
   (aa (pz 3 dM.nd l6)
   (aa (pfo (iy K rfl rfl T.eM (pa1 (pv 2))) (my rfl (cv (pgn 4 dM.nd) (cv (pgn 5 dM.nd) iN))) (ae (pfo (iy K rfl rfl T.eM (pa1 (pv 1))) (my rfl (cv (pgn 6 dM.nd) (cv (pgn 7 dM.nd) iN))) (ae (lG (cI hr) (pv 3) (pxl K (pxl K (pfl K (pv 0)) (pv 5)) (pv 7)) (i8 (paF (pv 4) (pa1 (pv 6)))) rfl)))))
   (ae (az (bA rfl m7 (pil K (pfl K (pv 0))) (λ_ _ _ _=>⟨(pgn 0 m7.nd),aZ,(bA rfl m9 (pil K (pv 1)) (λ_ _ _ _=>⟨(pgn 0 m9.nd),aZ,(dC (cI hr) (pv 1) (pxl K (pv 2) (pv 0)) (λ_ _=>rfl))⟩))⟩))))))),?_⟩
 apply⟨g,v,n,e,t,R,rfl,hG,gt,hR,pt,λdc H1 fdc s1 gc=>?_⟩;have hG1:=aG.mono s1 hG;have hR1:=Rep.mono s1 hR;obtain⟨dx,r4,bk,hg,hT,hB⟩:=hG1.get (K:=K);apply rO λdf K!=>?_;apply iG (H₀:=H1) gc.at (λi σ' H'=>GH (ag H1 H') ((∃kvs,H' df=some (.dK kvs)/\kvs.length<=i * 23/\MV n t e R H' kvs i 0)) (λx4 x5 x6 x7=>σ'=[R? g,some v,R? dc,R? df,x4,x5,x6,x7])) ⟨ar K! _,⟨[],aj,by simp,MV.nil⟩,_,_,_,_,rfl⟩ (λi σ' H' z=>z.1) ?_ ?_
 .rintro i c w' σ' H3 H4 pt' hc hw ⟨s3,⟨kvs,hd3,hl3,mv3⟩,x4,x5,x6,x7,rfl⟩ hpt rfl s4;k_sub;have hil:=(RN.mp hc).1;have cn:=bZ (RQ hc);have s14:=s3.trans s4;have V!:=s4 _ _ hd3;have mv4:=mv3.mono s4;generalize upd H3 pt' (.tup [.int i,.int c])=H4 at s14 V! mv4;apply iG (H₀:=H1) hR1 (λk σ' H'=>lK (ag H1 H') ((∃kvs,H' df=some (.dK kvs)/\kvs.length<=i * 23+k/\MV n t e R H' kvs i k)) (λx6 x7=>σ'=[R? g,some v,R? dc,R? df,I? i,I? c,x6,x7])) ⟨s14,⟨kvs,V!,by omega,mv4⟩,_,_,rfl⟩ (λi σ' H' z=>z.1) ?_ ?_
  .rintro k x w2 σ' H5 H6 pt2 hx S! ⟨s5,⟨kv5,hd5,hl5,mv5⟩,x6,x7,rfl⟩ hpt2 rfl s6;cases(show w2=V.int x from S!);have hkl:=(RN.mp hx).1;have xn:=pt.lt x (RQ hx);have s16:=s5.trans s6;have hd6:=s6 _ _ hd5;have mv6:=mv5.mono s6;generalize upd H5 pt2 (.tup [.int k,.int x])=H6 at s16 hd6 mv6;apply lM ?_;apply jS ?_;apply⟨Sc,λp hp=>?_⟩
   have s7:=ar hp (.tup [.int i,.int k]);have hp7:(upd H6 p (.tup [.int i,.int k])) p=some (.tup [.int i,.int k]):=aj;have s17:=s16.trans s7;have hd7:=s7 _ _ hd6;have mv7:=mv6.mono s7;generalize upd H6 p (.tup [.int i,.int k])=H7 at s17 hd7 mv7 hp7;have hg7:=s17 _ _ hg;have hT7:=Rep.mono s17 hT;symm;refine b6 hT7 rfl (gt.get cn) λw1 U'=>?_;apply bw U' (gt.c8 cn xn) ?_;have l7:=gW kv5 (nk (tb t c x)) (V.ref p);refine oE hd7 (by omega) ?_
   w_up
   exact⟨λb o z=>by rw[ak (au z K!)];exact s17 _ _ z,⟨_,aj,by omega,mv7.put gt pt hd7 hc hx hp7⟩,_,_,rfl⟩
  .rintro σ' H5 ⟨s5,⟨kv5,hd5,hl5,mv5⟩,x6,x7,rfl⟩;fin2;exact⟨s5,⟨kv5,hd5,by omega,mv5.next⟩,_,_,_,_,rfl⟩
 .rintro σ' H3 ⟨s3,⟨kvs,hd3,hl3,mv3⟩,x4,x5,x6,x7,rfl⟩;have hg3:=s3 _ _ hg;have hT3:=Rep.mono s3 hT;have aC:=Rep.mono s3 gc.at;symm;obtain⟨pr,xs,epr,hSr,hPr⟩:=id hT3;cases epr;have lt:=WQ hPr;have tl:=gt.len;refine Ax (mU n t e R) (λσ'=>∃y,σ'=[y,R? dc,R? df]) hSr (by unfold mU;rw[RP,Sv];omega) (by unfold mU;rw[RP,Sv];omega) ⟨_,rfl⟩ ?_ ?_
  .rintro i o r σ' H4 R' R0 ho hr4 s4 ⟨y,rfl⟩ J';obtain⟨row,c!,arow⟩:=ke hPr ho;have L!:i<n:=by rw[<- tl];exact(RN.mp c!).1
   have er:row=t.getD i []:=by
    have:=gt.get L!;rw[c!]at this;exact SI this
   subst er;have aR4:=Rep.mono s4 arow;have aC4:=Rep.mono s4 aC;obtain⟨pc,cs,ecs,hSc,hPc⟩:=id aC4;cases ecs;have lc:=WQ hPc;have e4:r=(aV n t e R).map λc=>(hm n t e R (tb t i c),R.idxOf (ov n t e R (tb t i c))):=by
    unfold mU at hr4;rw[RY,TU L!]at hr4;exact(SI hr4).symm
   subst e4;apply D5 ((aV n t e R).map λc=>(hm n t e R (tb t i c),R.idxOf (ov n t e R (tb t i c)))) (λσ'=>∃y,σ'=[y,R? df,some o]) hSc (by rw[RP];exact lc) (by rw[RP];omega) ⟨_,rfl⟩ ?_ ?_
   .rintro j o2 y2 σ' H5 R2 R02 X! hy2 s5 ⟨y,rfl⟩ hR2;obtain⟨c,hc,ac⟩:=ke hPc X!;cases(show o2=V.int c from ac);rw[RY,hc]at hy2;cases hy2;have cn:=bZ (RQ hc);have xn:=gt.lt i c L! cn;obtain⟨c',k',z1,z2,z3,z4⟩:=zK gt pt xn;have s35:=s4.trans s5;obtain⟨qq,v1,v2⟩:=mv3 _ _ c' _ (.inl (RN.mp z1).1) z1 z2;rw[z4]at v1;apply dB ?_;apply bw (Rep.mono s5 aR4) (gt.c8 L! cn) ?_;refine dR (s35 _ _ hd3) v1 ?_;exact hR2 _ qq _ ⟨_,rfl⟩ (ag.refl _) (by dsimp only;rw[z3];exact s35 _ _ v2)
   .intro d2 H5 fd2 s5 r5;exact J' _ _ _ ⟨_,rfl⟩ s5 fd2 r5
  .intro d2 H4 fd2 s4 hD;have s14:=s3.trans s4;exact q d2 H4 (s1.free (s3.free fd2)) (s1.trans s14) hD
inductive Ac(C:Addr)(K:RM)(vs:Z7)(H:Hp)(Q:VK)(E:XK):Prop
 | mk (g:Addr) (v u z:V) (n e m l:Nat) (t:AC) (R M:AT) (_:vs=[.ref g,v,u,z]) (_:aG C H g n t e) (_:GT n t e) (_:At K H v R) (_:IsPart n t R) (_:At K H u M) (_:M.length=R.length) (_:(∀x∈M,x<m)) (_:(z=.int m\/(z=.non/\m=l))) (_:cA (b5 n t e) l) (_:m % l=0) (_:0<m) (_:m<=60) (_:(∀j,j<R.length->∀k,k<R.length->jz t R M m j k)) (_:∀H',ag H H'->Q .non H')
theorem sr:Fa P w base T.gN 5 (Ac T.aB K):=by
 exists T.gN.ok qL
 obtain⟨g,v,u,z,n,e,m,l,t,R,M,rfl,hG,gt,hR,pt,hM,ml,mm,hz,hl,H!,m1,K',ok,q⟩:=h;refine⟨_,(aa (pz 4 qL.nd (zJ T.ic (wU T) (hr.mono (by decide)) rfl (paF (pv 0) (paF (pv 1) (paF (pv 2) (pa1 (pv 3)))))))
   (ae (aU (md (D9 (pv 4))) (ae cZ) aH))),?_⟩
 apply⟨g,v,u,z,n,e,m,l,t,R,M,rfl,hG,gt,hR,pt,hM,ml,mm,hz,hl,H!,m1,K',λx H1 o s1 hx hb=>?_⟩;cases hb.uni (o':=none) ok;cases(show x=.non from hx);fin2;k_ne;apply bW (λc=>absurd rfl c) (λ_=>?_);fin2;exact q _ s1
end
section
variable {P:Sj}{w:World} 
def BO(a b g:V)(m z:Int)(d:V):List (Str×V):=[("part",a),("marks",b),("group",g),("spokes",.int m),("size",.int z),("deeds",d)]
inductive NS(C:Addr)(vs:Z7)(H:Hp)(Q:VK)(E:XK):Prop
 | mk (p dx d:Addr) (a b g:V) (m:Int) (D:List (Z3)) (r:Z3) (_:vs=[.ref p,g,.int m,.ref d]) (_:H p=some (.ins C dx [("part",a),("marks",b)])) (_:dH H d D) (_:D[0]?=some r) (_:∀H',H' p=some (.ins C dx (BO a b g m r.length (.ref d)))->(∀a o,H a=some o->a≠p->H' a=some o)->Q .non H')
theorem Og:aE P w K mg base CX0 1 T.zS T.Fi ["self","group","spokes","deeds"] (NS T.aD):=by
 exists T.P6.ok CQ
 obtain⟨p,dx,d,a,b,g,m,D,r,rfl,hp,hD,h0,k⟩:=h;refine⟨_,(aa (cB K rfl (pv 0) (pv 1) rfl)
   (aa (cB K rfl (pv 0) (pv 2) rfl)
   (aa (cB K rfl (pv 0) (pln K T.bz (pxl K (pv 3) ai)) rfl)
   (ae (cB K rfl (pv 0) (pv 3) rfl))))),?_⟩
 k_in;refine⟨p,T.aD,dx,_,rfl,hp,T.c9,T.oH,(by show 2<1000;decide),?_⟩
 k_in;refine⟨p,T.aD,dx,_,rfl,aj,T.c9,T.nB,(by show 3<1000;decide),?_⟩
 k_in;have hD2:dH (upd (upd H p (.ins T.aD dx (bF "group" g [("part",a),("marks",b)]))) p (.ins T.aD dx (bF "spokes" (V.int m) (bF "group" g [("part",a),("marks",b)])))) d D:=hD.but hp λa o ha B'=>by
  rw[ak B',ak B'];exact ha
 refine b6 (n:=0) (hD2.at (K:=K)) rfl h0 λw1 U'=>?_;k_in;refine cS U' ?_;k_in;refine⟨p,T.aD,dx,_,rfl,aj,T.c9,T.qE,(by show 4<1000;decide),?_⟩
 k_in;refine⟨p,T.aD,dx,_,rfl,aj,T.c9,T.oO,(by show 5<1000;decide),?_⟩
 refine k _ aj λa o ha B'=>?_;rw[ak B',ak B',ak B',ak B'];exact ha
theorem Gu(hi:i<n):(mU n t e R)[i]?=some ((aV n t e R).map λc=>(hm n t e R (tb t i c),R.idxOf (ov n t e R (tb t i c)))):=by
 unfold mU;rw[RY,TU hi];rfl
theorem iQ(hi:i<n):(dy n t e R M)[i]?=some ((aV n t e R).map λc=>(hm n t e R (tb t i c),M.getD (R.idxOf (ov n t e R (tb t i c))) 0)):=by
 unfold dy;rw[RY,TU hi];rfl
inductive Hz(C CG:Addr)(K:RM)(vs:Z7)(H:Hp)(Q:VK)(E:XK):Prop
 | mk (p dx g:Addr) (v u z:V) (n e m l:Nat) (t:AC) (R M:AT) (H0:Hp) (_:vs=[.ref p,.ref g,v,u,z]) (_:H p=some (.ins C dx [])) (_:H0 p=none) (_:ag H0 H) (_:aG CG H0 g n t e) (_:GT n t e) (_:At K H0 v R) (_:IsPart n t R) (_:At K H0 u M) (_:M.length=R.length) (_:(∀x∈M,x<m)) (_:(z=.int m\/(z=.non/\m=l))) (_:cA (b5 n t e) l) (_:m % l=0) (_:0<m) (_:m<=60) (_:(∀j,j<R.length->∀k,k<R.length->jz t R M m j k)) (_:∀pa ma d H',H0 pa=none->H0 ma=none->ag H0 H'->H' p=some (.ins C dx (BO (.ref pa) (.ref ma) (.ref g) m (aV n t e R).length (.ref d)))->H' pa=some (.lst (aw R))->H' ma=some (.lst (aw M))->dH H' d (dy n t e R M)->Q .non H')
theorem Hn:aE P w K mg base CX0 7 T.tT T.uc ["self","group","part","marks","spokes"] (Hz T.aD T.aB K):=by
 exists T.Ci.ok oN
 obtain⟨p,dx,g,v,u,z,n,e,m,l,t,R,M,H0,rfl,hp,h0p,s0,hG,gt,hR,pt,hM,ml,mm,hz,hl,H!,m1,K',ok,q⟩:=h;have n1:=gt.pos;have b!:=gt.le;have rl:=pt.len;have cl:=lZ (n:=n) (t:=t) (e:=e) (R:=R);have sv:oF n t e z m:=by
  rcases hz with rfl|⟨rfl,rfl⟩
  .k_mem
  .exact .inl ⟨rfl,hl⟩
 refine⟨_,(aa (a9 (pdf T.gN (sr T) hr (paF (pv 1) (paF (pv 2) (paF (pv 3) (pa1 (pv 4)))))))
   (aa (cB K rfl (pv 0) (bS (fC K rfl) rfl T.f6 Tw (pa1 (pv 2))) rfl)
   (aa (cB K rfl (pv 0) (bS (fC K rfl) rfl T.f6 Tw (pa1 (pv 3))) rfl)
   (aa (cF (i:=5) rfl oN.nd rfl (VW rfl) lW (pil K (pdf T.jm (y9 T) hr (paF (pv 1) (pa1 (pv 2))))) (λ_ _ _ _=>⟨(pgn 0 lW.nd),aZ,(bA rfl lU (pil K (pv 0)) (λ_ _ _ _=>⟨(BJ K rfl (i:=0) (j:=1) rfl lU.nd rfl (VW rfl) rfl (VW rfl)),aZ,(i8 (paF (pv 0) (pa1 (pxl K (pv 2) (pv 1)))))⟩))⟩) rfl)
   (ae (a9 (Ih rfl T.QI T.Qq (Og T) (hr.mono (by decide)) T.Pw (paF (pv 0) (paF (pv 1) (paF (pdf T.fg (iW T) hr (paF (pv 1) (pa1 (pv 4)))) (pa1 (pv 5)))))))))))),?_⟩
 apply⟨g,v,u,z,n,e,m,l,t,R,M,rfl,hG.mono s0,gt,Rep.mono s0 hR,pt,Rep.mono s0 hM,ml,mm,hz,hl,H!,m1,K',ok,λH1 s1=>?_⟩;have s01:=s0.trans s1;have k!:=s1 _ _ hp;apply D0 (Rep.mono s01 hR) λpa H2 fpa s2 ga=>?_;have hp2:=s2 _ _ k!;have hpa:=eI ga;have npa:pa≠p:=λy=>by rw[y,hp2]at hpa;cases hpa
 have fpa0:H0 pa=none:=s01.free fpa;k_in;refine⟨p,T.aD,dx,_,rfl,hp2,T.c9,T.qx,(by show 0<1000;decide),?_⟩
 have C':ag H0 (upd H2 p (.ins T.aD dx (bF "part" (.ref pa) []))):=λb o y=>by rw[ak (au y h0p)];exact s2 _ _ (s01 _ _ y)
 have hp3:(upd H2 p (.ins T.aD dx (bF "part" (.ref pa) []))) p=some (.ins T.aD dx [("part",.ref pa)]):=aj;have ha3:(upd H2 p (.ins T.aD dx (bF "part" (.ref pa) []))) pa=some (.lst (aw R)):=by rw[ak npa];exact hpa
 generalize upd H2 p (.ins T.aD dx (bF "part" (.ref pa) []))=H3 at C' hp3 ha3;apply D0 (Rep.mono C' hM) λma H4 fma s4 gb=>?_;have hp4:=s4 _ _ hp3;have ha4:=s4 _ _ ha3;have hma:=eI gb;have nma:ma≠p:=λy=>by rw[y,hp4]at hma;cases hma
 have fma0:H0 ma=none:=C'.free fma;k_in;refine⟨p,T.aD,dx,_,rfl,hp4,T.c9,T.oz,(by show 1<1000;decide),?_⟩
 have p!:ag H0 (upd H4 p (.ins T.aD dx (bF "marks" (.ref ma) [("part",.ref pa)]))):=λb o y=>by rw[ak (au y h0p)];exact s4 _ _ (C' _ _ y)
 have hp5:(upd H4 p (.ins T.aD dx (bF "marks" (.ref ma) [("part",.ref pa)]))) p=some (.ins T.aD dx [("part",.ref pa),("marks",.ref ma)]):=aj;have ha5:(upd H4 p (.ins T.aD dx (bF "marks" (.ref ma) [("part",.ref pa)]))) pa=some (.lst (aw R)):=by rw[ak npa];exact ha4
 have hb5:(upd H4 p (.ins T.aD dx (bF "marks" (.ref ma) [("part",.ref pa)]))) ma=some (.lst (aw M)):=by rw[ak nma];exact hma
 generalize upd H4 p (.ins T.aD dx (bF "marks" (.ref ma) [("part",.ref pa)]))=H5 at p! hp5 ha5 hb5;apply⟨g,v,n,e,t,R,rfl,hG.mono p!,gt,Rep.mono p! hR,pt,λd6 H6 fd6 s6 hD6=>?_⟩;have s06:=p!.trans s6;obtain⟨ps6,h61,h62,h63⟩:=id hD6;have ln6:ps6.length=n:=by rw[h62];unfold mU;rw[RP,Sv]
 apply Ax (dy n t e R M) (λσ'=>∃y,σ'=[y,some u]) (SqL.of h61) (by unfold dy;rw[RP,RP,Sv];exact ln6) (by unfold dy;rw[RP,Sv];omega) ⟨_,rfl⟩ ?_ ?_
 .rintro i o r σ' H7 R' R0 ho hr7 s7 ⟨y,rfl⟩ J';have L!:i<n:=by
   have:=(RN.mp ho).1;rw[RP]at this;omega
  rw[iQ L!]at hr7;cases hr7;rw[RY]at ho;cases hq:ps6[i]? with
  | none=>rw[hq]at ho;cases ho
  | some pq =>
   rw[hq]at ho;cases ho;obtain⟨qs,r1,r2,r3⟩:=(h63 i pq _ hq (Gu L!)).mono s7;rw[RP]at r2;apply D5 ((aV n t e R).map λc=>(hm n t e R (tb t i c),M.getD (R.idxOf (ov n t e R (tb t i c))) 0)) (λσ'=>∃y1 y2,σ'=[y1,y2,some u]) (SqL.of r1) (by rw[RP,RP];exact r2) (by rw[RP];omega) ⟨_,_,rfl⟩ ?_ ?_
   .rintro j o2 y2 σ' H8 R2 R02 X! hy2 s8 ⟨y1,y3,rfl⟩ hR2;rw[RY]at X! hy2;cases hc:(aV n t e R)[j]? with
    | none=>rw[hc]at hy2;cases hy2
    | some c =>
     rw[hc]at hy2;cases hy2;cases hq2:qs[j]? with
     | none=>rw[hq2]at X!;cases X!
     | some q2 =>
      rw[hq2]at X!;cases X!;have ht:=s8 _ _ (r3 j q2 _ hq2 (by rw[RY,hc];rfl))
      have cn:=bZ (RQ hc);have xn:=gt.lt i c L! cn;obtain⟨_,k',_,z2,z3,_⟩:=zK gt pt xn;have kl:R.idxOf (ov n t e R (tb t i c))<M.length:=by rw[z3,ml];exact(RN.mp z2).1
      refine⟨q2,_,rfl,SqT.of ht,rfl,⟨_,_,rfl,⟨_,_,rfl,⟨rfl,?_⟩⟩⟩⟩;apply jS ?_;apply bw (Rep.mono (s06.trans (s7.trans s8)) hM) (getD_some (l:=M) 0 kl) ?_;apply⟨Sc,λa ha=>?_⟩
      exact hR2 _ a _ ⟨_,_,rfl⟩ (ar ha _) aj
   .intro d2 H8 fd2 s8 r8;exact J' _ _ _ ⟨_,rfl⟩ s8 fd2 r8
 .intro d7 H7 fd7 s7 hD7;have s07:=s06.trans s7;apply⟨g,z,n,e,m,t,rfl,hG.mono s07,gt,sv,λH8 s8=>?_⟩;have s58:=s6.trans (s7.trans s8);apply⟨p,dx,d7,.ref pa,.ref ma,.ref g,(m:Int),_,_,rfl,s58 _ _ hp5,hD7.mono s8,iQ n1,λH9 h9 k9=>?_⟩;rw[RP]at h9;fin2;have np:∀ {b:Addr} {ys:Z7},H8 b=some (.lst ys)->b≠p:=λy1 y2=>by rw[y2,s58 _ _ hp5]at y1;cases y1
  refine q pa ma d7 H9 fpa0 fma0 (λb o y=>k9 b o (s58 _ _ (p! _ _ y)) (au y h0p)) h9 (k9 _ _ (s58 _ _ ha5) npa) (k9 _ _ (s58 _ _ hb5) nma) ((hD7.mono s8).but (s58 _ _ hp5) k9)
def Pc(C CG:Addr)(H:Hp)(a:Addr)(g:Addr)(m n:Nat)(D:List (Z3)):Prop:=∃dx d pa ma,H a=some (.ins C dx (BO (.ref pa) (.ref ma) (.ref g) m n (.ref d)))/\dH H d D
section
variable (T:Txt K mg){H:Hp}{a dx:Addr}{m z:Int}{x y g d:V}{Q:VK}(hg:H a=some (.ins T.aD dx (BO x y g m z d)))
include hg
theorem IC(q:Q g H):isF K "group" (.ref a) H Q:=⟨a,T.aD,dx,_,_,rfl,hg,T.c9,T.oH,rfl,q⟩
theorem xO(q:Q (.int m) H):isF K "spokes" (.ref a) H Q:=⟨a,T.aD,dx,_,_,rfl,hg,T.c9,T.nB,rfl,q⟩
theorem Mb(q:Q (.int z) H):isF K "size" (.ref a) H Q:=⟨a,T.aD,dx,_,_,rfl,hg,T.c9,T.qE,rfl,q⟩
theorem IF(q:Q d H):isF K "deeds" (.ref a) H Q:=⟨a,T.aD,dx,_,_,rfl,hg,T.c9,T.oO,rfl,q⟩
theorem Lg(q:Q x H):isF K "part" (.ref a) H Q:=⟨a,T.aD,dx,_,_,rfl,hg,T.c9,T.qx,rfl,q⟩
theorem JZ(q:Q y H):isF K "marks" (.ref a) H Q:=⟨a,T.aD,dx,_,_,rfl,hg,T.c9,T.oz,rfl,q⟩
end
inductive JR(C CG:Addr)(vs:Z7)(H:Hp)(Q:VK)(E:XK):Prop
 | mk (a g:Addr) (x m n:Nat) (D:List (Z3)) (r:Z3) (_:vs=[.ref a,.int x]) (_:Pc C CG H a g m n D) (_:1<=m) (_:m<=60) (_:D[x]?=some r) (_:r.length<=1000) (_:(∀y∈r,y.2<m)) (_:∀p H',H p=none->ag H H'->H' p=some (.lst (aw (cnt m r)))->Q (.ref p) H')
theorem rE:aE P w K mg base CX0 1 T.jL T.nK ["self","thing"] (JR T.aD T.aB):=by
 exists T.CC.ok i6
 obtain⟨a,g,x,m,n,D,r,rfl,hW,m1,m2,hx,hl,hr2,q⟩:=h;obtain⟨dx,d,pa,ma,ha,hD⟩:=id hW;refine⟨_,(aa (pz 2 i6.nd (ao qR (bj (pa1 ai)) (pfl K (pv 0))))
   (aa (pfo (iy K rfl rfl T.eM (pa1 (pxl K (pfl K (pv 0)) (pv 1)))) (my rfl (cv (pgn 3 i6.nd) (cv (pgn 4 i6.nd) iN))) (ae (aU (pcm cz (dY (cP K rfl) (pv 4) ai (λ_ _=>rfl)) (pv 3)) (ae (ot (ao aT (pxl K (pv 2) (dY (cP K rfl) (pv 4) ai (λ_ _=>rfl))) ai) (oC (pv 2) (dY (cP K rfl) (pv 4) ai (λ_ _=>rfl)) set_list))) aH)))
   (ae (az (pv 2))))),?_⟩
 k_go;refine cH ?_;k_go;refine⟨sK,λp1 k!=>?_⟩
 exists k!,(.lst [.int ((0:Nat):Int)]),H,p1,s1,h1,(.lst [.int ((0:Nat):Int)]),H1;k_go;refine xO T (s1 _ _ ha) ?_;k_go;refine⟨p1,_,_,rfl,rfl,h1,by omega,by omega,?_,λc hc=>?_⟩
 .rw[SH];show 1 * _<=_;omega
 rw[show ((m:Nat):Int).toNat=m by omega,KR]
 have fc:H c=none:=s1.free hc;have s2:=s1.trans (ar hc (.lst (aw (RZ m 0))));have h2:(upd H1 c (.lst (aw (RZ m 0)))) c=some (.lst (aw (cnt m (r.take 0)))):=aj;generalize upd H1 c (.lst (aw (RZ m 0)))=H2 at s2 h2;k_go;refine IF T (s2 _ _ ha) ?_;k_go;refine hD.get s2 hx λp hp=>?_;k_go;refine iG (H₀:=H) (hp.at (K:=K)) (λi σ' H'=>lK (ag H H') (H' c=some (.lst (aw (cnt m (r.take i))))) (λ(x1:ZQ) (x2:ZQ)=>σ'=[R? a,I? x,R? c,x1,x2])) ⟨s2,h2,_,_,rfl⟩ (λi σ' H' z=>z.1) ?_ ?_
 .rintro i y w' σ' H3 H4 pt hy hw ⟨s3,h3,x1,x2,rfl⟩ hpt rfl s4;have s34:=s3.trans s4;have h4:=s4 _ _ h3;have hyi:=(RN.mp hy).1;obtain⟨y1,y2⟩:=y;have hy2:y2<m:=hr2 _ (RQ hy);generalize upd H3 pt (.tup [.int i,w'])=H4 at s34 h4;obtain⟨q1,v1,v2,rfl,hq,e1,e2⟩:=Rep.mono s34 hw;cases(show v1=V.int y1 from e1);cases(show v2=V.int y2 from e2);have et:=JO (m:=m) hy;have lc:(cnt m (r.take i)).length=m:=Du;k_go;k_ne;k_go;refine⟨q1,_,_,_,rfl,rfl,hq,eU (j:=0) rfl,?_⟩;k_go;refine aW (λz=>?_) (λz=>?_)
  .k_go;refine⟨q1,_,_,_,rfl,rfl,hq,eU (j:=1) rfl,?_⟩;refine bw (bu h4) (c:=(cnt m (r.take i)).getD y2 0) (by rw[V0,RL (by omega)];rfl) ?_
   k_go;refine⟨q1,_,_,_,rfl,rfl,hq,eU (j:=1) rfl,?_⟩;refine oG h4 rfl (by unfold aw;rw[RP,lc];exact hy2) ?_
   w_up
   refine⟨λb o zz=>by rw[ak (au zz fc)];exact s34 _ _ zz,?_,_,_,rfl⟩
   rw[aj,ints_set,et];unfold jv;rw[if_pos z]
  .k_go;refine⟨s34,?_,_,_,rfl⟩;rw[h4,et];unfold jv;rw[if_neg z]
 .rintro σ' H3 ⟨s3,h3,x1,x2,rfl⟩;rw[SV]at h3;k_go;exact q c H3 fc s3 h3
end
section
variable {P:Sj}{w:World} 
theorem ML(pt:IsPart n t R)(ml:M.length=R.length)(mm:∀x∈M,x<m)(h:lO t R M m none):IsW t R M m:=by
 refine⟨ml,mm,λx hx y hy=>?_⟩;obtain⟨i,hi⟩:=Sk hx;obtain⟨j,hj⟩:=Sk hy;have nd:=aA pt.srt;have il:=(RN.mp hi).1;have jl:=(RN.mp hj).1;have:=h i il j jl;unfold jz at this;rw[show R.getD i 0=x from by rw[RT,hi];rfl,show R.getD j 0=y from by rw[RT,hj];rfl]at this
 unfold mkO;rw[eG nd hi,eG nd hj];l_out
theorem IV{l:Nat}(gt:GT n t e)(hl:cA (b5 n t e) l)(h:m % l=0)(hx:x<n):ax t e x m=e:=by
 obtain⟨c,rfl⟩:=Tj h;have ho:l % aI n t e x=0:=hl.all _ (R9.mpr ⟨x,RU.mpr hx,rfl⟩);obtain⟨d,rfl⟩:=Tj ho;rw[Vw];exact jA gt hx (dD gt hx).2.1 _
def RD(C:Addr)(K:RM)(H:Hp)(g:Addr)(v u z:V)(n e x m l:Nat)(t:AC)(R M:AT):Prop:=aG C H g n t e/\GT n t e/\At K H v R/\IsPart n t R/\At K H u M/\M.length=R.length/\(∀x∈M,x<m)/\lO t R M m none /\
 (z=.int m\/(z=.non/\m=l))/\cA (b5 n t e) l/\m % l=0/\0<m/\m<=60/\x<n
inductive yW(C:Addr)(K:RM)(vs:Z7)(H:Hp)(Q:VK)(E:XK):Prop
 | mk (g:Addr) (v:V) (n e x:Nat) (t:AC) (R:AT) (_:vs=[.ref g,v,.int x]) (_:aG C H g n t e) (_:GT n t e) (_:At K H v R) (_:IsPart n t R) (_:x<n) (_:(∀h∈R,aQ n t e h x∈R)) (_:∀H',ag H H'->Q .non H')
theorem IY{o:Option Nat}(h:∀y∈R,aQ n t e y x∈R)(ho:KP n t e R x o):o=none:=by
 cases o with
 | none=>rfl
 | some a=>exact absurd (h a ho.1) ho.2.1
theorem Bh:Fa P w base T.jK 4 (yW T.aB K):=by
 exists T.jK.ok qW
 obtain⟨g,v,n,e,x,t,R,rfl,hG,gt,hR,pt,hx,st,q⟩:=h;refine⟨_,(aa (pz 3 qW.nd (pdf T.mW (Fy T) hr (paF (pv 0) (paF (pv 1) (pa1 (pv 2))))))
   (ae (aU (md (D9 (pv 3))) (ae cZ) aH))),?_⟩
 apply⟨g,v,n,e,x,t,R,rfl,hG,gt,hR,pt,hx,λH1 o s1 ho=>?_⟩;obtain rfl:=IY st ho;fin2;k_ne;apply bW (λc=>absurd rfl c) (λ_=>?_);fin2;exact q _ s1
inductive wB(C:Addr)(K:RM)(vs:Z7)(H:Hp)(Q:VK)(E:XK):Prop
 | mk (g:Addr) (v u:V) (n e x:Nat) (t:AC) (R M:AT) (_:vs=[.ref g,v,u,.int x]) (_:aG C H g n t e) (_:GT n t e) (_:At K H v R) (_:IsPart n t R) (_:At K H u M) (_:M.length=R.length) (_:x<n) (_:(∀h∈R,aQ n t e h x∈R)) (_:(∀h∈R,mkO R M h=mkO R M (aQ n t e h x))) (_:∀H',ag H H'->Q .non H')
theorem zt:Fa P w base T.jg 3 (wB T.aB K):=by
 exists T.jg.ok kQ
 obtain⟨g,v,u,n,e,x,t,R,M,rfl,hG,gt,hR,pt,hM,ml,hx,st,kp,q⟩:=h;have nd:=aA pt.srt;refine⟨_,(aa (pz 4 kQ.nd (js K rfl rfl rfl T.rM rfl T.va (paF (pv 1) (pa1 (pv 2)))))
   (ae (pfo (pil K (pv 1)) (pgn 5 kQ.nd) (ae (aU (pcm fY (dC (cI hr) (pv 4) (pv 5) (λ_ _=>rfl)) (dC (cI hr) (pv 4) (pdf T.iq (mN T) hr (paF (pv 0) (paF (pv 5) (pa1 (pv 3))))) (λ_ _=>rfl))) (ae cZ) aH))))),?_⟩
 apply j9 ?_;apply AE hR hM ml.symm nd λd hd=>?_;exists hd,(.dK (cY R M)),H,d,s1,hd1,(.dK (cY R M)),H1;k_asm
 apply dQ (H₀:=H) (α:=Nat) hR (λi σ' H'=>jW (ag H1 H') (λ(x5:ZQ)=>σ'=[R? g,some v,some u,I? x,R? d,x5])) ⟨ag.refl _,_,rfl⟩ (λi σ' H' z=>s1.trans z.1) ?_ ?_
 .rintro i h w' σ' H2 hh E! ⟨s2,x5,rfl⟩;cases(show w'=V.int h from E!);have J':=RQ hh;fin2;k_ne;apply dB ?_;apply dR (s2 _ _ hd1) (mk0 h J') ?_;apply dB ?_;apply⟨g,n,e,h,x,t,rfl,aG.mono (s1.trans s2) hG,gt,pt.lt h J',hx,λH3 s3=>?_⟩;refine dR (s3 _ _ (s2 _ _ hd1)) (mk0 _ (st h J')) ?_;apply bW (λc=>absurd (kp h J') c) (λ_=>?_);fin2;exact⟨s2.trans s3,_,rfl⟩
 .rintro σ' H2 ⟨s2,x5,rfl⟩;fin2;exact q _ (s1.trans s2)
def Qu(n:Nat)(t:AC)(e:Nat)(R M:AT)(x m:Nat)(H:Hp)(Q:VK):Prop:=∀p dg df H' Pt L,H dg=none->ag H H'->H' p=some (.tup [.ref dg,.ref df])->H' dg=some (.lst (aw Pt))->Rows H H' df L->Taken n t e R M x m Pt L->Q (.ref p) H'
inductive Kl(C:Addr)(K:RM)(vs:Z7)(H:Hp)(Q:VK)(E:XK):Prop
 | mk (g:Addr) (v u z:V) (n e x m l:Nat) (t:AC) (R M:AT) (_:vs=[.ref g,v,u,.int x,z]) (_:RD C K H g v u z n e x m l t R M) (_:(∀h∈R,aQ n t e h x∈R)) (_:(∀h∈R,mkO R M h=mkO R M (aQ n t e h x))) (_:Qu n t e R M x m H Q)
theorem J8:aE P w K mg base CX0 6 T.sD.f T.sD.fd ["group","part","marks","thing","spokes"] (Kl T.aB K):=by
 exists T.sD.ok JN
 obtain⟨g,v,u,z,n,e,x,m,l,t,R,M,rfl,gi,st,kp,q⟩:=h;obtain⟨hG,gt,hR,pt,hM,ml,mm,br,hz,hl,H!,m1,K',hx⟩:=id gi;have sv:oF n t e z m:=by
  rcases hz with rfl|⟨rfl,rfl⟩
  .k_mem
  .exact .inl ⟨rfl,hl⟩
 have hw:=ML pt ml mm br;refine⟨_,(aa (a9 (pdf T.gN (sr T) hr (paF (pv 0) (paF (pv 1) (paF (pv 2) (pa1 (pv 4)))))))
   (aa (a9 (pdf T.jK (Bh T) hr (paF (pv 0) (paF (pv 1) (pa1 (pv 3))))))
   (aa (a9 (pdf T.jg (zt T) hr (paF (pv 0) (paF (pv 1) (paF (pv 2) (pa1 (pv 3)))))))
   (ae (az (pdf T.i5 (tH T) hr (paF (pv 0) (paF (pv 1) (paF (pv 2) (paF (pv 3) (pa1 (pdf T.fg (iW T) hr (paF (pv 0) (pa1 (pv 4))))))))))))))),?_⟩
 apply⟨g,v,u,z,n,e,m,l,t,R,M,rfl,hG,gt,hR,pt,hM,ml,mm,hz,hl,H!,m1,K',br,λH1 s1=>?_⟩;apply⟨g,v,n,e,x,t,R,rfl,aG.mono s1 hG,gt,Rep.mono s1 hR,pt,hx,st,λH2 s2=>?_⟩;k_put;apply⟨g,v,u,n,e,x,t,R,M,rfl,aG.mono d6 hG,gt,Rep.mono d6 hR,pt,Rep.mono d6 hM,ml,hx,st,kp,λH3 s3=>?_⟩;have C':=d6.trans s3;apply⟨g,z,n,e,m,t,rfl,aG.mono C' hG,gt,sv,λH4 s4=>?_⟩;have d!:=C'.trans s4;apply⟨g,v,u,n,e,x,m,t,R,M,rfl,aG.mono d! hG,gt,Rep.mono d! hR,pt,Rep.mono d! hM,hw,hx,K',λk k1 kin nT=>⟨pt,hw,hx,st,λh hh=>(kp h hh).symm,k1,kin,nT,m1,IV gt hl H! hx⟩,λp dg df H' Pt L f1 s5 h1 h2 h3 h4=>?_⟩;fin2;exact q p dg df H' Pt L (d!.free f1) (d!.trans s5) h1 h2 (h3.since d!) h4
def j6(n:Nat)(t:AC)(e:Nat)(R M:AT)(b:Nat):AT:=R.map λh=>mkO R M (aQ n t e h b)
theorem uO(nd:R.Nodup)(ml:M.length=R.length):j6 n t e R M b=M↔∀h∈R,mkO R M h=mkO R M (aQ n t e h b):=by
 unfold j6;constructor
 .intro q h hh;have:=congrArg (λl=>mkO R l h) q;simp only[ki hh]at this;exact this.symm
 .intro q;rw[<- map_mk nd ml];exact TV λh hh=>by rw[map_mk nd ml];exact(q h hh).symm
inductive vG(C:Addr)(K:RM)(vs:Z7)(H:Hp)(Q:VK)(E:XK):Prop
 | mk (g:Addr) (v u:V) (n e b:Nat) (t:AC) (R M:AT) (_:vs=[.ref g,v,u,.int b]) (_:aG C H g n t e) (_:GT n t e) (_:At K H v R) (_:IsPart n t R) (_:At K H u M) (_:M.length=R.length) (_:b<n) (_:(∀h∈R,aQ n t e h b∈R)) (_:∀d H',H d=none->ag H H'->H' d=some (.lst (aw (j6 n t e R M b)))->Q (.ref d) H')
theorem nj:Fa P w base T.e8 3 (vG T.aB K):=by
 exists T.e8.ok mL
 obtain⟨g,v,u,n,e,b,t,R,M,rfl,hG,gt,hR,pt,hM,ml,hb,st,q⟩:=h;have nd:=aA pt.srt;have rl:=pt.gZ gt;refine⟨_,(aa (pz 4 mL.nd (js K rfl rfl rfl T.rM rfl T.va (paF (pv 1) (pa1 (pv 2)))))
   (ae (az (bA rfl kU (pil K (pv 1)) (λ_ _ _ _=>⟨(pgn 0 kU.nd),aZ,(dC (cI hr) (pv 3) (pdf T.iq (mN T) hr (paF (pv 2) (paF (pv 0) (pa1 (pv 1))))) (λ_ _=>rfl))⟩))))),?_⟩
 apply j9 ?_;apply AE hR hM ml.symm nd λd hd=>?_;exists hd,(.dK (cY R M)),H,d,s1,hd1,(.dK (cY R M)),H1;k_asm
 apply kg (β:=Nat) (Rep.mono s1 hR) (by omega) (λi=>(j6 n t e R M b).take i) (λσ'=>∃z,σ'=[z,I? b,R? g,R? d]) rfl (λi _=>by rw[Sd];omega) ⟨_,rfl⟩ ?_ ?_
 .rintro i z w' σ' H2 d' R' R0 hz hs E! ⟨z',rfl⟩ J' a! ZZ;cases(show w'=V.int z from E!);have zR:=RQ hz;apply dB ?_;apply⟨g,n,e,z,b,t,rfl,aG.mono (s1.trans hs) hG,gt,pt.lt z zR,hb,λH3 s3=>?_⟩;refine dR (s3 _ _ (hs _ _ hd1)) (mk0 _ (st z zR)) ?_;fin2;exact J' _ _ _ _ ⟨_,rfl⟩ s3 rfl (by
   rw[Sw];show _++((R.map λh=>mkO R M (aQ n t e h b))[i]?).toList=_;rw[RY,hz];rfl)
 intro dr H2 hdr s2 h2;have g2:Gr K H2 dr ((j6 n t e R M b).take R.length):=h2;rw[Sn (by unfold j6;simp)]at g2
 fin2;exact q dr H2 (s1.free hdr) (s1.trans s2) (eI g2)
inductive uF(C:Addr)(K:RM)(vs:Z7)(H:Hp)(Q:VK)(E:XK):Prop
 | mk (g:Addr) (v u:V) (n e x:Nat) (t:AC) (R M:AT) (_:vs=[.ref g,v,u,.int x]) (_:aG C H g n t e) (_:GT n t e) (_:At K H v R) (_:IsPart n t R) (_:At K H u M) (_:M.length=R.length) (_:x<n) (_:(∀b,b<n->∀h∈R,aQ n t e h b∈R)) (_:∀ (y:Nat) H',ag H H'->y<n->(∀h∈R,mkO R M h=mkO R M (aQ n t e h y))->Q (.int y) H')
theorem uC:Fa P w base T.gB 4 (uF T.aB K):=by
 exists T.gB.ok iS
 obtain⟨g,v,u,n,e,x,t,R,M,rfl,hG,gt,hR,pt,hM,ml,hx,st,q⟩:=h;have nd:=aA pt.srt;have os:=dD gt hx;have op:=fP (n:=n) (t:=t) (e:=e) (a:=x);have yn:∀k,ax t e x k<n:=λk=>bp gt hx k;refine⟨_,(aa (pz 4 iS.nd ai)
   (aa (fB Ut (pcm (wD K rfl Nat hr.units) (pdf T.e8 (nj T) hr (paF (pv 0) (paF (pv 1) (paF (pv 2) (pa1 (pdf T.iM (mE T) hr (paF (pv 0) (paF (pv 3) (pa1 (pv 4)))))))))) (pv 2)) (ae (pz 4 iS.nd (ao aT (pv 4) ai))))
   (ae (az (pdf T.iM (mE T) hr (paF (pv 0) (paF (pv 3) (pa1 (pv 4))))))))),?_⟩
 apply fJ (λb σ' H'=>t9 (ag H H') (λk=>1<=k) (λk=>k<=aI n t e x) (λk=>b=aI n t e x - k) (λk=>σ'=[R? g,some v,some u,I? x,I? k])) (aI n t e x - 1)
  ⟨ag.refl _,1,R6 _,op,rfl,rfl⟩ ?_
 rintro b σ' H1 ⟨s1,k,k1,k2,rfl,rfl⟩;apply⟨g,n,e,x,(k:Int),t,rfl,aG.mono s1 hG,gt,hx,λH2 s2=>?_⟩;rw[oB gt hx k];k_put;apply⟨g,v,u,n,e,ax t e x k,t,R,M,rfl,aG.mono d6 hG,gt,Rep.mono d6 hR,pt,Rep.mono d6 hM,ml,yn k,st _ (yn k),λd H3 hd s3 h3=>?_⟩;have C':=d6.trans s3;apply FO (bu h3) (Rep.mono C' hM) ?_;apply bW (λc=>?_) (λc=>?_)
 .have k3:k<aI n t e x:=by
   rcases Sb k (aI n t e x) with y|y
   .exact y
   .have:k=aI n t e x:=by omega
    rw[this,os.2.1]at c;exact absurd ((uO nd ml).mpr λh hh=>by rw[B3 gt (pt.lt h hh)]) c
  refine⟨λσ2 H4=>ag H H4/\σ2=[R? g,some v,some u,I? x,I? ((k+1:Nat):Int)],λσ2 H4 y=>⟨aI n t e x - (k+1),by omega,y.1,k+1,by omega,k3,rfl,y.2⟩,?_⟩
  fin2;exact⟨C',rfl⟩
 .apply⟨g,n,e,x,(k:Int),t,rfl,aG.mono C' hG,gt,hx,λH4 s4=>?_⟩;rw[oB gt hx k];fin2;exact q _ _ (C'.trans s4) (yn k) ((uO nd ml).mp c)
theorem IsW.oks(pt:IsPart n t R)(w:IsW t R M m):∀j,j<R.length->∀k,k<R.length->jz t R M m j k:=λj jl k kl=>by
 have nd:=aA pt.srt;have:=w.add _ (S3 jl) _ (S3 kl);unfold mkO at this;rw[eG nd (RL jl),eG nd (RL kl)]at this;unfold jz;rw[show R.getD j 0=R[j] from by simp[jl],show R.getD k 0=R[k] from by simp[kl]]
 l_out
def fZ(C g:Addr)(m n e:Nat)(t:AC)(S:AT)(H0 G:Hp)(y:V)(W:AT):Prop:=∃p dx d pa ma:Addr,y=.ref p/\H0 p=none/\G p=some (.ins C dx (BO (.ref pa) (.ref ma) (.ref g) m (aV n t e S).length (.ref d)))/\G pa=some (.lst (aw S))/\G ma=some (.lst (aw W))/\dH G d (dy n t e S W)
theorem fZ.mono{G G':Hp}{y:V}(s:ag G G')(h:fZ C g m n e t S H0 G y W):fZ C g m n e t S H0 G' y W:=by
 obtain⟨p,dx,d,pa,ma,e1,e2,e3,e4,e5,e6⟩:=h;exact⟨p,dx,d,pa,ma,e1,e2,s _ _ e3,s _ _ e4,s _ _ e5,e6.mono s⟩
theorem dH.KC{a d:Addr}{ys:Z7}(h:dH H a D)(hd:H d=some (.lst ys))(hy:∀y∈ys,∃p C dx fs,y=.ref p/\H p=some (.ins C dx fs))(h0:D≠[])(hr:∀r∈D,r≠[]):dH (del H d) a D:=by
 obtain⟨ps,h1,h2,h3⟩:=h;have row:∀ (i:Nat) (p:Addr) (r:Z3),ps[i]?=some p->D[i]?=some r->iY (del H d) p r:=λi p r hp hr'=>by
  obtain⟨qs,r1,r2,r3⟩:=h3 i p r hp hr';have rn:=hr r (RQ hr');have q0:0<qs.length:=by rw[r2];exact Sr.mpr rn
  have pd:p≠d:=λz=>by
   rw[z,hd]at r1;cases r1;obtain⟨p',C,dx,fs,e1,e2⟩:=hy (.ref qs[0]) (R9.mpr ⟨_,S3 q0,rfl⟩);cases e1;rw[r3 0 qs[0] (r[0]'(by omega)) (RL q0) (RL (by omega))]at e2
   cases e2
  refine⟨qs,by rw[bM pd];exact r1,r2,λj q x hq hx=>?_⟩
  have:=r3 j q x hq hx;rw[bM λz=>by rw[z,hd]at this;cases this]
  l_out
 have p0:0<ps.length:=by rw[h2];exact Sr.mpr h0
 have ad:a≠d:=λz=>by
  rw[z,hd]at h1;cases h1;obtain⟨p',C,dx,fs,e1,e2⟩:=hy (.ref ps[0]) (R9.mpr ⟨_,S3 p0,rfl⟩);cases e1;obtain⟨qs,r1,_⟩:=h3 0 ps[0] (D[0]'(by omega)) (RL p0) (RL (by omega))
  rw[r1]at e2;cases e2
 exact⟨ps,by rw[bM ad];exact h1,h2,row⟩
theorem sH(n1:0<n):dy n t e S W≠[]/\∀r∈dy n t e S W,r≠[]:=by
 unfold dy;refine⟨λz0=>?_,λr hr z0=>?_⟩
 .have:=congrArg V4 z0;rw[RP,Sv]at this;exact absurd this (UI n1)
 .obtain⟨i,_,rfl⟩:=R9.mp hr;have c0:0∈aV n t e S:=eO.mpr ⟨n1,λy hy=>absurd hy (Vl _)⟩;rw[List.map_eq_nil_iff.mp z0]at c0;cases c0
inductive yY(C CG:Addr)(K:RM)(vs:Z7)(H:Hp)(Q:VK)(E:XK):Prop
 | mk (g:Addr) (v u z:V) (n e x m l:Nat) (t:AC) (R M:AT) (_:vs=[.ref g,v,u,.int x,z]) (_:aG CG H g n t e) (_:GT n t e) (_:At K H v R) (_:IsPart n t R) (_:At K H u M) (_:IsW t R M m) (_:x<n) (_:(∀b,b<n->∀h∈R,aQ n t e h b∈R)) (_:(z=.int m\/(z=.non/\m=l))) (_:cA (b5 n t e) l) (_:m % l=0) (_:0<m) (_:m<=60)
  (_:∀ (d:Addr) H' (ys:Z7) (y:Nat) (Pt:AT) (L:AC),H d=none->ag H H'->H' d=some (.lst ys)->y<n->IsPart n t Pt->Taken n t e R M y m Pt L->Tb (fZ C g m n e t Pt H H') ys L->Q (.ref d) H')
theorem zC:Fa P w base T.jd 9 (yY T.aD T.aB K):=by
 exists T.jd.ok kK
 obtain⟨g,v,u,z,n,e,x,m,l,t,R,M,rfl,hG,gt,hR,pt,hM,hw,hx,st,hz,hl,H!,m1,K',q⟩:=h;have n1:=gt.pos;have b!:=gt.le;refine⟨_,(aa (pz 5 kK.nd (pdf T.gB (uC T) hr (paF (pv 0) (paF (pv 1) (paF (pv 2) (pa1 (pv 3)))))))
   (aa (pz 6 kK.nd (zJ T.sD (J8 T) (hr.mono (by decide)) rfl (paF (pv 0) (paF (pv 1) (paF (pv 2) (paF (pv 5) (pa1 (pv 4))))))))
   (ae (az (bA rfl nr (pil K (dY (cP K rfl) (pv 6) ai (λ_ _=>rfl))) (λ_ _ _ _=>⟨(pgn 0 nr.nd),aZ,(pY T.Jy (Hn T) (hr.mono (by decide)) rfl T.Ij T.Im .nil lB (paF (pv 1) (paF (dY (cP K rfl) (pv 3) ai (λ_ _=>rfl)) (paF (pv 0) (pa1 (pv 2))))))⟩)))))),?_⟩
 apply⟨g,v,u,n,e,x,t,R,M,rfl,hG,gt,hR,pt,hM,hw.len,hx,st,λy H1 s1 hy kp=>?_⟩;apply⟨g,v,u,z,n,e,y,m,l,t,R,M,rfl,⟨aG.mono s1 hG,gt,Rep.mono s1 hR,pt,Rep.mono s1 hM,hw.len,hw.lt,hw.oks pt,hz,hl,H!,m1,K',hy⟩,st y hy,kp,λp dg df H2 Pt L fdg s2 hp2 hg2 rw2 Tk=>?_⟩;k_put;have pp:IsPart n t Pt:=Tk.gen.part gt λs hs=>by
  rcases R5.mp hs with c|c
  .exact pt.lt s c
  .rw[RX.mp c];exact hy
 have Ll:L.length<=23:=by
  have a:=Tk.len;have b:=pp.gZ gt;have c:0<R.length:=Sr.mpr pt.ne;exact SA (SA (US _ c) (VG a)) b
 obtain⟨hb1,ps1,hb2,hb3⟩:=id rw2;have pl:=hb3.length;apply fV (i:=1) hp2 rfl ?_;apply ff (K:=K) (p:=df) (xs:=ps1.map V.ref) (by rw[RP];omega) (λd i σ' H' ys=>gv (ag H2 H') (Tb (fZ T.aD g m n e t Pt H (del H' d)) ys (L.take i)) (λy0=>σ'=[y0,R? g,some z,R? p])) (λd i σ' H' ys z=>z.1.seq (SqL.of hb2)) (SqL.of hb2)
  (λd i σ' H' ys _ z=>by rw[z.2.length,Sd];omega) (λd hd=>⟨ar hd _,.nil,_,rfl⟩) ?_ ?_
 .rintro d j y' σ' H3 ys Rk R0 hd W! ⟨s3,pr,y0,rfl⟩ hd3 hRk a!;rw[RY]at W!;obtain⟨pa,hpa,rfl⟩:=Tv.mp W!;obtain⟨W,hW,ra⟩:=Paired.getL hb3 hpa;obtain⟨wW,_⟩:=(Tk.mem W).mp (RQ hW);have C':=d6.trans s3;apply fV (i:=0) (s3 _ _ hp2) rfl ?_;fin2;intro x' dx' z! hdx' B';have sn:ag H3 (upd (upd H3 dx' (.own x')) x' (.ins T.aD dx' [])):=(ar hdx' _).trans (ar (by rw[ak B'.symm];exact z!) _)
  refine⟨x',dx',g,.ref dg,.ref pa,z,n,e,m,l,t,Pt,W,H3,rfl,aj,z!,sn,aG.mono C' hG,gt,bu (s3 _ _ hg2),pp,bu (s3 _ _ ra.2.2),wW.len,wW.lt,hz,hl,H!,m1,K',wW.oks pp,λp1 p2 d4 H4 f1 f2 s4 h4 k! hp3 hD=>⟨rfl,?_⟩⟩;have V!:=s4 _ _ hd3;have sd:ag (del H3 d) (del (upd H4 d (.lst (ys++[.ref x']))) d):=(f9 s4).trans eB;refine hRk _ _ _ V! ⟨?_,?_,_,rfl⟩
  .intro a o za;rw[ak (au za hd)];exact s4 _ _ (s3 _ _ za)
  .rw[Sw,hW];refine Paired.app (Paired.bK pr λ_ _ za=>za.mono sd) (.cons ?_ .nil);have dn:∀ {a:Addr} {o:HO},a≠d->H4 a=some o->(del (upd H4 d (.lst (ys++[.ref x']))) d) a=some o:=λha za=>by rw[bM ha,ak ha];exact za
   have xd:x'≠d:=λqq=>by rw[qq,V!]at h4;cases h4
   have all:∀y∈ys,∃p C dx fs,y=V.ref p/\H4 p=some (.ins C dx fs):=λy hy=>by
    obtain⟨i,hi⟩:=Sk hy;obtain⟨W',_,p',dx2,d2,a2,b2,e1,_,e3,_⟩:=Paired.getL pr hi;exact⟨p',_,_,_,e1,s4 _ _ (dA _ _ e3)⟩
   exact⟨x',dx',d4,p1,p2,rfl,C'.free z!,dn xd h4,dn (bC hd3 f1).symm k!,dn (bC hd3 f2).symm hp3,(hD.KC V! all (sH n1).1 (sH n1).2).mono eB⟩
 intro d σ' H3 ys hd hd3 ⟨s3,pr,_,_⟩;rw[RP,pl,SV]at pr;fin2;exact q d H3 ys y Pt L (d6.free hd) (d6.trans s3) hd3 hy pp Tk (Paired.bK pr λ_ _ za=>za.mono dA)
theorem HQ :aw l=zsV (l.map Zf):=by
 unfold aw zsV;rw[Ux];rfl
def pj(n:Nat)(t:AC)(e m:Nat)(D:List (Z3)):List (ZM):=(dW n t e n).map λx=>cU m ((cnt m (D.getD x [])).map Zf)
theorem Dp(gt:GT n t e)(pt:IsPart n t S)(w:IsW t S W m)(hi:i<n):((dy n t e S W).getD i []).length<=1000/\∀y∈(dy n t e S W).getD i [],y.2<m:=by
 have cl:=lZ (n:=n) (t:=t) (e:=e) (R:=S);have b!:=gt.le;rw[RT,iQ hi];refine⟨by show (List.map _ _).length<=1000;rw[RP];omega,λy hy=>?_⟩
 obtain⟨c',q!,rfl⟩:=R9.mp hy;obtain⟨_,k',_,z2,z3,_⟩:=zK gt pt (gt.lt i c' hi (bZ q!));have kl:S.idxOf (ov n t e S (tb t i c'))<W.length:=by rw[z3,w.len];exact(RN.mp z2).1
 exact w.lt _ (RQ (getD_some (l:=W) 0 kl))
inductive Kd(C CG:Addr)(H:Hp)(g:Addr)(m n e:Nat)(t:AC)(y:V)(S W:AT):Prop
 | mk (H0:Hp) (_:aG CG H g n t e) (_:GT n t e) (_:1<=m) (_:m<=60) (_:IsPart n t S) (_:IsW t S W m) (_:fZ C g m n e t S H0 H y W)
def EH(H H':Hp)(d:Addr)(L:List (ZM)):Prop:=H d=none/\∃ps:ZL,H' d=some (.lst (ps.map V.ref))/\Tb (λp r=>H p=none/\p≠d/\H' p=some (.lst (zsV r))) ps L
theorem EH.at{G:Hp}{d:Addr}{L:List (ZM)}(h:EH H H' d L)(hg:∀a o,H a=none->H' a=some o->G a=some o):At K G (.ref d) L:=by
 obtain⟨h0,ps,h1,h2⟩:=h;exact⟨d,_,rfl,SqL.of (hg _ _ h0 h1),jV (λp r z=>iw (hg _ _ z.1 z.2.2)) h2⟩
inductive HG(C CG:Addr)(vs:Z7)(H:Hp)(Q:VK)(E:XK):Prop
 | mk (g:Addr) (y:V) (n e m:Nat) (t:AC) (S W:AT) (_:vs=[y]) (_:Kd C CG H g m n e t y S W) (_:∀d H',ag H H'->EH H H' d (pj n t e m (dy n t e S W))->Q (.ref d) H')
theorem xA:Fa P w base T.mh 6 (HG T.aD T.aB):=by
 exists T.mh.ok xv
 obtain⟨g,y,n,e,m,t,S,W,rfl,⟨H0,hG,gt,m1,K',pt,hw,p,dx,d,pa,ma,rfl,_,hp,_,_,hD⟩,q⟩:=h;have okm:fO m=true:=((xZ m (by omega)).resolve_left (by omega)).1
 have W0:=pF okm;have b!:=gt.le;refine⟨_,(aa (pz 1 xv.nd (pY T.Lh (Jo T) (hr.mono (by decide)) rfl T.Mp T.LV .nil lB (pa1 (pfl K (pv 0)))))
   (ae (az (bA rfl sZ (pil K (pdf T.ku (vg T) hr (pa1 (pfl K (pv 0))))) (λ_ _ _ _=>⟨(pgn 0 sZ.nd),aZ,(p7 (pv 2) T.gF T.xp (uP T) (hr.mono (by decide)) T.xo (pa1 (p7 (pv 1) T.c9 T.oU (rE T) (hr.mono (by decide)) T.tG (pa1 (pxl K (pv 0) ai)))))⟩))))),?_⟩
 apply xO T hp ?_;fin2;intro x dw fx fdw B';refine⟨x,dw,m,rfl,aj,m1,K',okm,λr H1 fr hx1 hr1 k1=>⟨rfl,?_⟩⟩;have s1:ag H H1:=λa o za=>k1 a o (by rw[ak (au za fx),ak (au za fdw)];exact za) (au za fx)
 have w1:uv T.cq H1 x m:=⟨dw,r,hx1,hr1⟩
 clear k1 hx1 hr1
 apply IC T (s1 _ _ hp) ?_;apply⟨g,n,e,t,rfl,hG.mono s1,gt,λd2 H2 ps fd2 _ s2 D!=>?_⟩;k_put;have fl:(dW n t e n).length<=23:=SA (fI _ n) b!;fin2;have sv:=SqL.of (K:=K) D!.top;refine ff (K:=K) (p:=d2) (xs:=ps.map V.ref) (by rw[RP,D!.len];unfold cC;rw[RP];omega) (λd' i σ' H' zs=>DH (ag H2 H') (λ(qs:ZL)=>zs=qs.map V.ref) (λqs=>Tb (λp r=>H p=none/\p≠d'/\H' p=some (.lst (zsV r))) qs ((pj n t e m (dy n t e S W)).take i)) (λ_=>∃z,σ'=[z,R? p,R? x])) (λd' i σ' H' zs z=>z.1.seq sv) sv
  (λd' i σ' H' zs _ z=>by obtain⟨_,qs,e1,e2,_⟩:=z;rw[e1,RP,e2.length,Sd];omega) (λd' hd=>⟨ar hd _,[],rfl,.nil,_,rfl⟩) ?_ ?_
 .rintro d' i w' σ' H3 zs R' R0 hd hx ⟨s3,qs,rfl,pr,z,rfl⟩ ZZ J' a!;have il:i<(dW n t e n).length:=by
   have:=(RN.mp hx).1;rw[RP,D!.len]at this;unfold cC at this
   rwa[RP]at this
  have hf:(dW n t e n)[i]?=some _:=RL il;generalize (dW n t e n)[i]=f at hf;have hc:(cC n t e n)[i]?=some (cls n t e f):=by unfold cC;rw[RY,hf];rfl
  obtain⟨pf,hpf,rfl⟩:=Tv.mp (by rw[<- RY];exact hx)
  have E!:At K H3 (.ref pf) (cls n t e f):=bu (s3 _ _ (D!.row i pf _ hpf hc));obtain⟨fn,fm⟩:=ft.mp (RQ hf);have C':=d6.trans s3;obtain⟨b1,b2⟩:=Dp gt pt hw fn;apply vL ?_;fin2;obtain⟨dw',r',hx3,hr3⟩:=w1.mono (s2.trans s3);refine⟨x,dw',_,rfl,hx3,rfl,?_⟩;apply vL ?_;apply⟨p,dx,_,rfl,C' _ _ hp,rfl,?_⟩;apply bw E! (II gt fn fm) ?_;apply⟨p,g,f,m,_,dy n t e S W,(dy n t e S W).getD f [],rfl,⟨dx,d,pa,ma,C' _ _ hp,hD.mono C'⟩,m1,K',by rw[RT,iQ fn];rfl,b1,b2,λc1 H4 fc1 s4 hc1=>?_⟩
  rw[HQ]at hc1;apply⟨x,.ref c1,m,_,rfl,uv.mono s4 ⟨dw',r',hx3,hr3⟩,m1,K',W0,iw hc1,by rw[RP,Du];omega,λb H5 fb s5 hb=>?_⟩
  have nb:b≠d':=λzz=>by rw[zz,s4 _ _ ZZ]at fb;cases fb
  have s35:=s4.trans s5;refine J' _ _ _ (s35 _ _ ZZ) ⟨λa o za=>by rw[ak (au za hd)];exact s35 _ _ (s3 _ _ za),qs++[b],by rw[SQ];rfl,?_,_,rfl⟩
  rw[Sw];unfold pj;rw[RY,hf];refine Paired.app (Paired.bK pr λa r z=>⟨z.1,z.2.1,?_⟩) (.cons ⟨C'.free (s4.free fb),nb,?_⟩ .nil)
  .rw[ak z.2.1];exact s35 _ _ z.2.2
  .rw[ak nb];exact hb
 intro dr σ' H3 zs hdr h3 ⟨s3,qs,e1,pr,_⟩;rw[Sn (by unfold pj;rw[RP,RP,D!.len];unfold cC;rw[RP];exact R6 _)]at pr
 subst e1;exact q dr H3 (d6.trans s3) ⟨d6.free hdr,qs,h3,pr⟩
inductive vo(C CG:Addr)(K:RM)(vs:Z7)(H:Hp)(Q:VK)(E:XK):Prop
 | mk (g:Addr) (y:V) (n e m:Nat) (t:AC) (S W:AT) (_:vs=[y]) (_:Kd C CG H g m n e t y S W) (_:∀d H',ag H H'->dU K H' (.ref d) (((aV n t e S).length:Int),pj n t e m (dy n t e S W))->Q (.ref d) H')
theorem uG:Fa P w base T.gH 7 (vo T.aD T.aB K):=by
 exists T.gH.ok vO
 obtain⟨g,y,n,e,m,t,S,W,rfl,lw,q⟩:=h;obtain⟨H0,_,_,_,_,_,_,p,dx,d,pa,ma,rfl,_,hp,_⟩:=id lw;refine⟨_,(ae (az (i8 (paF (pfl K (pv 0)) (pa1 (pdf T.mh (xA T) hr (pa1 (pv 0)))))))),?_⟩;apply jS ?_;apply Mb T hp ?_;apply⟨g,.ref p,n,e,m,t,S,W,rfl,lw,λdr H1 s1 g1=>?_⟩;apply⟨Sc,λa ha=>?_⟩
 have s2:=ar ha (.tup [.int ((aV n t e S).length:Int),.ref dr]);exact q a _ (s1.trans s2) ⟨a,.ref dr,rfl,SqT.of aj,Rep.mono s2 (g1.at λ_ _ _ z=>z)⟩
theorem AB{a d:Addr}{ys:Z7}(ha:H a=some (.lst (aw l)))(h0:l≠[])(hd:H d=some (.lst ys))(hy:∀y∈ys,∃p:Addr,y=.ref p):a≠d:=λz=>by
 rw[z,hd]at ha;cases ha;cases l with
 | nil=>exact h0 rfl
 | cons x l =>
  obtain⟨p,hp⟩:=hy _ R4;cases hp
theorem fZ.away{d:Addr}{G:Hp}{y:V}{ys:Z7}(h:fZ C g m n e t S H0 G y W)(n1:0<n)(hS:S≠[])(hW:W≠[])(hd:G d=some (.lst ys))(hy:∀y∈ys,∃p C dx fs,y=.ref p/\G p=some (.ins C dx fs)):fZ C g m n e t S H0 (del G d) y W:=by
 obtain⟨p,dx,dd,pa,ma,e1,e2,e3,e4,e5,e6⟩:=h;have hr:∀y∈ys,∃p:Addr,y=.ref p:=λy z=>by obtain⟨p,_,_,_,q,_⟩:=hy y z;exact⟨p,q⟩
 refine⟨p,dx,dd,pa,ma,e1,e2,?_,?_,?_,e6.KC hd hy (sH n1).1 (sH n1).2⟩
 .rw[bM λz=>by rw[z,hd]at e3;cases e3];exact e3
 .rw[bM (AB e4 hS hd hr)];exact e4
 .rw[bM (AB e5 hW hd hr)];exact e5
theorem Nd(m1:0<m):IsW t F (RZ F.length 0) m :=
 ⟨VI,λx hx=>by rw[(List.mem_replicate.mp hx).2];exact m1,λx _ y _=>by rw[gk,gk,gk,U9]⟩
theorem Hw :j6 n t e F (RZ F.length 0) b=RZ F.length 0:=by
 unfold j6;rw[List.eq_replicate_iff];refine⟨RP _,λx hx=>?_⟩;obtain⟨y,_,rfl⟩:=R9.mp hx;exact gk
inductive pC(C:Addr)(H:Hp)(g:Addr)(m n e:Nat)(t:AC)(y:V):Prop
 | mk (H0:Hp) (S W:AT) (_:IsPart n t S) (_:IsW t S W m) (_:fZ C g m n e t S H0 H y W)
theorem pC.mono{y:V}(s:ag H H')(h:pC C H g m n e t y):pC C H' g m n e t y:=by
 obtain⟨H0,S,W,p,w,l⟩:=h;exact⟨H0,S,W,p,w,l.mono s⟩
inductive Fh(C CG:Addr)(K:RM)(vs:Z7)(H:Hp)(Q:VK)(E:XK):Prop
 | mk (g:Addr) (n e m l:Nat) (t:AC) (_:vs=[.ref g,.int m]) (_:aG CG H g n t e) (_:GT n t e) (_:Meta n t) (_:cA (b5 n t e) l) (_:m % l=0) (_:0<m) (_:m<=60) (_:∀d H' ys,H d=none->ag H H'->H' d=some (.lst ys)->ys.length<=23->ys≠[]->(∀y∈ys,pC C (del H' d) g m n e t y)->Q (.ref d) H')
theorem F3:Fa P w base T.mT 10 (Fh T.aD T.aB K):=by
 exists T.mT.ok lz
 obtain⟨g,n,e,m,l,t,rfl,hG,gt,me,hl,H!,m1,K',q⟩:=h;obtain⟨gdx,gr,gb,hg,_⟩:=hG.get (K:=K);have n1:=gt.pos;have b!:=gt.le;refine⟨_,(aa (pz 2 lz.nd (pdf T.sF (Kc T) hr (pa1 (pv 0))))
   (aa (pz 3 lz.nd (bj bT))
   (aa (pfo (pil K (zJ T.uA (Ln T) (hr.mono (by decide)) rfl (paF (pv 0) (paF (dY (cP K rfl) (pv 2) ai (λ_ _=>rfl)) (pa1 (pv 1)))))) (pgn 4 lz.nd) (ae (aU (pcm (DU K rfl Nat hr.units) (pv 4) (cO (Gy rfl K rfl hr.units) rfl T.QN PyProof.Rows.boot_min (pa1 (bA rfl rB (prg T.aK (pfl K (pv 0))) (λ_ _ _ _=>⟨(pgn 0 rB.nd),aZ,(pdf T.e8 (nj T) hr (paF (pv 2) (paF (dY (cP K rfl) (pv 1) ai (λ_ _=>rfl)) (paF (pv 3) (pa1 (pv 0))))))⟩))))) (ae (a9 (rm K rfl Us XX XY xK (pv 3) (pa1 (pdf T.jd (zC T) hr (paF (pv 0) (paF (dY (cP K rfl) (pv 2) ai (λ_ _=>rfl)) (paF (pv 4) (paF (dY (cP K rfl) (pv 2) ai (λ_ _=>rfl)) (pa1 (pv 1))))))))))) aH)))
   (ae (az (pv 3)))))),?_⟩
 apply⟨g,n,e,t,rfl,hG,gt,me,λp dp x F H1 s1 fdp k! hF1 hs hx _ _=>?_⟩;have ht:=(vP gt me hs).1;have f1:0<F.length:=Sr.mpr ht.pt.ne;apply cH ?_;apply⟨sB,λdw hdw=>?_⟩
 exists hdw,(.lst []),H1,dw,s2,w2,(.lst []),H2;k_put;have fw:H dw=none:=s1.free hdw;apply fV (i:=0) (s2 _ _ k!) rfl ?_;apply⟨g,.ref dp,.int m,n,e,m,l,t,F,rfl,hG.mono d6,gt,bu (s2 _ _ hF1),ht.pt,.inl rfl,hl,H!,m1,K',λd3 H3 D L s3 rw3 G on=>?_⟩;obtain⟨fd3,ps3,hb2,hb3⟩:=rw3;have w3:=s3 _ _ w2;have nw:∀ {a o},H1 a=some o->a≠dw:=λza=>au za hdw;have k1:ag H1 (del H3 dw):=λa o za=>by rw[bM (nw za)];exact s3 _ _ (s2 _ _ za)
 have k0:ag H (del H3 dw):=s1.trans k1;have kd:(del H3 dw) d3=some (.lst (ps3.map V.ref)):=by rw[bM (bC w2 fd3).symm];exact hb2
 have kr:Tb (λp r=>(del H3 dw) p=some (.lst (aw r))) ps3 L:=Paired.bK hb3 λp r z=>by rw[bM (bC w2 z.1).symm];exact z.2.2
 have kk:ag (del H3 dw) H3:=dA;have kn:(del H3 dw) dw=none:=by unfold del;rw[if_pos rfl]
 clear hb2 hb3 d6 w2 s2 s3 fd3 nw
 generalize del H3 dw=H4 at k1 k0 kd kr kk kn ⊢;obtain⟨j0,hj0⟩:=Sk ((on.mem _).mpr (Nd m1));have j0l:=(RN.mp hj0).1;have pl:=kr.length;have Ll:L.length<=F.length:=by
  rw[<- on.len];refine US _ (Nat.pos_of_ne_zero λz=>?_);have:=on.len;rw[z,U8]at this;omega
 apply xq (ps:=ps3) (λi σ' H'=>xX (ag H4 H') (λys (_:ZQ)=>H' dw=some (.lst ys)) (λys _=>ys.length<=i * (n / F.length)/\(j0<i->ys≠[])) (λys _=>∀y∈ys,pC T.aD (del H' dw) g m n e t y) (λys x4=>σ'=[R? g,I? m,R? p,R? dw,x4])) ⟨kk,[],_,w3,⟨SO _,λz=>absurd z (Vl _)⟩,(λy hy=>nomatch hy),rfl⟩ (λi σ' H' z=>z.1 _ _ kd) ?_ ?_
 .rintro i pm σ' H5 hpm ⟨s5,ys,x4,w5,⟨l5,j5⟩,a5,rfl⟩;obtain⟨M,hM,hm⟩:=Paired.getL kr hpm;have wM:=(on.mem M).mp (RQ hM);have s15:=k1.trans s5;have p!:=k0.trans s5;fin2;k_ne;apply bB T (p! _ _ hg) ?_;refine gJ K (n:=n) (β:=AT) rfl (by omega) (λi=>((RS n).map (j6 n t e F M)).take i) (λσ'=>∃y,σ'=[y,R? p,R? g,R? pm]) rfl (λi _=>by rw[Sd];omega) ⟨_,rfl⟩ ?_ ?_
  .rintro b σ' H6 d' R R0 hb s6 ⟨y,rfl⟩ hR a! ⟨ys',ZZ⟩;have s16:=s15.trans s6;apply fV (i:=0) (s16 _ _ k!) rfl ?_;apply⟨g,.ref dp,.ref pm,n,e,b,t,F,M,rfl,hG.mono (p!.trans s6),gt,bu (s16 _ _ hF1),ht.pt,bu (s6 _ _ (s5 _ _ hm)),wM.len,hb,ht.st b hb,λd7 H7 fd7 s7 h7=>?_⟩;exact hR _ _ _ _ ⟨_,rfl⟩ s7 (bu (by rw[bM (bC ZZ fd7).symm];exact h7)) (bE _ n b hb)
  intro dr H6 hdr s6 ⟨ys6,h61,h62⟩;rw[Sn (by simp)]at h62
  have s16:=s15.trans s6;have s06:=p!.trans s6;have w6:=s6 _ _ w5;have hm6:=s6 _ _ (s5 _ _ hm);apply Nm ((RS n).map (j6 n t e F M)) (SqL.of h61) (Paired.bK h62 λ_ _ z=>Rep.mono dA z) (by rw[RP,Sv];exact n1) λk x7 a hx7 ha=>?_
  apply K4 (bu hm6) (Rep.mono dA (Paired.Fs h62 hx7 ha)) ?_;apply aW (λc=>?_) (λc=>?_)
  .apply⟨.inl ⟨rfl,_,SqL.of w6⟩,?_⟩;apply fV (i:=0) (s16 _ _ k!) rfl ?_;apply fV (i:=1) (s16 _ _ k!) rfl ?_;apply⟨g,.ref dp,.ref pm,.int m,n,e,x,m,l,t,F,M,rfl,hG.mono s06,gt,bu (s16 _ _ hF1),ht.pt,bu hm6,wM,hx,ht.st,.inl rfl,hl,H!,m1,K',λd7 H7 ys7 y7 Pt Lk fd7 s7 h7 _ pp Tk pr=>?_⟩;have w7:=s7 _ _ w6;have yl:=pr.length;have kl:Lk.length<=n / F.length:=(YH f1).mpr (by rw[Tk.len];exact pp.len)
   have dl:n / F.length<=23:=SA (YO _ _) b!;have i1:i<=23:=by
    have:=(RN.mp hpm).1;have:=ht.pt.len;omega
   have yl2:ys.length<=23 * 23:=SA l5 (Vz i1 dl);have yne:ys7≠[]:=λz=>by
    have a:=Tk.len;rw[z]at yl;rw[<- yl,Wf,V9]at a;exact pp.ne (Ud.mp a.symm)
   refine⟨dw,d7,_,_,rfl,rfl,w7,h7,by rw[SH];omega,?_⟩
   w_up
   refine⟨λa o za=>by rw[ak (au za kn)];exact s7 _ _ (s6 _ _ (s5 _ _ za)),_,_,aj,⟨?_,λ_ z=>yne (List.append_eq_nil_iff.mp z).2⟩,λy hy=>?_,rfl⟩
   .rw[R8,VL];omega
   rcases R5.mp hy with hy|hy
   .exact((a5 y hy).mono (f9 (s6.trans s7))).mono eB
   .obtain⟨k',g!⟩:=Sk hy;obtain⟨W,hW,la⟩:=Paired.getL pr g!;have wW:=((Tk.mem W).mp (RQ hW)).1;refine pC.mono eB ⟨H6,Pt,W,pp,wW,la.away n1 pp.ne (λz=>pp.ne (Ud.mp (by rw[<- wW.len,z];rfl))) w7 λy0 hy0=>?_⟩
    obtain⟨_,_,_,_,_,p0,dx0,_,_,_,e1,_,e3,_⟩:=a5 y0 hy0;exact⟨p0,_,_,_,e1,s7 _ _ (s6 _ _ (dA _ _ e3))⟩
  .apply⟨s5.trans s6,ys,_,w6,⟨SA l5 (UQ _ (T2 _)),λz=>?_⟩,λy hy=>(a5 y hy).mono (f9 s6),rfl⟩;rcases Sb j0 i with z' | z'
   .exact j5 z'
   .have ji:j0=i:=by omega
    rw[ji,hM]at hj0;cases hj0;obtain⟨b,_,hb⟩:=R9.mp (RQ ha);exact absurd (hb.symm.trans Hw).symm c
 .rintro σ' H5 ⟨s5,ys,x4,w5,⟨l5,j5⟩,a5,rfl⟩;apply q dw H5 ys fw (k0.trans s5) w5 ?_ (j5 (by omega)) a5
  refine SA l5 (SA (UQ _ (by omega:ps3.length<=F.length)) (SA (XC _ _) b!))
theorem dU.mono{α:Type}[Rep α]{v:V}{z:Int×α}(s:ag H H')(h:dU K H v z):dU K H' v z:=by
 obtain⟨p,x,e,a,b⟩:=h;exact⟨p,x,e,s.tup a,Rep.mono s b⟩
def LfP(C:Addr)(H:Hp)(g:Addr)(m n e:Nat)(t:AC)(y:V)(z:AT×AT):Prop:=∃H0,IsPart n t z.1/\IsW t z.1 z.2 m/\fZ C g m n e t z.1 H0 H y z.2
theorem LfP.mono{y:V}(s:ag H H')(h:LfP C H g m n e t y z):LfP C H' g m n e t y z:=by
 obtain⟨H0,p,w,l⟩:=h;exact⟨H0,p,w,l.mono s⟩
theorem LfP.lw{CG:Addr}{y:V}(h:LfP C H g m n e t y z)(hG:aG CG H g n t e)(gt:GT n t e)(m1:0<m)(K':m<=60):Kd C CG H g m n e t y z.1 z.2:=by
 obtain⟨H0,p,w,l⟩:=h;exact⟨H0,hG,gt,m1,K',p,w,l⟩
theorem ym{α β:Type}{F:α->β->Prop}:∀ {as:List α},(∀a∈as,∃b,F a b)->∃bs,Tb F as bs
 | [],_=>⟨[],.nil⟩
 | a :: as,h=>by
  obtain⟨b,hb⟩:=h a R4;obtain⟨bs,hs⟩:=ym λx hx=>h x (R3 _ hx);exact⟨b :: bs,.cons hb hs⟩
theorem pC.lp{y:V}(h:pC C H g m n e t y):∃z,LfP C H g m n e t y z:=by
 obtain⟨H0,S,W,p,w,l⟩:=h;exact⟨(S,W),H0,p,w,l⟩
theorem mM{a:Addr} :since H H' a=some o↔H a=none/\H' a=some o:=by
 unfold since
 split
 .exact⟨λz=>⟨‹_›,z⟩,λz=>z.2⟩
 .exact⟨(λz=>nomatch z),λz=>absurd z.1 (by simp[*])⟩
def j8(n:Nat)(t:AC)(e m:Nat)(D:List (AT×AT)):List (List (ZM)):=D.map λz=>pj n t e m (dy n t e z.1 z.2)
def zM(g:Addr)(m:Nat)(c v r:V):List (Str×V):=[("group",.ref g),("spokes",.int m),("classes",c),("ways",v),("rows",r)]
inductive MI(C CL CG:Addr)(K:RM)(vs:Z7)(H:Hp)(Q:VK)(E:XK):Prop
 | mk (p dx g dw:Addr) (n e m:Nat) (t:AC) (ys:Z7) (D:List (AT×AT)) (H0:Hp) (_:vs=[.ref p,.ref g,.int m,.ref dw]) (_:H p=some (.ins C dx [])) (_:H0 p=none) (_:ag H0 H) (_:aG CG H0 g n t e) (_:GT n t e) (_:0<m) (_:m<=60) (_:H0 dw=some (.lst ys)) (_:ys.length<=23) (_:Tb (LfP CL H0 g m n e t) ys D) (_:∀c r H',ag H0 H'->H' p=some (.ins C dx (zM g m (.ref c) (.ref dw) (.ref r)))->At K H' (.ref c) (cC n t e n)->At K H' (.ref r) (j8 n t e m D)->Q .non H')
theorem Md:aE P w K mg base CX0 7 T.Bj T.BQ ["self","group","spokes","ways"] (MI T.bh T.aD T.aB K):=by
 exists T.OQ.ok AR
 obtain⟨p,dx,g,dw,n,e,m,t,ys,D,H0,rfl,hp,fp,s0,hG,gt,m1,K',hw,yl,al,q⟩:=h;have put:∀ {H1:Hp} {o:HO},ag H0 H1->ag H0 (upd H1 p o):=λs1 a o za=>by rw[ak (au za fp)];exact s1 _ _ za
 refine⟨_,(aa (cB K rfl (pv 0) (pv 1) rfl)
   (aa (cB K rfl (pv 0) (pv 2) rfl)
   (aa (cB K rfl (pv 0) (pdf T.ku (vg T) hr (pa1 (pv 1))) rfl)
   (aa (cB K rfl (pv 0) (pv 3) rfl)
   (ae (cB K rfl (pv 0) (bA rfl ox (pil K (pv 3)) (λ_ _ _ _=>⟨(pgn 0 ox.nd),aZ,(pdf T.mh (xA T) hr (pa1 (pv 0)))⟩)) rfl)))))),?_⟩
 apply⟨p,T.bh,dx,_,rfl,hp,T.jn,T.BV,(by show 0<1000;decide),?_⟩
 apply⟨p,T.bh,dx,_,rfl,aj,T.jn,T.qj,(by show 1<1000;decide),?_⟩
 have s2:=put (o:=.ins T.bh dx (bF "spokes" (.int m) (bF "group" (.ref g) []))) (put (o:=.ins T.bh dx (bF "group" (.ref g) [])) s0);have h2:(upd (upd H p (.ins T.bh dx (bF "group" (.ref g) []))) p (.ins T.bh dx (bF "spokes" (.int m) (bF "group" (.ref g) [])))) p=some (.ins T.bh dx [("group",.ref g),("spokes",.int m)]):=aj;generalize upd (upd H p (.ins T.bh dx (bF "group" (.ref g) []))) p (.ins T.bh dx (bF "spokes" (.int m) (bF "group" (.ref g) [])))=H2 at s2 h2;apply⟨g,n,e,t,rfl,hG.mono s2,gt,λdc H3 ps fdc F! s3 J!=>?_⟩;have np:∀ {a:Addr},H2 a=none->a≠p:=λz=>(au h2 z).symm;have tb4:Tbl (del H3 p) dc (cC n t e n) ps:=⟨by rw[bM (np fdc)];exact J!.top,J!.nd,J!.ap,J!.len,λi a r z1 z2=>by rw[bM (np (F! a (RQ z1)))];exact J!.row i a r z1 z2⟩
 have s3':ag H0 (del H3 p):=λa o za=>by rw[bM (au za fp)];exact s3 _ _ (s2 _ _ za)
 have put:∀ {H1:Hp} {o:HO},ag (del H3 p) H1->ag (del H3 p) (upd H1 p o):=λs1 a o za=>by rw[ak (λe=>by rw[e]at za;unfold del at za;rw[if_pos rfl]at za;cases za)];exact s1 _ _ za
 have s30:ag (del H3 p) H3:=dA;have h3:=s3 _ _ h2
 clear s2 h2 J! fdc F!
 generalize del H3 p=G at tb4 s3' put s30;have hG:=hG.mono s3';have hw:=s3' _ _ hw;have al:=Paired.bK al λ_ _ z=>LfP.mono s3' z;apply⟨p,T.bh,dx,_,rfl,h3,T.jn,T.nY,(by show 2<1000;decide),?_⟩
 apply⟨p,T.bh,dx,_,rfl,aj,T.jn,T.tj,(by show 3<1000;decide),?_⟩
 have s4:=put (o:=.ins T.bh dx (bF "ways" (.ref dw) (bF "classes" (.ref dc) [("group",.ref g),("spokes",.int m)]))) (put (o:=.ins T.bh dx (bF "classes" (.ref dc) [("group",.ref g),("spokes",.int m)])) s30);have h4:(upd (upd H3 p (.ins T.bh dx (bF "classes" (.ref dc) [("group",.ref g),("spokes",.int m)]))) p (.ins T.bh dx (bF "ways" (.ref dw) (bF "classes" (.ref dc) [("group",.ref g),("spokes",.int m)])))) p=some (.ins T.bh dx [("group",.ref g),("spokes",.int m),("classes",.ref dc),("ways",.ref dw)]):=aj;generalize upd (upd H3 p (.ins T.bh dx (bF "classes" (.ref dc) [("group",.ref g),("spokes",.int m)]))) p (.ins T.bh dx (bF "ways" (.ref dw) (bF "classes" (.ref dc) [("group",.ref g),("spokes",.int m)])))=H4 at s4 h4;apply ff (K:=K) (p:=dw) (xs:=ys) (by omega) (λd i σ' H' zs=>gv (ag H4 H') (Tb (λv r=>At K (since (upd H4 d (.lst [])) H') v r) zs ((j8 n t e m D).take i)) (λz=>σ'=[z])) (λd i σ' H' ys z=>(s4.trans z.1).seq (SqL.of hw)) (s4.seq (SqL.of hw))
  (λd i σ' H' ys _ z=>by rw[z.2.length,Sd];omega) (λd hd=>⟨ar hd _,.nil,_,rfl⟩) ?_ ?_
 .rintro d j y σ' H5 zs Rk R0 hd hy ⟨s5,pr,y0,rfl⟩ hd5 hRk a!;have p!:=s4.trans s5;obtain⟨z,hz,lf⟩:=ke al hy;have s5':∀ {a o},upd H4 d (.lst []) a=some o->∃o',H5 a=some o':=λ{a o} za=>by
   by_cases c:a=d
   .exact⟨_,by rw[c];exact hd5⟩
   .rw[ak c]at za;exact⟨_,s5 _ _ za⟩
  have nd:∀ {a},upd H4 d (.lst []) a=none->a≠d:=λza c=>by rw[c,aj]at za;cases za
  apply⟨g,y,n,e,m,t,z.1,z.2,rfl,(lf.mono p!).lw (hG.mono p!) gt m1 K',λdr H6 s6 g6=>?_⟩;refine hRk _ _ _ (s6 _ _ hd5) ⟨λa o za=>by rw[ak (au za hd)];exact s6 _ _ (s5 _ _ za),?_,_,rfl⟩
  rw[Sw];unfold j8;rw[RY,hz];refine Paired.app (Paired.bK pr λ_ _ za=>Rep.mono (λa o zb=>?_) za) (.cons (g6.at λa o za zb=>?_) .nil)
  .obtain⟨b1,b2⟩:=mM.mp zb;exact mM.mpr ⟨b1,by rw[ak (nd b1)];exact s6 _ _ b2⟩
  .have b1:upd H4 d (.lst []) a=none:=by
    cases q:upd H4 d (.lst []) a with
    | none=>rfl
    | some o'=>obtain⟨o2,q2⟩:=s5' q;rw[za]at q2;cases q2
   exact mM.mpr ⟨b1,by rw[ak (nd b1)];exact zb⟩
 intro d σ' H5 zs hd hd5 ⟨s5,pr,_,_⟩;have hp5:=s5 _ _ h4;apply⟨p,T.bh,dx,_,rfl,hp5,T.jn,T.tJ,(by show 4<1000;decide),?_⟩
 have s6:=put (o:=.ins T.bh dx (bF "rows" (.ref d) [("group",.ref g),("spokes",.int m),("classes",.ref dc),("ways",.ref dw)])) (s4.trans s5);have dp:d≠p:=(au h4 hd).symm;refine q dc d _ (s3'.trans s6) aj (tb4.mono s6).at ⟨d,zs,rfl,SqL.of (by rw[ak dp];exact hd5),?_⟩
 rw[Sn (by unfold j8;rw[RP,al.length];exact R6 _)]at pr
 refine Paired.bK pr λ_ _ za=>Rep.mono (λa o zb=>?_) za;obtain⟨b1,b2⟩:=mM.mp zb;rw[ak λc=>by rw[c,ak dp.symm,h4]at b1;cases b1]
 exact b2
inductive Ej(C CL CG:Addr)(K:RM)(vs:Z7)(H:Hp)(Q:VK)(E:XK):Prop
 | mk (g:Addr) (z:V) (n e m l:Nat) (t:AC) (_:vs=[.ref g,z]) (_:aG CG H g n t e) (_:GT n t e) (_:Meta n t) (_:(z=.int m\/(z=.non/\m=l))) (_:cA (b5 n t e) l) (_:m % l=0) (_:0<m) (_:m<=60) (_:∀ (b dx dw c r:Addr) (ys:Z7) (D:List (AT×AT)) H',ag H H'->H' b=some (.ins C dx (zM g m (.ref c) (.ref dw) (.ref r)))->H' dw=some (.lst ys)->ys.length<=23->Tb (LfP CL H' g m n e t) ys D->At K H' (.ref c) (cC n t e n)->At K H' (.ref r) (j8 n t e m D)->Q (.ref b) H')
theorem FX:aE P w K mg base CX0 11 T.ni.f T.ni.fd ["group","spokes"] (Ej T.bh T.aD T.aB K):=by
 exists T.ni.ok vm
 obtain⟨g,z,n,e,m,l,t,rfl,hG,gt,me,hz,hl,H!,m1,K',q⟩:=h;have sv:oF n t e z m:=by
  rcases hz with rfl|⟨rfl,rfl⟩
  .k_mem
  .exact .inl ⟨rfl,hl⟩
 refine⟨_,(aa (pz 2 vm.nd (pdf T.fg (iW T) hr (paF (pv 0) (pa1 (pv 1)))))
   (ae (az (pY T.Of (Md T) (hr.mono (by decide)) rfl T.OP T.OW .nil lB (paF (pv 0) (paF (pv 2) (pa1 (C1 (α:=List (ZM)) T.gH (uG T) (hr.mono (by decide)) (by decide) rfl T.gg rfl (pdf T.mT (F3 T) hr (paF (pv 0) (pa1 (pv 2)))))))))))),?_⟩
 apply⟨g,z,n,e,m,t,rfl,hG,gt,sv,λH1 s1=>?_⟩;apply FV ?_;apply⟨g,n,e,m,l,t,rfl,hG.mono s1,gt,me,hl,H!,m1,K',λd H2 ys fd s2 hd2 yl yn al=>?_⟩;k_put;refine⟨d,ys,λi ks H'=>jW (ag H2 H') (λ(kk:List (Int×List (ZM)))=>Tb (dU K H') ks kk),rfl,SqL.of hd2,by omega,⟨ag.refl _,[],.nil⟩,?_,?_⟩
 .rintro i y ks H3 hy ⟨s3,kk,pr⟩;have C':=d6.trans s3;obtain⟨z,lf⟩:=((al y (RQ hy)).mono (dA.trans s3)).lp;exact⟨g,y,n,e,m,t,z.1,z.2,rfl,lf.lw (hG.mono C') gt m1 K',λd4 H4 s4 pa=>⟨s3.trans s4,_,Paired.app (Paired.bK pr λ_ _ za=>dU.mono s4 za) (.cons pa .nil)⟩⟩
 rintro ks H3 kl ⟨s3,kk,pr⟩;refine⟨kk,pr,λd4 zs fd4 pm=>?_⟩;have s4:=s3.trans (ar fd4 (.lst (zs.map (·.1))));have h4:(upd H3 d4 (.lst (zs.map (·.1)))) d4=some (.lst (zs.map (·.1))):=aj;generalize upd H3 d4 (.lst (zs.map (·.1)))=H4 at s4 h4;have d!:=d6.trans s4;have zm:(zs.map (·.1)).Perm ys:=by
  have:=pm.map (·.1)
  rwa[List.map_fst_zip (by rw[<- kl,pr.length];exact R6 _)]at this
 have zl:=zm.length_eq;have za:∀y∈zs.map (·.1),pC T.aD H4 g m n e t y:=λy hy=>(al y (zm.mem_iff.mp hy)).mono (dA.trans s4);generalize zs.map (·.1)=zs at h4 zm zl za;obtain⟨D,pr⟩:=ym λy hy=>(za y hy).lp;fin2;intro x dx fx fdx B';have sn:ag H4 (upd (upd H4 dx (.own x)) x (.ins T.bh dx [])):=(ar fdx _).trans (ar (by rw[ak B'.symm];exact fx) _)
 refine⟨x,dx,g,d4,n,e,m,t,zs,D,H4,rfl,aj,fx,sn,hG.mono d!,gt,m1,K',h4,by omega,pr,λc r H5 s5 h5 c5 r5=>⟨rfl,?_⟩⟩
 exact q x dx d4 c r zs D H5 (d!.trans s5) h5 (s5 _ _ h4) (by omega) (Paired.bK pr λ_ _ z=>z.mono s5) c5 r5
inductive wA(K:RM)(vs:Z7)(H:Hp)(Q:VK)(E:XK):Prop
 | mk (v:V) (n e:Nat) (t:AC) (_:vs=[v]) (_:At K H v t) (_:GT n t e) (_:Q (.int e) H)
theorem oK:Fa P w base T.fN 1 (wA K):=by
 exists T.fN.ok ow
 obtain⟨v,n,e,t,rfl,hT,gt,q⟩:=h;refine⟨_,(aa (pfo (prg T.aK (pln K T.bz (pv 0))) (pgn 1 ow.nd) (ae (aU (pcm cz (pxl K (pxl K (pv 0) (pv 1)) (pv 1)) (pv 1)) (ae (az (pv 1))) aH)))
   (ae (az ai))),?_⟩
 have b!:=gt.le;k_go;rw[gt.len];refine aX (n:=n) rfl (by omega) (λi σ H'=>H'=H/\i<=e/\∃y,σ=[some v,y]) ⟨rfl,SO _,_,rfl⟩ ?_ ?_
 .rintro i σ' H' hi ⟨rfl,hle,y,rfl⟩;k_go;k_ne;k_go;refine b6 hT rfl (gt.get hi) λw1 U'=>?_;k_go;refine bw U' (gt.c8 hi hi) ?_;k_go;l_fit
  .k_go;rw[(gt.idem hi).mp c];exact q
  .k_go;refine⟨rfl,?_,_,rfl⟩;have:i≠e:=λz=>c ((gt.idem hi).mpr z);omega
 .rintro σ' H' ⟨rfl,hle,y,rfl⟩;exact absurd gt.elt (by omega)
theorem C0(gt:GT n t e)(h1:1<=k)(hk:∀a,a<n->ax t e a k=e)(hj:∀j,1<=j->j<k->∃a,a<n/\ax t e a j≠e):cA (b5 n t e) k:=by
 refine⟨h1,λs hs=>?_,λj j1 j2=>?_⟩
 .obtain⟨a,ha,rfl⟩:=R9.mp hs;exact Nat.mod_eq_zero_of_dvd (Mi gt (RU.mp ha) (hk a (RU.mp ha)))
 .obtain⟨a,ha,q⟩:=hj j j1 j2;refine⟨aI n t e a,R9.mpr ⟨a,RU.mpr ha,rfl⟩,λz=>q ?_⟩;obtain⟨c,rfl⟩:=Tj z;exact jA gt ha (dD gt ha).2.1 c
theorem vK :(RS n).map f=RZ n e↔∀a,a<n->f a=e:=by
 constructor
 .intro h a ha;have:((RS n).map f)[a]?=(RZ n e)[a]?:=by rw[h]
  simpa[ha] using this
 .intro h;refine Yf (by simp) λi h1 h2=>?_
  simp at h1
  simpa using h i h1
inductive z9(K:RM)(vs:Z7)(H:Hp)(Q:VK)(E:XK):Prop
 | mk (v:V) (n e:Nat) (t:AC) (_:vs=[v]) (_:At K H v t) (_:GT n t e) (_:∀k H',ag H H'->cA (b5 n t e) k->k<=n->Q (.int k) H')
theorem Bu:Fa P w base T.jO 2 (z9 K):=by
 exists T.jO.ok eZ
 obtain⟨v,n,e,t,rfl,hT,gt,q⟩:=h;refine⟨_,(aa (cF (i:=1) rfl eZ.nd rfl (VW rfl) oy (pil K (pv 0)) (λ_ _ _ _=>⟨(pgn 0 oy.nd),aZ,(pdf T.fN (oK T) hr (pa1 (pv 1)))⟩) rfl)
   (aa (pz 2 eZ.nd (bS (jJ rfl) rfl T.f6 Tw (paF (bS nN rfl T.aK Wo (pa1 (pln K T.bz (pv 0)))) bT)))
   (aa (pz 3 eZ.nd ai)
   (aa (fB Ut (pcm (wD K rfl Nat hr.units) (pv 2) (pv 1)) (aa (pz 2 eZ.nd (bA rfl oe (prg T.aK (pln K T.bz (pv 0))) (λ_ _ _ _=>⟨(pgn 0 oe.nd),aZ,(pxl K (pxl K (pv 2) (pxl K (pv 1) (pv 0))) (pv 0))⟩)))
   (ae (pz 3 eZ.nd (ao aT (pv 3) ai)))))
   (ae (az (pv 3))))))),?_⟩
 have n1:=gt.pos;have b!:=gt.le;apply jy (β:=Nat) hT (by rw[gt.len];omega) (λi=>RZ i e) (λσ'=>∃y,σ'=[y,some v]) rfl (λi _=>by simp) ⟨_,rfl⟩ ?_ ?_
 .rintro i c w' σ' H1 d' R R0 hc hs hw ⟨y,rfl⟩ hR a! ZZ;apply⟨v,n,e,t,rfl,Rep.mono hs hT,gt,?_⟩;exact hR _ _ _ _ ⟨_,rfl⟩ (ag.refl _) rfl Vc
 intro du H1 s1 hU;rw[gt.len]at hU;have hT1:=Rep.mono s1 hT;k_go;rw[gt.len];refine wq λpr hpr=>?_;k_go;refine nQ (K:=K) aj (by omega) λdl H2 _ s2 gl=>?_
 have s12:ag H1 H2:=(ar hpr _).trans s2;have e1:RS n=(RS n).map λa=>ax t e a 1:=by
  refine Yf (by simp) λi h1 h2=>?_
  simp at h1
  simpa using (mz gt h1).symm
 have a1:=gl.at;rw[e1]at a1;k_go;refine fJ (λm σ' H'=>ag H1 H'/\∃ (k:Nat) (p:Addr),m=n - k/\1<=k/\k<=n/\(∀j,1<=j->j<k->∃a,a<n/\ax t e a j≠e)/\At K H' (.ref p) ((RS n).map λa=>ax t e a k)/\σ'=[some v,R? du,R? p,I? k]) (n - 1)
  ⟨s12,1,dl,rfl,R6 _,n1,λj j1 j2=>absurd j2 (by omega),a1,rfl⟩ ?_
 rintro m σ' H3 ⟨s3,k,p,rfl,k1,kn,hj,aP,rfl⟩;have hU3:=Rep.mono s3 hU;have hT3:=Rep.mono s3 hT1;k_go;refine FO aP hU3 ?_;k_go;refine bW (λz=>?_) (λz=>?_)
 .have zz:∃a,a<n/\ax t e a k≠e:=by
   refine S0 λno=>z (vK.mpr λa ha=>?_);exact S0 λq=>no ⟨a,ha,q⟩
  have kl:k<n:=by
   rcases Sb k n with y|y
   .exact y
   .obtain⟨a,ha,q⟩:=zz;have:k=n:=by omega
    rw[this]at q;exact absurd (MY gt ha) q
  refine⟨λσ4 H4=>ag H1 H4/\∃ (p:Addr),At K H4 (.ref p) ((RS n).map λa=>ax t e a (k+1))/\σ4=[some v,R? du,R? p,I? ((k+1:Nat):Int)],λσ4 H4 y=>?_,?_⟩
  .obtain⟨y1,p',y2,y3⟩:=y;refine⟨n - (k+1),by omega,y1,k+1,p',rfl,by omega,by omega,λj j1 j2=>?_,y2,y3⟩
   rcases Sb j k with u|u
   .exact hj j j1 u
   .have:j=k:=by omega
    rw[this];exact zz
  k_go;rw[gt.len];refine ka K (n:=n) (β:=Nat) rfl (by omega) (λi=>((RS n).map λa=>ax t e a (k+1)).take i) (λσ'=>∃y,σ'=[y,R? p,some v]) rfl (λi _=>by rw[Sd];omega) ⟨_,rfl⟩ ?_ ?_
  .rintro i σ' H4 d' R R0 hi hs ⟨y,rfl⟩ hR a! ZZ;have aP4:=Rep.mono hs aP;have hT4:=Rep.mono hs hT3;have hpl:=bp gt hi k;apply bw aP4 (c:=ax t e i k) (by simp[hi]) ?_
   refine b6 hT4 rfl (gt.get hpl) λw1 U'=>?_;apply bw U' (gt.c8 hpl hi) ?_;exact hR _ _ _ _ ⟨_,rfl⟩ (ag.refl _) rfl (bE _ n i hi)
  intro dn H4 s4 h4;have h4':At K H4 (.ref dn) (((RS n).map λa=>ax t e a (k+1)).take n):=h4;rw[Sn (by simp)]at h4'
  k_go;exact⟨s3.trans s4,dn,h4',rfl⟩
 .k_go;exact q k H3 (s1.trans s3) (C0 gt k1 (vK.mp z) hj) kn
end
def smO(S W:AT)(h:Nat):Option Nat:=if h∈S then some (mkO S W h) else none
def stL(n:Nat)(t:AC)(e:Nat)(S W:AT)(a:Nat):AT:=((aV n t e S).map λc=>cj n t e c a).filterMap (smO S W)
def cnL(m:Nat)(l:AT):AT:=(RS m).map λk=>l.count k
theorem lY{f g:Nat->Option Nat}:∀ {l:AT},(∀x∈l,f x=g x)->l.filterMap f=l.filterMap g
 | [],_=>rfl
 | x :: l,h=>by rw[Uk,Uk,h x R4,lY λy hy=>h y (R3 _ hy)]
theorem D3(ha:a<m):((RS m).map f).set a (((RS m).map f).getD a 0+1)=(RS m).map λk=>f k+if a=k then 1 else 0:=by
 refine Yf (by simp) λi h1 h2=>?_
 have hi:i<m:=by simpa using h1
 rw[List.getElem_set]
 by_cases c:a=i
 .subst c;simp[hi]
 .simp[c]
theorem v9{m:Nat}{F:Nat->Nat×Nat}{G:Nat->Option Nat}:∀ (l:AT) (i:Nat) (f:Nat->Nat),(∀j c,l[j]?=some c->(F c).2<m/\if (F c).1=i+j then G c=some (F c).2 else G c=none)->lQ (l.map F) i ((RS m).map f)=(RS m).map λk=>f k+(l.filterMap G).count k
 | [],i,f,_=>rfl
 | c :: l,i,f,h=>by
  obtain⟨h1,h2⟩:=h 0 c rfl;show lQ (l.map F) (i+1) (jv ((RS m).map f) i (F c))=_;have hs:∀j d,l[j]?=some d->(F d).2<m/\if (F d).1=i+1+j then G d=some (F d).2 else G d=none:=λj d z=>by
   have:=h (j+1) d z
   rwa[show i+(j+1)=i+1+j by omega]at this
  unfold jv
  by_cases q:(F c).1=i
  .rw[if_pos (show (F c).1=i+0 from q)]at h2;rw[if_pos q,D3 h1,v9 l (i+1) _ hs];refine TV λk _=>?_;rw[List.filterMap_cons_some h2,List.count_cons]
   by_cases z:(F c).2=k
   .rw[if_pos z,if_pos (by simpa using z)];omega
   .rw[if_neg z,if_neg (by simpa using z)];omega
  .rw[if_neg (show ¬ (F c).1=i+0 from q)]at h2;rw[if_neg q,v9 l (i+1) f hs,List.filterMap_cons_none h2]
section
variable {n e m:Nat}{t:AC}{S W:AT}(gt:GT n t e)(pt:IsPart n t S)(w:IsW t S W m)
include gt pt w
theorem AV{a:Nat}(ha:a<n):cnt m ((dy n t e S W).getD a [])=cnL m (stL n t e S W a):=by
 have e0:RZ m 0=(RS m).map λ_=>0:=by rw[List.map_const',Sv]
 rw[RT,iQ ha];unfold cnt;rw[e0];refine(v9 (G:=λc=>smO S W (cj n t e c a)) (aV n t e S) 0 _ λj c hc=>?_).trans ?_
 .have cn:=bZ (RQ hc);obtain⟨_,k',_,z2,z3,_⟩:=zK gt pt (gt.lt a c ha cn);have kl:S.idxOf (ov n t e S (tb t a c))<W.length:=by rw[z3,w.len];exact(RN.mp z2).1
  refine⟨w.lt _ (RQ (getD_some (l:=W) 0 kl)),?_⟩;have si:=J2 gt pt ha hc;o_src;rw[To];unfold smO
  by_cases q:hm n t e S (tb t a c)=j
  .rw[if_pos q,if_pos (si.mp q),Mx gt pt ha hc q];rfl
  .rw[if_neg q,if_neg λy=>q (si.mpr y)]
 .unfold cnL stL;rw[Xt];exact TV λk _=>To _
theorem Lm{x a:Nat}(hx:x∈S)(ha:a∈S):mkO S W (cj n t e x a)=mkO S W a:=by
 have b:=pt.bk gt hx;have z:=w.add _ b _ hx;rw[gt.fS (pt.lt x hx),w.un gt pt]at z;unfold cj;rw[w.add _ (pt.cl _ b _ ha) _ hx,w.add _ b _ ha,Tp,show ∀a b c:Nat,a+b+c=a+c+b from λa b c=>by omega,Xd,<- z,To,Nat.mod_mod,Ss (w.mlt ha)]
theorem Me{h a:Nat}(hh:h∈S)(ha:a<n):smO S W (cj n t e h a)=smO S W a:=by
 have hn:=pt.lt h hh;unfold smO
 by_cases c:a∈S
 .rw[if_pos c,if_pos (DF gt pt hh c),Lm gt pt w hh c]
 .rw[if_neg c,if_neg λz=>c ?_];have:=DF gt pt (pt.bk gt hh) z
  rwa[E6 gt hn (gt.aO hn) ha,gt.ef hn,Rm gt ha]at this
theorem Oc{x a:Nat}(hx:x<n)(ha:a<n):(stL n t e S W (cj n t e x a)).Perm (stL n t e S W a):=by
 have xc:∀ {c},c∈aV n t e S->tb t x c<n:=λhc=>gt.lt x _ hx (bZ hc);have hk:∀c,c∈aV n t e S->∃c',(aV n t e S)[hm n t e S (tb t x c)]?=some c'/\c' < n/\tb t (ay n t e c') (tb t x c)=ov n t e S (tb t x c)/\ov n t e S (tb t x c)∈S:=λc hc=>uz gt pt (xc hc);have gd:∀ {c c'},(aV n t e S)[hm n t e S (tb t x c)]?=some c'->(aV n t e S).getD (hm n t e S (tb t x c)) 0=c':=λz=>by rw[RT,z];rfl
 have p:((aV n t e S).map λc=>(aV n t e S).getD (hm n t e S (tb t x c)) 0).Perm (aV n t e S):=by
  have nd:=aA (oZ (n:=n) (t:=t) (e:=e) (R:=S));have sub:∀y∈(aV n t e S).map λc=>(aV n t e S).getD (hm n t e S (tb t x c)) 0,y∈aV n t e S:=λy hy=>by
   obtain⟨c,hc,rfl⟩:=R9.mp hy;obtain⟨c',z,_⟩:=hk c hc;rw[gd z];exact RQ z
  have nd':=fh (f:=λc=>(aV n t e S).getD (hm n t e S (tb t x c)) 0) nd λc hc d hd q=>by
   obtain⟨c',z1,z2,z3,z4⟩:=hk c hc;obtain⟨d',y1,y2,y3,y4⟩:=hk d hd;rw[gd z1,gd y1]at q;subst q;have cn:=bZ hc;have dn:=bZ hd;have:=iL gt pt z2 (xc hc) (xc hd) (by rw[z3];exact z4) (by rw[y3];exact y4)
   rw[DN gt hx cn,gt.assoc _ _ _ (gt.aO cn) (gt.aO hx) (xc hd),<- gt.assoc _ _ _ (gt.aO hx) hx dn,gt.fS hx,gt.unl d dn]at this;exact Cp gt pt dn hc hd this (qS gt pt dn)
  refine(U1 nd' nd).mpr λy=>⟨sub y,λhy=>S0 λno=>?_⟩;have:=sub_len (SS.mpr ⟨no,nd'⟩) (l2:=aV n t e S) λz hz=>by
   rcases Sf.mp hz with q|q
   .rw[q];exact hy
   .exact sub z q
  rw[SU,RP]at this;omega
 unfold stL;refine List.Perm.trans (.of_eq ?_) ((p.map λc=>cj n t e c a).filterMap (smO S W));rw[Ux,Xt,Xt];refine lY λc hc=>?_;obtain⟨c',z1,z2,z3,z4⟩:=hk c hc;show smO S W (cj n t e c (cj n t e x a))=smO S W (cj n t e ((aV n t e S).getD (hm n t e S (tb t x c)) 0) a);have e1:tb t c' (ov n t e S (tb t x c))=tb t x c:=by rw[<- z3,<- gt.assoc _ _ _ z2 (gt.aO z2) (xc hc),gt.ef z2,gt.unl _ (xc hc)]
 rw[gd z1,E6 gt hx (bZ hc) ha,<- e1,<- E6 gt z2 (pt.lt _ z4) ha,Me gt pt w z4 (QE gt z2 ha)]
theorem M7{x c:Nat}(hx:x<n)(hc:c∈cls n t e x):cnL m (stL n t e S W c)=cnL m (stL n t e S W x):=by
 obtain⟨b,hb,rfl⟩:=(iJ gt hx).mp hc;have e1:aQ n t e x b=cj n t e (ay n t e b) x:=by
  unfold aQ cj;rw[ES gt (gt.aO hb) hb (gt.fS hb)]
 unfold cnL;rw[e1];exact TV λk _=>(Oc gt pt w (gt.aO hb) hx).count_eq k
end
theorem Ew(hm:0<m)(W:lH m)(l:ZM)(hd:(cU m l).length<=l.length):n6 m (nL m) (eP 1 (cU m l) 0 (cU m l).length l):=by
 intro k hk;have e:=Am m 1 hm (nL m) (Sg m 0 l) (Sg m 0 (cU m l)) (Sg m 0 (eP 1 (cU m l) 0 (cU m l).length l)) (λk hk=>?_) k hk
 .rw[e,Od hm W l hk];omega
 .have s:eP 1 (cU m l) 0 (cU m l).length l=Xr (λx y=>x - 1 * y) (l.take (cU m l).length) (cU m l)++l.drop (cU m l).length:=by
   generalize cU m l=d at hd;refine Tr λi=>?_;rw[iI];rcases Sb i d.length with z|z
   .rw[Sz (by simp;omega),YI,Th z,RL (show i<l.length by omega),RL z,TQ,if_pos (by omega)]
    simp[V0,RL z]
   .rw[SE (by simp;omega),Xo]
    simp only[List.length_zipWith,Sd];rw[show d.length+(i - min (min d.length l.length) d.length)=i by omega]
    cases l[i]? with
    | none=>rfl
    | some x=>rw[TQ,if_neg (by omega)]
  have e1:Sg m 0 l k=Sg m 0 (l.take (cU m l).length) k+Sg m (0+(l.take (cU m l).length).length) (l.drop (cU m l).length) k:=by rw[<- kh,UK]
  rw[s,kh,BA _ _ _ _ _ _ (by simp;omega),e1]
  rw[show (Xr (λx y=>x - 1 * y) (l.take (cU m l).length) (cU m l)).length=(l.take (cU m l).length).length by simp]
  omega
theorem Hc:∀ {m:Nat} (l:ZM) (o k:Nat),o+l.length<=m->k<m->Sg m o l k=if o<=k then l.getD (k - o) 0 else 0
 | _,[],o,k,_,_=>by simp[Sg]
 | m,x :: l,o,k,h,hk=>by
  have h':o+(l.length+1)<=m:=h;show (if o % m=k then x else 0)+Sg m (o+1) l k=_;rw[Ss (show o<m by omega),Hc l (o+1) k (by omega) hk]
  rcases TN o k with z|z|z
  .rw[if_neg (by omega),if_pos (by omega),if_pos (by omega),show k - o=(k - (o+1))+1 by omega,List.getD_cons_succ];omega
  .subst z;rw[if_pos rfl,if_neg (by omega),if_pos (R6 _),Zs,List.getD_cons_zero];omega
  .rw[if_neg (by omega),if_neg (by omega),if_neg (by omega)];rfl
theorem EJ:∀m,m<61->1<=m->(bH m (m - 1)).2=1:=by trivial
theorem yf{m i:Nat}(h:(bH m i).2=1):∀j,bH m (i+j)=bH m i
 | 0=>rfl
 | j+1=>by
  have ih:=yf h j;show (let (l,r):=bH m (i+j);(if r % (i+j+2)=0 then l++[i+j+2] else l,strip (i+j+2) 64 r))=_;rw[ih];generalize bH m i=z at h;obtain⟨l,r⟩:=z;cases(show r=1 from h);have o:¬ 1 % (i+j+2)=0:=by rw[Ss (by omega)];decide
  show (if 1 % (i+j+2)=0 then l++[i+j+2] else l,strip (i+j+2) 64 1)=(l,1);rw[if_neg o]
  congr 1
section
variable {P:Sj}{w:World} 
inductive EE{α0 α1:Type}(A0:Prop)(A1:α0->α1->Prop)(A2:α0->α1->Prop)(A3:α0->α1->Prop)(A4:α0->α1->Prop)(A5:α0->α1->Prop):Prop|mk (_:A0) (x0:α0) (x1:α1) (_:A1 x0 x1) (_:A2 x0 x1) (_:A3 x0 x1) (_:A4 x0 x1) (_:A5 x0 x1)
theorem Ld{X:Cx}(K:RM)(hK:X.K=K){pos p1 p2:Pos}{x y:Str}(hc:X.calm=true)(hN:X.N.Nodup)(hi:X.N[i]?=some x)(hx:Loc X.env.scope x)(hj:X.N[j]?=some y)(hy:Loc X.env.scope y)
  (hf:X.fn x=true\/X.env.scope.names.lookup x=some .local:=by first|exact .inl rfl|exact .inr rfl|assumption) (hf':X.fn y=true\/X.env.scope.names.lookup y=some .local:=by first|exact .inl rfl|exact .inr rfl|assumption) :
  PG X (.Tuple [.Name x p1,.Name y p2] k pos) (Kw K 2 (iU (dZ i) (iU (dZ j) xf))):=by
 subst hK;exact Lu hc (cv (oj hN hi hx hf) (cv (oj hN hj hy hf') iN))
def SD(n:Nat)(kvs:Z2)(p:Nat->Prop):Prop:=∀y,y<n->(p y->bq kvs (nk y)=some (.bl true))/\(¬ p y->bq kvs (nk y)=none)
section
variable {kvs:Z2}{p q:Nat->Prop}
theorem SD.iff(h:SD n kvs p)(i:∀y,y<n->(p y↔q y)):SD n kvs q:=λy hy=>⟨λz=>(h y hy).1 ((i y hy).mpr z),λz=>(h y hy).2 λu=>z ((i y hy).mp u)⟩
theorem SD.put(h:SD n kvs p){y0:Nat}:SD n (putK kvs (nk y0) (.bl true)) (λy=>p y\/y=y0):=λy hy=>by
 rw[BM]
 by_cases c:nk y=nk y0
 .rw[if_pos c];exact⟨λ_=>rfl,λz=>absurd (.inr (gj c)) z⟩
 .rw[if_neg c];exact⟨λz=>(h y hy).1 (z.resolve_right λu=>c (by rw[u])),λz=>(h y hy).2 λu=>z (.inl u)⟩
def inS(n:Nat)(t:AC)(e:Nat)(S:AT)(i y:Nat):Prop:=∃c,c∈dz n t e S i/\tb t (ay n t e c) y∈S
theorem Ed(hi:inS n t e S i i):dz n t e S (i+1)=dz n t e S i:=by
 obtain⟨c,hc,h⟩:=hi;rw[tD,if_neg];intro z;unfold ou at z;exact of_decide_eq_true z c (pW.mp hc).1 h
theorem Ms(g:GT n t e)(pt:IsPart n t S)(hn:i<n)(hi:¬ inS n t e S i i):dz n t e S (i+1)=dz n t e S i++[i]:=by
 obtain⟨c,hc,h⟩:=Dz g pt i hn;have ci:c=i:=by
  rcases Sb c i with z|z
  .exact absurd ⟨c,pW.mpr ⟨z,(eO.mp hc).2⟩,h⟩ hi
  .exact Nat.le_antisymm (LP g pt hn hc h) z
 subst ci;rw[tD,if_pos];unfold ou;exact decide_eq_true (eO.mp hc).2
end
theorem HB{d ds:Addr}{kvs:Z2}(h:Rows H H' d L)(hd:H' ds=some (.dK kvs)):Rows H (upd H' ds o) d L:=by
 obtain⟨h0,ps,h1,h2⟩:=h;have ne:∀ {a:Addr} {ys:Z7},H' a=some (.lst ys)->a≠ds:=λz c=>by rw[c,hd]at z;cases z
 exact⟨h0,ps,by rw[ak (ne h1)];exact h1,Paired.bK h2 λp r z=>⟨z.1,z.2.1,by rw[ak (ne z.2.2)];exact z.2.2⟩⟩
theorem Dy:∀ {F M:AT} {f:Nat},f∉F->bq (cY F M) (nk f)=none
 | [],_,_,_=>rfl
 | _ :: _,[],_,_=>rfl
 | a :: F,q :: M,f,h=>by
  show bq ((nk a,V.int q) :: cY F M) (nk f)=none;rw[b7 (λz=>h (by rw[gj z];exact R4))]
  exact Dy λz=>h (R3 _ z)
def crB(n:Nat)(t:AC)(e:Nat)(l:AT):AC:=l.map λc=>[c,ay n t e c]
inductive Aa(K:RM)(vs:Z7)(H:Hp)(Q:VK)(E:XK):Prop
 | mk (d p u:Addr) (n e m:Nat) (t:AC) (ps:ZL) (S W:AT) (_:vs=[.ref d,.ref p,.ref u]) (_:Tbl H d t ps) (_:GT n t e) (_:H p=some (.lst (aw S))) (_:IsPart n t S) (_:H u=some (.lst (aw W))) (_:IsW t S W m) (_:∀dd H',ag H H'->At K H' (.ref dd) ((RS n).map (stL n t e S W))->Q (.ref dd) H')
theorem Bz:Fa P w base T.jX 2 (Aa K):=by
 exists T.jX.ok cE
 obtain⟨d,p,u,n,e,m,t,ps,S,W,rfl,tb0,gt,hp,pt,hu,hw,q⟩:=h;have b!:=gt.le;have sl:=pt.len;have nd:=aA pt.srt;refine⟨_,(aa (pz 3 cE.nd (pdf T.fN (oK T) hr (pa1 (pv 0))))
   (aa (pz 4 cE.nd (js K rfl rfl rfl T.rM rfl T.va (paF (pv 1) (pa1 (pv 2)))))
   (aa (pz 5 cE.nd l6)
   (aa (pz 6 cE.nd (bj bT))
   (aa (pfo (prg T.aK (pln K T.bz (pv 0))) (pgn 7 cE.nd) (ae (aU (md (qZ (cI hr) (pv 7) (pv 5))) (aa (a9 (pap K (pv 6) (bj (paF (pv 7) (pa1 (rm K rfl Us X3 PySem.F.type_list_index Iy (pxl K (pv 0) (pv 7)) (pa1 (pv 3))))))))
   (ae (pfo (pil K (pv 1)) (pgn 8 cE.nd) (ae (lG (cI hr) (pv 5) (pxl K (pxl K (pv 0) (pv 7)) (pv 8)) fX rfl))))) aH)))
   (aa (pz 9 cE.nd (bj bT))
   (aa (pfo (prg T.aK (pln K T.bz (pv 0))) (pgn 10 cE.nd) (aa (cF (i:=11) rfl cE.nd rfl (VW rfl) oR (pil K (pv 6)) (λ_ _ _ _=>⟨(Ld K rfl (i:=0) (j:=1) rfl oR.nd rfl (VW rfl) rfl (VW rfl)),aZ,(pxl K (pxl K (pv 3) (pxl K (pxl K (pv 3) (pv 1)) (pv 2))) (pv 0))⟩) rfl)
   (ae (a9 (pap K (pv 9) (bA rfl nZ (pil K (pv 11)) (λ_ _ _ _=>⟨(pgn 0 nZ.nd),(DP (md (NG (cI hr) (pv 0) (pv 1)))),(dC (cI hr) (pv 1) (pv 0) (λ_ _=>rfl))⟩)))))))
   (ae (az (pv 9)))))))))),?_⟩
 apply⟨_,n,e,t,rfl,tb0.at,gt,?_⟩;apply j9 ?_;apply AE (bu hp) (bu hu) hw.len.symm nd λdm hdm=>?_;exists hdm,(.dK (cY S W)),H,dm,s1,m1,(.dK (cY S W)),H1;have mk0:∀y∈S,bq (cY S W) (nk y)=some (.int (mkO S W y:Int)):=λy hy=>gm nd (lJ hy) (getD_some (l:=W) 0 (by rw[hw.len];exact SY hy))
 apply rO λds hds=>?_;exists hds,(.dK []),H1,ds,s2,w2,(.dK []),H2;apply cH ?_;apply⟨sB,λdc hdc=>?_⟩
 have s3:=s2.trans (ar hdc (.lst []));have w3:=ar hdc (.lst []) _ _ w2;have fdc:H1 dc=none:=s2.free hdc;have c3:Rows H1 (upd H2 dc (.lst [])) dc (crB n t e (dz n t e S 0)):=Rows.nil fdc aj;generalize upd H2 dc (.lst [])=H3 at s3 w3 c3 ⊢;have tb1:=tb0.mono s1;have k!:=s1 _ _ hp;apply cS (tb1.mono s3).at ?_;rw[gt.len];refine aX (n:=n) rfl (by omega) (λi σ' H'=>C6 (ag H1 H') (λkvs (_ _:ZQ)=>H' ds=some (.dK kvs)) (λkvs _ _=>kvs.length<=i * 23) (λkvs _ _=>SD n kvs (inS n t e S i)) (λ_ _ _=>Rows H1 H' dc (crB n t e (dz n t e S i))) (λ_ x7 x8=>σ'=[R? d,R? p,R? u,I? e,R? dm,R? ds,R? dc,x7,x8,none,none,none])) ⟨s3,[],_,_,w3,SO _,λy _=>⟨(λ⟨c,hc,_⟩=>nomatch hc),λ_=>rfl⟩,c3,rfl⟩ ?_ ?_
 .rintro i σ' H4 hi ⟨s4,kvs,x7,x8,w4,kl,sd,c4,rfl⟩;fin2;k_ne;apply rf ?_;apply um w4 ?_
  by_cases c:inS n t e S i i
  .rw[(sd i hi).1 c];apply gn ?_;fin2;exact⟨s4,kvs,_,_,w4,by omega,sd.iff λy _=>by unfold inS;rw[Ed c],by rw[Ed c];exact c4,rfl⟩
  .rw[(sd i hi).2 c];have cn:=Ms gt pt hi c;have cl1:(dz n t e S i).length<=23:=SA (fI _ i) (by omega)
   obtain⟨_,qs,hq,_⟩:=id c4;have tb4:=tb1.mono s4;apply uq ?_;apply⟨.inl ⟨rfl,_,SqL.of hq⟩,?_⟩;apply cH ?_;fin2;have pl:i<ps.length:=by rw[tb4.len,gt.len];exact hi
   have c!:=tb4.row i _ _ (RL pl) (gt.get hi);refine⟨d,_,_,.ref ps[i],rfl,rfl,SqL.of tb4.top,eU (by rw[RY,RL pl];rfl),?_⟩
   apply⟨.inl ⟨rfl,_,SqL.of c!⟩,?_⟩;apply Lc c! (j:=ay n t e i) (by rw[gt.c8 hi (gt.aO hi),gt.ef hi]) (λj hj z=>?_) ?_
   .have hb:=gt.aO hi;rw[gt.c8 hi (by omega)]at z
    have:=gt.cK hi (by omega) hb ((SI z).trans (gt.ef hi).symm)
    omega
   apply⟨Sc,λpa hpa=>?_⟩
   exists hpa,(.lst [.int i,.int (ay n t e i:Int)]),H4,pa,s5,h5,(.lst (aw [i,ay n t e i])),H5;refine nH (c4.mono s5) (by unfold crB;rw[RP];omega) (s4.free hpa) (bC hq hpa).symm h5 λH6 c6 k6=>?_
   have s6:ag H1 H6:=λa o z=>k6 a o (au z fdc) (s5 _ _ (s4 _ _ z));have w6:=k6 _ _ (λz=>by rw[z,hq]at w4;cases w4) (s5 _ _ w4)
   have e6:crB n t e (dz n t e S i)++[[i,ay n t e i]]=crB n t e (dz n t e S (i+1)):=by unfold crB;rw[cn,SQ];rfl
   rw[e6]at c6;apply dQ (H₀:=H1) (α:=Nat) (bu k!) (λk σ' H'=>EE (ag H1 H') (λkvs (_:ZQ)=>H' ds=some (.dK kvs)) (λkvs _=>kvs.length<=i * 23+k) (λkvs _=>SD n kvs (λy=>inS n t e S i y\/∃j h,j<k/\S[j]?=some h/\y=tb t i h)) (λ_ _=>Rows H1 H' dc (crB n t e (dz n t e S (i+1)))) (λ_ x8=>σ'=[R? d,R? p,R? u,I? e,R? dm,R? ds,R? dc,I? i,x8,none,none,none])) ⟨s6,kvs,_,w6,kl,sd.iff λy _=>⟨.inl,λz=>z.elim id λ⟨j,_,z,_⟩=>absurd z (Vl _)⟩,c6,rfl⟩ (λk σ' H' z=>z.1) ?_ ?_
   .rintro k h w' σ' H7 hk E! ⟨s7,kv7,x8,w7,kl7,sd7,c7,rfl⟩;cases(show w'=V.int h from E!);have hn:=pt.lt h (RQ hk);have hle:=(RN.mp hk).1;have l7:=gW kv7 (nk (tb t i h)) (V.bl true);apply lM ?_;apply b6 (tb1.mono s7).at rfl (gt.get hi) λw1 U'=>?_;apply bw U' (gt.c8 hi hn) ?_;refine oE w7 (by omega) ?_
    w_up
    refine⟨λa o z=>by rw[ak (au z hds)];exact s7 _ _ z,_,_,aj,by omega,sd7.put.iff λy _=>?_,HB c7 w7,rfl⟩
    constructor
    .rintro ((z|⟨j,h',z1,z2,z3⟩)|z)
     .exact .inl z
     .exact .inr ⟨j,h',Td z1,z2,z3⟩
     .exact .inr ⟨k,h,Ui _,hk,z⟩
    .rintro (z|⟨j,h',z1,z2,z3⟩)
     .exact .inl (.inl z)
     .rcases Nat.lt_succ_iff_lt_or_eq.mp z1 with y1|y1
      .exact .inl (.inr ⟨j,h',y1,z2,z3⟩)
      .subst y1;rw[hk]at z2;cases z2;exact .inr z3
   .rintro σ' H7 ⟨s7,kv7,x8,w7,kl7,sd7,c7,rfl⟩;apply⟨s7,kv7,_,_,w7,by omega,sd7.iff λy hy=>?_,c7,rfl⟩
    unfold inS;rw[cn];constructor
    .rintro (⟨c',z1,z2⟩|⟨j,h,z1,z2,z3⟩)
     .exact⟨c',Tx _ z1,z2⟩
     .exact⟨i,SJ _ R4,(eK gt pt hi hy).mpr ⟨h,RQ z2,z3.symm⟩⟩
    .rintro⟨c',z1,z2⟩;rcases R5.mp z1 with z|z
     .exact .inl ⟨c',z,z2⟩
     .rw[RX.mp z]at z2;obtain⟨h,y1,y2⟩:=(eK gt pt hi hy).mp z2;obtain⟨j,hj⟩:=Sk y1;exact .inr ⟨j,h,(RN.mp hj).1,hj,y2.symm⟩
 .rintro σ' H4 ⟨s4,kvs,x7,x8,w4,kl,sd,c4,rfl⟩;have aC:At K H4 (.ref dc) (crB n t e (aV n t e S)):=c4.at;have cl:=lZ (n:=n) (t:=t) (e:=e) (R:=S)
  clear w4 sd c4
  apply cH ?_;apply⟨sB,λdv hdv=>?_⟩
  have s5:=ar hdv (.lst []);have h5:Rows H4 (upd H4 dv (.lst [])) dv (((RS n).map (stL n t e S W)).take 0):=Rows.nil hdv aj;generalize upd H4 dv (.lst [])=H5 at s5 h5 ⊢;have tb4:=tb1.mono s4;have m4:=s4 _ _ m1;apply cS (tb4.mono s5).at ?_;rw[gt.len];refine aX (n:=n) rfl (by omega) (λi σ' H'=>lK (ag H4 H') (Rows H4 H' dv (((RS n).map (stL n t e S W)).take i)) (λe! T!=>σ'=[R? d,R? p,R? u,I? e,R? dm,R? ds,R? dc,x7,x8,R? dv,e!,T!])) ⟨s5,h5,_,_,rfl⟩ ?_ ?_
  .rintro a σ' H6 ha ⟨s6,r6,e!,T!,rfl⟩;apply jy (β:=Nat) (Rep.mono s6 aC) (by unfold crB;rw[RP];omega) (λi=>((aV n t e S).map λc=>cj n t e c a).take i) (λσ'=>∃y z,σ'=[y,z,I? a,R? d]) rfl (λi _=>by rw[Sd];omega) ⟨_,_,rfl⟩ ?_ ?_
   .rintro i r w' σ' H7 d' R' R0 hr7 s7 E! ⟨y,z,rfl⟩ J' a! ZZ;unfold crB at hr7;rw[RY]at hr7;obtain⟨c,hc,rfl⟩:=Tv.mp hr7;have cn:=bZ (RQ hc);have bn:=gt.aO cn;obtain⟨pq,xs,rfl,hS,hP⟩:=E!;cases hP with
    | cons r1 t1 =>
     cases t1 with
     | cons r2 t2 =>
      cases t2;cases(show _=V.int c from r1);cases(show _=V.int (ay n t e c:Int) from r2);refine⟨pq,_,rfl,hS,rfl,⟨_,_,rfl,⟨_,_,rfl,⟨rfl,?_⟩⟩⟩⟩;have tb7:=tb4.mono (s6.trans s7);apply b6 tb7.at rfl (gt.get bn) λw1 U'=>?_;apply bw U' (gt.c8 bn ha) ?_;refine b6 tb7.at rfl (gt.get (gt.lt _ _ bn ha)) λw2 S!=>?_;apply bw S! (gt.c8 (gt.lt _ _ bn ha) cn) ?_;refine J' _ _ _ _ ⟨_,_,rfl⟩ (ag.refl _) rfl ?_;rw[Sw,RY,hc];rfl
   intro df H7 s7 aF;rw[Sn (by unfold crB;rw[RP,RP];exact R6 _)]at aF
   have s47:=s6.trans s7;obtain⟨_,qs,hq,_⟩:=id r6;apply⟨.inl ⟨rfl,_,SqL.of (s7 _ _ hq)⟩,?_⟩;apply kg (β:=Nat) aF (by rw[RP];omega) (λi=>(((aV n t e S).map λc=>cj n t e c a).take i).filterMap (smO S W)) (λσ'=>∃y,σ'=[y,R? dm]) rfl (λi _=>SA (List.length_filterMap_le _ _) (by rw[Sd];omega)) ⟨_,rfl⟩ ?_ ?_
   .rintro i h w' σ' H8 d' R' R0 hh s8 E! ⟨y,rfl⟩ J' a! ZZ;cases(show w'=V.int h from E!);have tk:(((aV n t e S).map λc=>cj n t e c a).take (i+1)).filterMap (smO S W)=(((aV n t e S).map λc=>cj n t e c a).take i).filterMap (smO S W)++(smO S W h).toList:=by
     rw[Sw,hh,List.filterMap_append]
     congr 1
    unfold smO at tk;apply Oe ?_;apply Pn (s8 _ _ (s47 _ _ m4)) ?_
    by_cases c:h∈S
    .rw[mk0 h c];apply uq ?_;apply dB ?_;apply dR (s8 _ _ (s47 _ _ m4)) (mk0 h c) ?_;rw[if_pos c]at tk;exact J' _ _ _ _ ⟨_,rfl⟩ (ag.refl _) rfl tk
    .rw[Dy c];apply gn ?_;rw[if_neg c]at tk;exact a! _ _ ⟨_,rfl⟩ (ag.refl _) (tk.trans (VH _))
   intro dr H8 fdr s8 g8;have g8':Gr K H8 dr ((((aV n t e S).map λc=>cj n t e c a).take ((aV n t e S).map λc=>cj n t e c a).length).filterMap (smO S W)):=g8;rw[SV]at g8';have h8:=eI g8';refine nH (r6.mono (s7.trans s8)) (by rw[Sd,RP,Sv];omega) (s47.free fdr) (bC (s7 _ _ hq) fdr).symm h8 λH9 r9 k9=>?_
   w_up
   refine⟨λb o z=>k9 b o (au z hdv) (s8 _ _ (s47 _ _ z)),?_,_,_,rfl⟩;rw[bE _ n a ha];exact r9
  .rintro σ' H6 ⟨s6,r6,e!,T!,rfl⟩;rw[Sn (by rw[RP,Sv];exact R6 _)]at r6
   fin2;exact q dv H6 (s1.trans (s4.trans s6)) r6.at
end
section
variable {P:Sj}{w:World} 
inductive zD(K:RM)(vs:Z7)(H:Hp)(Q:VK)(E:XK):Prop
 | mk (v:V) (m:Nat) (l:AT) (_:vs=[v,.int m]) (_:At K H v l) (_:m<=60) (_:∀x∈l,x<m) (_:∀p H',H p=none->ag H H'->H' p=some (.lst (aw (cnL m l)))->Q (.ref p) H')
theorem y6:Fa P w base T.ju 1 (zD K):=by
 exists T.ju.ok kT
 obtain⟨v,m,l,rfl,hv,m2,lt,q⟩:=h;refine⟨_,(aa (cF (i:=2) rfl kT.nd rfl (VW rfl) nu (prg T.aK (pv 1)) (λ_ _ _ _=>⟨(pgn 0 nu.nd),aZ,ai⟩) rfl)
   (aa (pfo (pil K (pv 0)) (pgn 3 kT.nd) (ae (ot (ao aT (pxl K (pv 2) (pv 3)) ai) (oC (pv 2) (pv 3) set_list))))
   (ae (az (pv 2))))),?_⟩
 apply gJ K (n:=m) (β:=Nat) rfl (by omega) (λi=>((RS m).map λ_=>0).take i) (λσ'=>∃y,σ'=[y]) rfl (λi _=>by rw[Sd];omega) ⟨_,rfl⟩ ?_ ?_
 .rintro i σ' H1 d' R' R0 hi s1 ⟨y,rfl⟩ J' a! ZZ;fin2;exact J' _ _ 0 _ ⟨_,rfl⟩ (ag.refl _) rfl (bE _ m i hi)
 intro c H1 fc s1 g1;have g1':Gr K H1 c (((RS m).map λ_=>0).take m):=g1;rw[Sn (by simp)]at g1'
 have h1:H1 c=some (.lst (aw (cnL m (l.take 0)))):=eI g1';apply dQ (H₀:=H) hv (λi σ' H'=>gv (ag H H') (H' c=some (.lst (aw (cnL m (l.take i))))) (λx3=>σ'=[some v,I? m,R? c,x3])) ⟨s1,h1,_,rfl⟩ (λi σ' H' z=>z.1) ?_ ?_
 .rintro i k w' σ' H2 hk E! ⟨s2,h2,x3,rfl⟩;cases(show w'=V.int k from E!);have km:=lt k (RQ hk);have ll:(cnL m (l.take i)).length=m:=by unfold cnL;rw[RP,Sv]
  apply bw (bu h2) (c:=(cnL m (l.take i)).getD k 0) (getD_some 0 (by omega)) ?_
  apply oG h2 rfl (by unfold aw;rw[RP,ll];exact km) ?_
  w_up
  refine⟨λb o zz=>by rw[ak (au zz fc)];exact s2 _ _ zz,?_,_,rfl⟩
  rw[aj,ints_set];unfold cnL;rw[D3 km]
  congr 3
  refine TV λj _=>?_;rw[Sw,hk,List.count_append];show _=_+[k].count j;rw[List.count_cons,List.count_nil,To]
  by_cases z:k=j
  .rw[if_pos z,if_pos (by simpa using z)]
  .rw[if_neg z,if_neg (by simpa using z)]
 .rintro σ' H2 ⟨s2,h2,x3,rfl⟩;rw[SV]at h2;fin2;exact q c H2 fc s2 h2
def gM(m:Nat)(f:Nat->Int):ZM:=(RS m).map f
theorem o8{f:Nat->Int}:(gM m f).length=m:=by unfold gM;simp
theorem tR{f:Nat->Int}(h:k<m):(gM m f)[k]?=some (f k):=by unfold gM;simp[h]
theorem tS{p f r:Nat}(h:¬ r % p=0):strip p f r=r:=by
 cases f with
 | zero=>rfl
 | succ f=>show (if r % p=0 then _ else _)=_;rw[if_neg h]
theorem strip_go{p f r:Nat}(h:r % p=0)(hf:1<=f):strip p f r=strip p (f - 1) (r / p):=by
 obtain⟨g,rfl⟩:∃g,f=g+1:=⟨f - 1,by omega⟩
 show (if r % p=0 then _ else _)=_;rw[if_pos h];rfl
theorem ue{p:Nat}(hp:2<=p):∀ {f r:Nat},1<=r->1<=strip p f r/\strip p f r<=r
 | 0,r,h=>⟨h,R6 _⟩
 | f+1,r,h=>by
  by_cases c:r % p=0
  .rw[strip_go c (by omega)]
   have:=ue hp (f:=f) (Xe (Ze h (Tj c)) (by omega))
   exact⟨this.1,SA this.2 (YO _ _)⟩
  .rw[tS c];exact⟨h,R6 _⟩
theorem DT{v:V}{l:ZM}{a:Int}{c:Int}(h:At K H v l)(e:a=(j:Int)\/a=(j:Int) - (l.length:Int))(hj:l[j]?=some c)(q:Q (.int c) H):mG K v (.int a) H Q:=by
 obtain⟨p,rfl,hS⟩:=MU h;have hjl:j<l.length:=(RN.mp hj).1;refine⟨p,zsV l,a,.int c,rfl,rfl,hS,?_,q⟩;have hz:(zsV l)[j]?=some (.int c):=by unfold zsV;rw[RY,hj];rfl
 have hl:(zsV l).length=l.length:=by unfold zsV;rw[RP]
 rcases e with rfl|rfl
 .exact eU hz
 .unfold atI ixN;rw[hl,if_neg (by omega),if_pos (by omega)]
  have:((j:Int) - (l.length:Int)+(l.length:Int)).toNat=j:=by omega
  rw[this];exact hz
def nqF(m:Nat)(l:ZM)(i:Nat):Nat->Int:=Dq m ((bH m i).1.map λp=>m / p) (Sg m 0 l)
inductive yM(K:RM)(vs:Z7)(H:Hp)(Q:VK)(E:XK):Prop
 | mk (v:V) (l:ZM) (m:Nat) (_:vs=[v]) (_:At K H v l) (_:l.length=m) (_:1<=m) (_:m<=60) (_:n6 m (nL m) l) (_:∀H',ag H H'->Q (.bl true) H')
theorem ze:Fa P w base T.iZ 1 (yM K):=by
 exists T.iZ.ok cG
 obtain⟨v,l,m,rfl,hv,lm,m1,m2,no,q⟩:=h;have fin:=EJ m (by omega) m1
 refine⟨_,(aa (pz 1 cG.nd (pln K T.bz (pv 0)))
   (aa (pz 2 cG.nd (bS (fC K rfl) rfl T.f6 Tw (pa1 (pv 0))))
   (aa (pz 3 cG.nd (pv 1))
   (aa (pz 4 cG.nd ai)
   (aa (fB Ut (pcm jP (pv 3) ai) (aa (aU (pcm cz (ao aM (pv 3) (pv 4)) ai) (aa (pz 5 cG.nd (ao ck (pv 1) (pv 4)))
   (aa (pz 2 cG.nd (bA rfl nt (prg T.aK (pv 1)) (λ_ _ _ _=>⟨(pgn 0 nt.nd),aZ,(ao gA (pxl K (pv 1) (pv 0)) (pxl K (pv 1) (ao gA (pv 0) (pv 2))))⟩)))
   (ae (fB Ut (pcm cz (ao aM (pv 3) (pv 4)) ai) (ae (pz 3 cG.nd (ao ck (pv 3) (pv 4)))))))) aH)
   (ae (pz 4 cG.nd (ao aT (pv 4) ai)))))
   (ae (az (iH (DU K rfl Int hr.units) (pv 2) (bA rfl nv (prg T.aK (pv 1)) (λ_ _ _ _=>⟨(pgn 0 nv.nd),aZ,ai⟩)) (iT _))))))))),?_⟩
 apply cS hv ?_;rw[lm];apply Ea hv λa ha=>?_;have s1:=ar ha (.lst (zsV l));have h1:(upd H a (.lst (zsV l))) a=some (.lst (zsV (gM m (nqF m l 0)))):=by
  rw[aj]
  congr 3
  refine Tr λi=>?_
  by_cases hi:i<m
  .rw[tR hi,RL (by omega)]
   show _=some (Sg m 0 l i);rw[Hc l 0 i (by omega) hi,if_pos (SO _),Nat.sub_zero]
   simp[V0,RL (show i<l.length by omega)]
  .rw[Sm (by omega),Sm (by rw[o8];omega)]
 generalize upd H a (.lst (zsV l))=H1 at s1 h1 ⊢;apply fJ (λmm σ' H'=>ag H H'/\∃ (i:Nat) (a:Addr) (x5:ZQ),mm=m - i/\i<m/\1<=(bH m i).2/\(bH m i).2<=60/\H' a=some (.lst (zsV (gM m (nqF m l i))))/\σ'=[some v,I? m,R? a,I? ((bH m i).2:Int),I? ((i+2:Nat):Int),x5]) m ⟨s1,0,a,_,rfl,m1,m1,m2,h1,rfl⟩ ?_;rintro mm σ' H2 ⟨s2,i,a,x5,rfl,im,r1,r2,h2,rfl⟩;have e0:bH m (i+1)=(if (bH m i).2 % (i+2)=0 then (bH m i).1++[i+2] else (bH m i).1,strip (i+2) 64 (bH m i).2):=rfl;have on:=yf (m:=m) (i:=i);apply aW (λc=>?_) (λc=>?_)
 .have i1:i+1<m:=by
   rcases Sb (i+1) m with z|z
   .exact z
   .rw[show m - 1=i by omega]at fin
    omega
  have e1:nqF m l (i+1)=if (bH m i).2 % (i+2)=0 then Dm m (m / (i+2)) (nqF m l i) else nqF m l i:=by
   unfold nqF;rw[e0];o_src
   split
   .rw[SQ];unfold Dq;rw[VT];rfl
   .rfl
  clear on fin
  generalize hr0:(bH m i).2=r at r1 r2 e0 e1 c;refine⟨λσ3 H3=>ag H H3/\∃ (a:Addr) (x5:ZQ),1<=(bH m (i+1)).2/\(bH m (i+1)).2<=60/\H3 a=some (.lst (zsV (gM m (nqF m l (i+1)))))/\σ3=[some v,I? m,R? a,I? ((bH m (i+1)).2:Int),I? ((i+1+2:Nat):Int),x5],λσ3 H3 z=>?_,?_⟩
  .obtain⟨z1,a',x',z2,z3,z4,z5⟩:=z;exact⟨m - (i+1),by omega,z1,i+1,a',x',rfl,i1,z2,z3,z4,z5⟩
  have p64:r<2 ^ 64:=by
   have:(2:Nat) ^ 64=18446744073709551616:=by decide
   omega
  apply ja (λσ3 H3=>ag H H3/\∃ (a:Addr) (x5:ZQ),H3 a=some (.lst (zsV (gM m (nqF m l (i+1)))))/\σ3=[some v,I? m,R? a,I? (strip (i+2) 64 r:Int),I? ((i+2:Nat):Int),x5]) (λN hN=>?_) ?_
  .apply aW (λc1=>?_) (λc1=>?_)
   .rw[if_pos c1]at e1;have hle:i+2<=m:=by omega
    have q1:m / (i+2)<=m:=YO _ _;apply gJ K (n:=m) (β:=Int) rfl (by omega) (λk=>(gM m (nqF m l (i+1))).take k) (λσ'=>∃y,σ'=[y,R? a,I? ((m / (i+2):Nat):Int)]) rfl (λk _=>by rw[Sd];omega) ⟨_,rfl⟩ ?_ ?_
    .rintro k σ' H3 d' R' R0 hk s3 ⟨y,rfl⟩ J' a! ZZ;have aF:At K H3 (.ref a) (gM m (nqF m l i)):=iw (s3 _ _ h2);apply DT aF (.inl rfl) (tR hk) ?_;apply DT aF (j:=(k+(m - m / (i+2))) % m) ?_ (tR (Sy _ m1)) ?_
     .rw[o8];generalize m / (i+2)=q0 at q1;rcases Sb k q0 with z|z
      .rw[Ss (by omega)];omega
      .rw[show k+(m - q0)=(k - q0)+m by omega,Nat.add_mod_right,Ss (by omega)];omega
     apply J' _ _ (nqF m l (i+1) k) _ ⟨_,rfl⟩ (ag.refl _) (by rw[e1];rfl) (bE _ m k hk)
    intro a3 H3 fa3 s3 g3;have g3':Gr K H3 a3 ((gM m (nqF m l (i+1))).take m):=g3;rw[Sn (by rw[o8];exact R6 _)]at g3'
    have h3:H3 a3=some (.lst (zsV (gM m (nqF m l (i+1))))):=by
     obtain⟨ys,z1,z2⟩:=g3';rw[<- F2 z2];exact z1
    have C':=s2.trans s3
    clear g3 g3' h2 e1
    apply fJ (λmm σ4 H4=>H4=H3/\∃ (f cur:Nat),mm=cur/\1<=cur/\cur<=60/\cur<2 ^ f/\strip (i+2) f cur=strip (i+2) 64 r/\σ4=[some v,I? m,R? a3,I? cur,I? ((i+2:Nat):Int),I? ((m / (i+2):Nat):Int)]) r ⟨rfl,64,r,rfl,r1,r2,p64,rfl,rfl⟩ ?_;rintro mm σ4 H4 ⟨rfl,f,cur,emm,c1,c2,c3,c4,rfl⟩;apply aW (λc=>?_) (λc=>?_)
    .have f1:1<=f:=by
      rcases Tc f with z|z
      .rw[z]at c3;simp at c3;omega
      .exact z
     have hd1:cur / (i+2)<cur:=Nat.div_lt_self (by omega) (by omega)
     have hd2:1<=cur / (i+2):=Xe (Ze (by omega) (Tj c)) (by omega)
     refine⟨λσ5 H5=>H5=H4/\σ5=[some v,I? m,R? a3,I? ((cur / (i+2):Nat):Int),I? ((i+2:Nat):Int),I? ((m / (i+2):Nat):Int)],λσ5 H5 z=>?_,?_⟩
     .obtain⟨z1,z3⟩:=z;refine⟨cur / (i+2),by omega,z1,f - 1,cur / (i+2),rfl,hd2,by omega,?_,by rw[<- c4,strip_go c f1],z3⟩
      have e2:2 ^ f=2 * 2 ^ (f - 1):=by
       obtain⟨g,rfl⟩:∃g,f=g+1:=⟨f - 1,by omega⟩
       rw[Nat.pow_succ];simp;omega
      have:cur / (i+2)<=cur / 2:=Nat.div_le_div_left (by omega) (by decide)
      omega
     .fin2;exact⟨rfl,rfl⟩
    .rw[tS c]at c4;exact hN _ _ ⟨C',a3,I? ((m / (i+2):Nat):Int),h3,by rw[c4]⟩
   .rw[if_neg c1]at e1;fin2;exact hN _ _ ⟨s2,a,x5,by rw[e1];exact h2,by rw[tS c1]⟩
  .rintro σ3 H3 ⟨s3,a3,x5,h3,rfl⟩;apply⟨s3,a3,x5,?_,?_,h3,by rw[e0,show ((i+1+2:Nat):Int)=((i+2:Nat):Int)+((1:Nat):Int) by omega];rfl⟩
   .rw[e0];exact(ue (by omega) r1).1
   .rw[e0];exact SA (ue (by omega) r1).2 r2
 .have e2:(bH m i).2=1:=by omega
  have e3:nqF m l i=Dq m (nL m) (Sg m 0 l):=by
   unfold nqF nL lI;rw[show m - 1=i+(m - 1 - i) by omega,on e2]
  rw[e3]at h2;apply ka K (n:=m) (β:=Int) rfl (by omega) (λk=>(gM m λ_=>0).take k) (λσ'=>∃y,σ'=[y]) rfl (λk _=>by rw[Sd];omega) ⟨_,rfl⟩ ?_ ?_
  .rintro k σ' H3 d' R' R0 hk s3 ⟨y,rfl⟩ J' a! ZZ;fin2;exact J' _ _ 0 _ ⟨_,rfl⟩ (ag.refl _) rfl (bE _ m k hk)
  intro a3 H3 s3 g3;have g3':At K H3 (.ref a3) ((gM m λ_=>0).take m):=g3;rw[Sn (by rw[o8];exact R6 _)]at g3'
  refine K4 (iw (s3 _ _ h2)) g3' ?_;rw[decide_eq_true (show gM m _=gM m _ from TV λk hk=>no k (RU.mp hk))];fin2;exact q _ (s2.trans s3)
end
section
variable {P:Sj}{w:World} 
section
variable (T:Txt K mg){H:Hp}{b dx g:Addr}{m:Nat}{c v r:V}{Q:VK}(hb:H b=some (.ins T.bh dx (zM g m c v r)))
include hb
theorem HL(q:Q (.int m) H):isF K "spokes" (.ref b) H Q:=⟨b,T.bh,dx,_,_,rfl,hb,T.jn,T.qj,rfl,q⟩
theorem qf(q:Q c H):isF K "classes" (.ref b) H Q:=⟨b,T.bh,dx,_,_,rfl,hb,T.jn,T.nY,rfl,q⟩
theorem wO(q:Q v H):isF K "ways" (.ref b) H Q:=⟨b,T.bh,dx,_,_,rfl,hb,T.jn,T.tj,rfl,q⟩
theorem wJ(q:Q r H):isF K "rows" (.ref b) H Q:=⟨b,T.bh,dx,_,_,rfl,hb,T.jn,T.tJ,rfl,q⟩
end
inductive Cy(C CL CG:Addr)(K:RM)(vs:Z7)(H:Hp)(Q:VK)(E:XK):Prop
 | mk (d b dx g dc dw dr:Addr) (n e m k:Nat) (t:AC) (ps:ZL) (ys:Z7) (D:List (AT×AT)) (z:AT×AT) (_:vs=[.ref d,.ref b,.int k]) (_:Tbl H d t ps) (_:aG CG H g n t e) (_:GT n t e) (_:1<=m) (_:m<=60) (_:H b=some (.ins C dx (zM g m (.ref dc) (.ref dw) (.ref dr)))) (_:H dw=some (.lst ys)) (_:Tb (LfP CL H g m n e t) ys D) (_:At K H (.ref dc) (cC n t e n)) (_:At K H (.ref dr) (j8 n t e m D)) (_:D[k]?=some z) (_:∀H',ag H H'->Q (.bl true) H')
theorem CV:Fa P w base T.lq 3 (Cy T.bh T.aD T.aB K):=by
 exists T.lq.ok eN
 obtain⟨d,b,dx,g,dc,dw,dr,n,e,m,k,t,ps,ys,D,⟨S,W⟩,rfl,tb0,hG,gt,m1,K',hb,hw,al,aC,aR,hz,q⟩:=h;have b!:=gt.le;have okm:fO m=true/\tY m<=m/\∀p∈lI m,1<=m / p/\m / p<=m/\0<p/\p<=1000:=(xZ m (by omega)).resolve_left (by omega)
 have W0:=pF okm.1;have kl:k<ys.length:=by rw[al.length];exact(RN.mp hz).1
 obtain⟨z',hz',H0,pt,hW,p,wx,wd,pa,ma,e1,_,hp,hpa,hma,hD⟩:=ke al (RL kl);rw[hz]at hz';cases hz';have hk:(j8 n t e m D)[k]?=some (pj n t e m (dy n t e S W)):=by unfold j8;rw[RY,hz];rfl
 refine⟨_,(aa (pz 3 eN.nd (pxl K (pfl K (pv 1)) (pv 2)))
   (aa (pz 4 eN.nd (pdf T.jX (Bz T) hr (paF (pv 0) (paF (pfl K (pv 3)) (pa1 (pfl K (pv 3)))))))
   (aa (pfo (prg T.aK (pln K T.bz (pfl K (pv 1)))) (pgn 5 eN.nd) (ae (pfo (pil K (pxl K (pfl K (pv 1)) (pv 5))) (pgn 6 eN.nd) (aa (pz 7 eN.nd (pdf T.ju (y6 T) hr (paF (pxl K (pv 4) (pv 6)) (pa1 (pfl K (pv 1))))))
   (aa (aU (pcm (wD K rfl Nat hr.units) (p7 (pv 3) T.c9 T.oU (rE T) (hr.mono (by decide)) T.tG (pa1 (pv 6))) (pv 7)) (ae (az fX)) aH)
   (aa (pfo (prg T.aK (pln K T.bz (pxl K (pxl K (pfl K (pv 1)) (pv 2)) (pv 5)))) (pgn 8 eN.nd) (ae (ot (ao gA (pxl K (pv 7) (pv 8)) (pxl K (pxl K (pxl K (pfl K (pv 1)) (pv 2)) (pv 5)) (pv 8))) (oC (pv 7) (pv 8) set_list))))
   (ae (aU (A9 (lS (pdf T.iZ (ze T) hr (pa1 (pv 7))))) (ae (az fX)) aH))))))))
   (ae (az fX))))),?_⟩
 apply wO T hb ?_;apply⟨dw,_,_,.ref p,rfl,rfl,SqL.of hw,eU (by rw[RL kl,e1]),?_⟩
 apply Lg T hp ?_;apply JZ T hp ?_;apply⟨d,pa,ma,n,e,m,t,ps,S,W,rfl,tb0,gt,hpa,pt,hma,hW,λdd H1 s1 aS=>?_⟩;apply qf T (s1 _ _ hb) ?_;apply cS (Rep.mono s1 aC) ?_;have cl:(cC n t e n).length<=23:=by unfold cC;rw[RP];exact SA (fI _ n) b!
 refine aX (n:=(cC n t e n).length) rfl (by omega) (λi σ' H'=>ag H1 H'/\∃x5 x6 x7 x8,σ'=[R? d,R? b,I? k,R? p,R? dd,x5,x6,x7,x8]) ⟨ag.refl _,_,_,_,_,rfl⟩ ?_ ?_
 .rintro j σ' H2 hj ⟨s2,x5,x6,x7,x8,rfl⟩;have hf:(dW n t e n)[j]?=some _:=RL (by unfold cC at hj;rwa[RP]at hj)
  generalize (dW n t e n)[j]'_=f at hf;have hc:(cC n t e n)[j]?=some (cls n t e f):=by unfold cC;rw[RY,hf];rfl
  have fn:=(ft.mp (RQ hf)).1;have hr:(pj n t e m (dy n t e S W))[j]?=some (cU m ((cnL m (stL n t e S W f)).map Zf)):=by unfold pj;rw[RY,hf,<- AV gt pt hW fn];rfl
  k_put;apply qf T (d6 _ _ hb) ?_;apply b6 (Rep.mono d6 aC) rfl hc λw1 U'=>?_;apply eA U' (λi σ' H'=>DA (ag H2 H') (λx6 x7 x8=>σ'=[R? d,R? b,I? k,R? p,R? dd,I? j,x6,x7,x8])) ⟨ag.refl _,_,_,_,rfl⟩ (λi σ' H' z=>z.1) ?_ ?_
  .rintro i x w' σ' H3 hx E! ⟨s3,x6,x7,x8,rfl⟩;cases(show w'=V.int x from E!);have xc:=RQ hx;have xn:=lV xc;have cc:=M7 gt pt hW fn xc;have s13:=s2.trans s3;have C':=s1.trans s13;have lt:∀y∈stL n t e S W x,y<m:=λy hy=>by
    unfold stL at hy;obtain⟨h,_,hh⟩:=Xj.mp hy;unfold smO at hh
    split at hh
    .cases hh;exact hW.mlt ‹_›
    .cases hh
   apply b6 (Rep.mono s13 aS) rfl (by rw[RY,TU xn];rfl) λw2 S!=>?_
   apply HL T (C' _ _ hb) ?_;apply⟨w2,m,_,rfl,S!,K',lt,λc4 H4 fc4 s4 h4=>?_⟩;have d!:=C'.trans s4;fin2;k_ne;apply vL ?_;apply⟨p,wx,_,rfl,d! _ _ hp,rfl,?_⟩;obtain⟨b1,b2⟩:=Dp gt pt hW xn;apply⟨p,g,x,m,_,dy n t e S W,(dy n t e S W).getD x [],rfl,⟨wx,wd,pa,ma,d! _ _ hp,hD.mono d!⟩,m1,K',by rw[RT,iQ xn];rfl,b1,b2,λc5 H5 fc5 s5 h5=>?_⟩
   rw[AV gt pt hW xn]at h5;apply FO (bu h5) (bu (s5 _ _ h4)) ?_;apply bW (λc=>absurd rfl c) (λ_=>?_);have p!:=d!.trans s5;have s35:=s4.trans s5;have h5:=s5 _ _ h4;rw[cc,HQ]at h5;have ln:((cnL m (stL n t e S W f)).map Zf).length=m:=by unfold cnL;rw[RP,RP,Sv]
   generalize (cnL m (stL n t e S W f)).map Zf=l at hr h5 ln;have ll:=IM W0 okm.2.1 l;rw[<- vz (t:=1) (d:=cU m l) (l:=l) (st:=0)]at h5;apply wJ T (p! _ _ hb) ?_;apply b6 (Rep.mono p! aR) rfl hk λw3 hw3=>?_;apply b6 hw3 rfl hr λw4 hw4=>?_;apply cS hw4 ?_;refine aX (n:=(cU m l).length) rfl (by omega) (λi σ' H'=>gv (ag H3 H') (H' c4=some (.lst (zsV (eP 1 (cU m l) 0 i l)))) (λx8=>σ'=[R? d,R? b,I? k,R? p,R? dd,I? j,I? x,R? c4,x8])) ⟨s35,h5,_,rfl⟩ ?_ ?_
   .rintro i σ' H6 hi ⟨s6,h6,x8,rfl⟩;have il:0+i<l.length:=by omega
    have s06:=C'.trans s6;apply vt (iw h6) (n:=0+i) (by omega) (Bw il) ?_
    apply wJ T (s06 _ _ hb) ?_;apply b6 (Rep.mono s06 aR) rfl hk λw5 hw5=>?_;apply b6 hw5 rfl hr λw6 hw6=>?_;apply vt hw6 rfl (by simp[V0,RL hi]:(cU m l)[i]?=some ((cU m l).getD i 0)) ?_
    apply oG h6 (j:=0+i) (by omega) (by unfold zsV;rw[RP,mZ];exact il) ?_
    w_up
    refine⟨λb' o zz=>by rw[ak (au zz fc4)];exact s6 _ _ zz,?_,_,rfl⟩
    rw[aj,<- yg il,Int.one_mul];unfold zsV;rw[Xl]
   .rintro σ' H6 ⟨s6,h6,x8,rfl⟩;fin2;k_ne;apply⟨_,_,m,rfl,iw h6,by rw[mZ,ln],m1,K',Ew m1 W0 l (by omega),λH7 s7=>?_⟩
    apply gn ?_;fin2;exact⟨s3.trans (s6.trans s7),_,_,_,rfl⟩
  .rintro σ' H3 ⟨s3,x6,x7,x8,rfl⟩;fin2;exact⟨s2.trans s3,_,_,_,_,rfl⟩
 .rintro σ' H2 ⟨s2,x5,x6,x7,x8,rfl⟩;fin2;exact q _ (s1.trans s2)
def zN(K:RM):Sp:=λvs H Q _=>∃ (a:Addr) (ns:ZM),vs=[.ref a]/\SqL K H a (ns.map V.int)/\ns.length<=63/\∀H',Q (.bl true) H'
theorem Oj:Fa P w base T.sI 12 (zN K):=by
 refine T.sI.ok gQ (λvs H Q E h=>?_) (λcdv A outer s H vs Q E hr h=>?_)
 .obtain⟨a,ns,rfl,_⟩:=h;rfl
 obtain⟨a,ns,rfl,hS,h63,q⟩:=h;have hA:=LN hS;refine⟨_,(aa (pz 1 gQ.nd (pdf T.jZ (Bc T) hr (paF (pv 0) (pa1 ai))))
   (aa (pz 2 gQ.nd (pdf T.jO (Bu T) hr (pa1 (pv 1))))
   (aa (pz 3 gQ.nd (pv 2))
   (aa (aU (pcm Qd (pln K T.bz (pv 1)) ai) (ae (pz 3 gQ.nd (ao bO (pv 2) (ao aT ai (ao aM (pdf T.fv (jT T) hr (paF (pv 0) (pa1 ai))) (ao ck ai (pv 2))))))) aH)
   (aa (pz 4 gQ.nd (zJ T.ni (FX T) (hr.mono (by decide)) rfl (paF (pdf T.lg (Cv T) hr (pa1 (bA rfl By (pil K (pv 1)) (λ_ _ _ _=>⟨(pgn 0 By.nd),aZ,(bS (fC K rfl) rfl T.f6 Tw (pa1 (pv 0)))⟩)))) (pa1 (pv 3)))))
   (aa (pz 5 gQ.nd ai)
   (aa (pfo (pil K (pfl K (pv 4))) (pgn 6 gQ.nd) (ae (pz 5 gQ.nd (ao aT (pv 5) (pln K T.bz (pv 6))))))
   (aa (aU (PW.pt (uQ (pcm fY (pv 5) (pln K T.bz (pv 1))) (rJ (pcm fY (pln K T.bz (pfl K (pv 4))) (pln K T.bz (pfl K (pv 4))))))) (ae (az fX)) aH)
   (aa (pfo (prg T.aK (pln K T.bz (pfl K (pv 4)))) (pgn 7 gQ.nd) (ae (aU (A9 (lS (pdf T.lq (CV T) hr (paF (pv 1) (paF (pv 4) (pa1 (pv 7))))))) (ae (az fX)) aH)))
   (ae (az fX))))))))))),?_⟩
 apply⟨_,ns,0,rfl,hA,λd1 H1 n t e ps1 s1 gt M tb1 _ _=>?_⟩;have b!:=gt.le;apply⟨_,n,e,t,rfl,tb1.at,gt,λl H2 s2 hl ln=>?_⟩;have l1:=hl.pos;have D!:=tb1.mono s2;have hA2:=Rep.mono (s1.trans s2) hA;have h1:0<60 / l:=Xe (by omega) l1
 have ml:∀c:Nat,l * (1+c % (60 / l))<=60:=λc=>by
  have:=Sy c h1;exact SA (Te l (by omega:1+c % (60 / l)<=60 / l)) (XC _ _)
 apply ja (λσ3 H3=>∃m,H3=H2/\m % l=0/\0<m/\m<=60/\σ3=[R? a,R? d1,I? l,I? m,none,none,none,none]) (λN hN=>?_) ?_
 .apply cS D!.at ?_;apply aW (λ_=>?_) (λ_=>?_)
  .apply⟨_,ns,3,rfl,hA2,?_⟩;apply hN _ _ ⟨l * (1+mS ns 3 % (60 / l)),rfl,XU _ _,Uu l1 (by omega),ml _,?_⟩
   rfl
  .fin2;exact hN _ _ ⟨l,rfl,V8 _,l1,by omega,rfl⟩
 rintro σ3 H3 ⟨m,rfl,m0,m1,K',rfl⟩;apply pe (K:=K) D!.at (by rw[gt.len];omega) λdh H4 psh s4 _ _ tbh=>?_
 apply⟨_,n,e,t,rfl,tbh.at,gt,λg H5 _ s5 hg0=>?_⟩;have hg:=aG.mono Io hg0;have tb5:=D!.mono (s4.trans s5);apply⟨g,.int m,n,e,m,l,t,rfl,hg,gt,M,.inl rfl,hl,m0,m1,K',λb dx dw c r ys D H6 s6 hb hw yl al aC aR=>?_⟩;have tb6:=tb5.mono s6;have hg6:=hg.mono s6;apply qf T hb ?_;apply eA aC (λi σ' H'=>jW (H6=H') (λx6=>σ'=[R? a,R? d1,I? l,I? m,R? b,I? (((cC n t e n).take i).flatten.length:Int),x6,none])) ⟨rfl,_,rfl⟩ (λi σ' H' z=>by rw[z.1];exact ag.refl _) ?_ ?_
 .rintro i c' w' σ' H' hc E! ⟨rfl,x6,rfl⟩;have tk:((cC n t e n).take (i+1)).flatten.length=((cC n t e n).take i).flatten.length+c'.length:=by
   rw[Sw,hc,U0,R8];simp
  apply cS E! ?_;fin2;exact⟨rfl,_,by rw[tk];rfl⟩
 rintro σ' H' ⟨rfl,x6,rfl⟩;rw[SV,(Lw gt).length_eq,Sv];fin2;k_ne;apply cS tb6.at ?_;rw[gt.len];apply bW (λc=>absurd rfl c) (λ_=>?_);apply wJ T hb ?_;apply cS aR ?_;apply wO T hb ?_;apply⟨dw,_,rfl,.inl (SqL.of hw),?_⟩;fin2;have rl:(j8 n t e m D).length=ys.length:=by unfold j8;rw[RP,al.length]
 rw[rl];refine bW (λc=>absurd rfl c) (λ_=>?_);apply wO T hb ?_;apply⟨dw,_,rfl,.inl (SqL.of hw),?_⟩;refine aX (n:=ys.length) rfl (by omega) (λi σ' H'=>jW (ag H6 H') (λx7=>σ'=[R? a,R? d1,I? l,I? m,R? b,I? n,x6,x7])) ⟨ag.refl _,_,rfl⟩ ?_ ?_
 .rintro k σ' H7 hk ⟨s7,x7,rfl⟩;fin2;k_ne;apply⟨d1,b,dx,g,c,dw,r,n,e,m,k,t,ps1,ys,D,_,rfl,tb6.mono s7,hg6.mono s7,gt,m1,K',s7 _ _ hb,s7 _ _ hw,Paired.bK al λ_ _ z=>z.mono s7,Rep.mono s7 aC,Rep.mono s7 aR,RL (by rw[<- al.length];exact hk),λH8 s8=>?_⟩
  apply gn ?_;fin2;exact⟨s7.trans s8,_,rfl⟩
 .rintro σ' H7 ⟨s7,x7,rfl⟩;fin2;exact q _
end
theorem L7{l:Yy}{w:World}{fa:Addr}(hfa:mg "law" = some (.ref fa))(T:Txt K mg)(hb:∀ (s:RV) (v:Value),Xv s T.sI.fd ⟨[v],[]⟩ [("_law_script",v)]) :
  ∃fd:TC,(∀ (s:RV) (v:Value),Xv s fd ⟨[v],[]⟩ [("_law_script",v)])/\∀base:Heap,K.In base->base.Ns S4 mg->aE l.prog w K mg base CX0 12 fa fd ["_law_script"] (zN K):=by
 refine⟨T.sI.fd,hb,λbase _ _=>?_⟩;cases hfa.symm.trans T.sI.nm;exact Oj T
theorem walk{l:Yy}{q:Sj}{d:DefRec}{K:Params->RM}(hn:l.most=some 63)(K!:d.params.defaults=[])
  (hY:∀ (w:World) (h:Heap),YP w h->(K w.params).In h)
  (F:∀ (w:World) (mg:Str->Option Value) (fa:Addr) (h:Heap),(K w.params).In h->h.Ns S4 mg->mg d.name=some (.ref fa) ->
   ∃fd:TC,(∀ (s:RV) (u:Value),Xv s fd ⟨[u],[]⟩ [("_law_script",u)])/\∀base:Heap,(K w.params).In base->base.Ns S4 mg->aE l.prog w (K w.params) mg base CX0 12 fa fd ["_law_script"] (zN (K w.params))) :
  PySem.W.WalkO q loose XP YP l.row.toRowW d [] (λf vs=>PySem.call f vs) :=
 L2.LQ (n:=63) (k:=12) (x:="_law_script") (CX:=λ_=>CX0) (sp:=λw=>zN (K w.params)) hn (by decide) K! ⟨rfl,by decide,by decide⟩ hY F (λ_ _ a ns hl _ hS=>⟨a,ns,rfl,hS,hl,λ_=>rfl⟩) λ_ _ _ _ _ z=>z
end TB
end
open PySem PySem.W PyProof.Rows L2
set_option maxRecDepth 100000 in
set_option maxHeartbeats 0 in
theorem PySem.Challenge.cw_tracebook_k53_rows_are_traces_holds : PySem.Challenge.rw_tracebook_k53_rows_are_traces.Holds := by
 w_on;refine PySem.Challenge.cx_top ?_
 k_fill
 refine TB.walk (l:=PySem.Challenge.rw_tracebook_k53_rows_are_traces) rfl rfl (fun w h Y=>PySem.W.kIn_of Y) ?F
 case F =>
  intro w mg fa h KX G hmg
  exact TB.L7 hmg ⟨df1 KX G,df1 KX G,df1 KX G,df1 KX G,df2 KX G,df2 KX G,df3 KX G,df1 KX G,df2 KX G,df3 KX G,df2 KX G,df1 KX G,df3 KX G,df1 KX G,df2 KX G,df3 KX G,df2 KX G,df2 KX G,df2 KX G,df1 KX G,df2 KX G,df2 KX G,df2 KX G,df2 KX G,df3 KX G,df2 KX G,df3 KX G,df1 KX G,df2 KX G,df1 KX G,df1 KX G,df2 KX G,df2 KX G,df2 KX G,df3 KX G,dd4 KX G,df4 KX G,df3 KX G,df4 KX G,dd5 KX G,df5 KX G,df3 KX G,dd3 KX G,df1 KX G,df2 KX G,df1 KX G,dd2 KX G,df1 KX G,df2 KX G,df4 KX G,df5 KX G,df4 KX G,df2 KX G,df2 KX G,df2 KX G,df3 KX G,df4 KX G,df3 KX G,df3 KX G,df2 KX G,df2 KX G,df1 KX G,df1 KX G,df3 KX G,df1 KX G,df2 KX G,df3 KX G,df1 KX G,_,_,_,mgk KX G,BK,mkk,fnk,bd4,ee,ee,ee,ee,_,_,_,mgk KX G,BK,mkk,fnk,bd2,ee,ee,ee,_,_,zO,fnk,bd2,_,_,zO,fnk,bd4,_,_,_,mgk KX G,BK,mkk,fnk,bd4,MP,ee,ee,ee,ee,_,_,zO,fnk,bd2,_,_,_,mgk KX G,BK,mkk,fDk,zO,ee,ee,ee,ee,ee,ee,_,_,_,mgk KX G,BK,mkk,fnk,bd4,ee,ee,ee,ee,ee,_,mgk KX G,_,mgk KX G,mgz KX G,mgz KX G,mgz KX G,mgz KX G,mgz KX G,mgz KX G,mgz KX G,mgz KX G,mgz KX G,mgz KX G,mgz KX G,mgz KX G⟩ fun s v=>.of_eq rfl
