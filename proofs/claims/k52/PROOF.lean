import PyProof.Rows.All
import OpenK.AllK
import Lean
import Wide.All
import PySem.Challenge.RW_tracebook_k52_ways_of_a_book
section
set_option Elab.async false
structure PySem.W.Fast:Prop where(tw3915408572744537568 tw15236983256658196741 tw7743243280018871091 tw13770866801207194406 tw4389999205601007383 tw4855322586242476219 tw8404522591327232678 tw11098937954495646646 tw17450830433956074188 tw15894507190348886443 tw7636001843980342055 tw7489292195730953853 tw1619902950295291815 tw6809210879709072013 tw975115285310356209 tw17360231269545492792 tw10907366023085460850 tw3037863026395356159 tw14457481470469143035 tw13070619286746485070 tw6015904794949571281 tw5968445770757560763 tw10705418530626049495 tw5837796649819144472 tw13663007866822659404 tw16868255139261364028 tw1148158382448269641 tw6327054688514539240 tw3338980515766348491 tw9006150731270964076 tw4913525587153402494 tw3358499750198326430 tw14408223083710209520 tw12033935389756982691 tw12748726764013445584 tw9363844786716215098 tw14302628358890987973 tw9269254841638347363 tw17848822328851438882 tw9810757898037613353 tw14176392241167116015 tw8746411390641004403 tw4293574271735172595 tw5586920130227236410 tw1424969076418039208 tw9761933374688377699 tw460024685584364249 tw11212276805399893081 tw71034677921449881 tw16190086450906283175 tw9632224793800082839 tw6991489380333979803 tw17935402656131122412 tw2731681898985233844 tw9411415312798227833 tw12062734250728344687 tw8189822860604740151 tw9533726625543397617 tw8467041912902200934 tw12976312514995563633 tw6100490982330261137 tw17662581677735926668 tw10902984096552030832 tw11375501466333537358 tw12307453182840200663 tw6914142415602720390 tw12487764852465638185 tw914267611757743271 tw13081801383048408135 tw11323064021299870655 tw3930612356116406811 tw10949529281973515501 tw3256625999807009721 tw15035412628127549236 tw3158992555077731797 tw17207939915288258990 tw18071508065096126436 tw18369462635788465954 tw2830263635750173988 tw3009134670493788044 tw6241275916208492000 tw3134514479779637132 tw3594597127640791991 tw419963924164868349 tw4255261586734515640 tw12210490706254363325 tw13334078538867674540 tw10566655017801315726 tw10618190862239095267 tw6402733959105791334 tw5459268436078209655 tw3450766134926556071 tw12677436962059635281 tw11089291810689068371 tw4042765977257822150 tw16258663779053577449 tw382091466321863708 tw15566144333007435688 tw17067233920948039903 tw16669406804150911281 tw9417038312112933585 tw15146682499977010432 tw4962893928551034888 tw7640431586298455477 tw8726830558117808361 tw6077745978162215199 tw4579276214266972928 tw11660210530198243498 tw10261228228516075059 tw15533212617399800021 tw13075721012852961074 tw10871821213395268585 tw6143648664301842861 tw1514703695378652944 tw1192339465738349359 tw4467525132258895457 tw3949482662432017026 tw12332764432076522009 tw9588797008684402938 tw16696486115522856827 tw1941342547130632022 tw6548528521535642847 tw16842683184317176352 tw8316890850310483350 tw10335180244975570072 tw8588429376533737324 tw9900943509242937878 tw7629221311131267981 tw5881770016070834248 tw11312004530232830601 tw16006118491488668792 tw2085926163940506499 tw9688471338130254877 tw3249016381709282704 tw11362455848917230310 tw12420833938441647768 tw5765190410435338918 tw4551034554914870042 tw16857697029060837321 tw9054733303875274354 tw8592932657595245531 tw10505523106333280028 tw7145888975753514320 tw8585140528016076586 tw13273871394622170212 tw1343292695866912549 tw10265054012629093159 tw18222210796460162616 tw9021329112028462245 tw14949359624297027894 tw16617093674767683339 tw10407409924150013433 tw5095502098171777682 tw15547653542686356778 tw1970697932134142651 tw12572498558332752052 tw16589214614789272667 tw14510761046862333220 tw6236920617605125066 tw17498246600871383634 tw18096448228972133311 tw12749589779816455099 tw4099671380991271667 tw4350192737517530882 tw6002155352557928952 tw15427341424641301936 tw16442143708048208241 tw12673663551729442708 tw907437564803088115 tw17229147175193563163 tw18303595471936452138 tw5472646215789846434 tw11859741959529951421 tw11300212189077900131 tw15110538420515421960 tw7608618161028787080 tw9228220960395296964 tw8517911447252129100 tw5918289348752996660 tw7110300819853972491 tw11514634632636561670 tw18318784544179045008 tw3114570285273759622 tw6797606521030876957 tw15739069019673352242 tw11601576528951103757 tw3077559665988695759 tw9797990788514177086 tw12179900228458365520 tw11894649756914996791 tw12990716896122179387 tw7233791586853502672 tw12991157660023029422 tw10963758345308946359 tw10993062561397109319 tw506607584442608790 tw16950861491726296578 tw3090589684061196448 tw18223076510304249661 tw15329466226438534311 tw15787026615463389452 tw4183357717763024175 tw14064746833859559231 tw13103167149868282000 tw2551011501087900643 tw8537128125276082212 tw376254966269119028 tw10449463409814480904 tw14238856974149199594 tw4974460462728397755 tw10183033400753646168 tw5072378757005954731 tw7878287134668447092 tw15522483212789806478 tw16380549412732973763 tw11527894930995455761 tw12688498853369700597 tw12665069841882939050 tw11130412043179561000 tw18154377618144200099 tw6215247660492911181 tw13765362459682612047 tw5325407360776250096 tw6190746728394238949 tw15737468188200472280 tw1960411039850145212 tw10421972453448841813 tw15996330687677955402 tw4460218274457820876 tw4927678789290471879 tw8074679080592944002 tw13712427058684652647 tw12739392731234687984 tw4118564185993488955 tw8613905618449287924 tw6608231255304314077 tw5828929335914323895 tw8531964971021372948 tw18426884365288793670 tw12798352207883462134 tw15250037880620830207 tw17053287503993209253 tw18223374037929059099 tw14923280624571055069 tw16175160715036058452 tw17402281574308206455 tw13619688829585432075 tw1459647537333481968 tw3327847466744263508 tw9604280961958122278 tw9397988089518163366 tw17866139334173569870 tw14034873112942681976 tw7586041874133109508 tw17699123533704599122 tw333600089221175356 tw1953005576643599905 tw14034280903922525991 tw4810842829733250221 tw6621831189688953652 tw15941577562627993112 tw16078056330361312357 tw11554928373011356808 tw15859305041903574171 tw1509212381760937007 tw598795553568298033 tw6727353102189326826 tw17049378648265929397 tw5660199865067964155 tw16402371328669446820 tw2355168565694791006 tw8062512052767000743 tw5777466904594190811 tw833307072978207387 tw3380832054536965373 tw14484935320202060778 tw3366092947940899710 tw9319846490742504024 tw99253436838164328 tw4096557375832048995 tw3331409419301861389 tw16097668027971869770 tw7064627373815107591 tw7967422117023190911 tw1023306440217238248 tw17781793909045528644 tw17880868195610160720 tw7695783428055300531 tw1608089984986247549 tw15718058856908254194 tw12778296852492711153 tw6629759330263196330 tw5584965313489295097 tw1125771840818719687 tw5109845465153429810 tw935413672247036087 tw16534969333253252096 tw11516321089204992993 tw5192229068934901688 tw17310184474723147853 tw9541223712957046372 tw4835016920917559970 tw16346194749596951250 tw1517768153052112395 tw7665229844596254917 tw18099019312231337319 tw2787371699951826670 tw1998865281296909804 tw11062903366024656826 tw4413727175687077561 tw5055528701812105068 tw5165554812558979815 tw8253837382390736320 tw3496996423212509746 tw13310396237780411689 tw11252611236125201206 tw8649365031484741777 tw9327464189439138728 tw6763487503016156859 tw7528519318477527956 tw8237426757570062318 tw8960116088508506885 tw12016019542483477540 tw6701533225420624605 tw12034157348147655062 tw17803474277559183394 tw3656830230312124066 tw206382871470151458 tw13884554934139896887 tw13318564259765857733 tw1409215507791359794 tw1144980113775253084 tw8876584813099433330 tw10918320971033809318 tw17081416735021293859 tw10167251172017442097 tw14180638233148137076 tw8873543763888884379 tw7160024664529423326 tw8089111696548491654 tw16538187361594634381 tw2264722540546448575 tw9368138135098259674 tw14970920456815001298 tw2791251257303551082 tw15929792228296863033 tw17462271740370350479 tw5009255981086641935 tw3333658157272311096 tw903265460117778934 tw12789642130977641766 tw9576962969762817107 tw7259192270208458897 tw674840754819758862 tw6574740429970283956 tw15614330918029197536 tw1447014468552243205 tw11034174413469612952 tw5430233682321592547 tw13175208407861013087 tw11515956277701518262 tw10269025717938995543 tw9753899999485613123 tw16205556915601225984 tw5243360836662515862 tw475060611159992004 tw1071870776873400409 tw5970378750682726628 tw4511280721620977209 tw6231474859281117085 tw8775456153578719845 tw13447210754499533392 tw14630407694603085894 tw6445485892980730944 tw11475757882422152108 tw15623310580644499870 tw6573006244402513230 tw12505207042739666978 tw5500642049672758503 tw1643333543092420657 tw11326671379994982090 tw17511133271842097389 tw14269685145538461529:True)
open PySem PySem.W PyProof.Rows
set_option maxRecDepth 100000
set_option maxHeartbeats 0
open_top PySem.Challenge.cx_top for PySem.Challenge.rw_tracebook_k52_ways_of_a_book
end
local macro_rules | `(tactic| trivial) => `(tactic| decide +kernel)
theorem YY{α:Type}{a:α}{q:Prop}:a=a\/q:=Or.inl rfl
open Array renaming length_toList->RZ,getElem?_eq_getElem->R9,getElem?_toList->Sy,getD_eq_getD_getElem?->TJ,getElem?_eq_none->TV,toList_inj->V6,getElem?_eq_some_iff->Wx,toList_map->Xs
open Array.Perm renaming refl->UG
open Bool renaming false_ne_true->RE,false_eq_true->Sv,eq_iff_iff->Tp,and_eq_true->Tu,not_eq_true'->W3
open Classical renaming byContradiction->Sm
open Exists renaming intro->X5
open False renaming elim->Uo
open ForInStep renaming yield->U6
open Int renaming toNat_natCast->S1,emod_nonneg->VI,add_mul_emod_self_left->Wz,emod_lt_of_pos->WK,toNat->WZ,zero_add->YG
open Int.ofNat renaming inj->Yv
open List renaming getElem?_eq_getElem->Q8,getElem?_eq_some_iff->Q9,mem_of_getElem?->Rb,length_map->Rc,getD_eq_getElem?_getD->Rf,range->Rh,mem_range->Ri,mem_singleton->Rj,replicate->Rn,getElem?_map->Ro,mem_cons_of_mem->Rp,mem_append->Rq,mem_cons_self->Rr,length_append->Rt,mem_map->Rw,size_toArray->Rx,mem_cons->RA,getElem?_of_mem->RD,getElem?_eq_none->RF,length_take->RG,getElem?_append_left->RI,length_pos_iff->RJ,getElem?_append_right->RK,mem_filter->RL,take_add_one->RM,length_range->RP,take_of_length_le->RQ,all_eq_true->RS,mem_append_right->RX,toArray->R1,map_append->R3,idxOf_lt_length_of_mem->R6,pairwise_iff_getElem->R7,nodup_cons->R8,length_cons->Sb,getElem_mem->Sd,map_cons->Si,take_length->Sr,getElem?_take_of_lt->SK,mem_append_left->SM,replicate_succ->SS,ext_getElem?->SV,lookup_cons->SY,pairwise_lt_range->S3,getElem?_range->S8,not_mem_nil->Tb,length_eq_zero_iff->Th,pairwise_cons->To,nodup_range->Tv,length_filter_le->TC,mem_flatten->TQ,getElem?_set_self->TU,flatten_cons->TZ,map_map->T4,ne_nil_of_mem->T8,getElem?_set_ne->T9,filterMap_cons->Uk,length_singleton->Uq,lookup_append->Ur,append_assoc->Uw,nodup_append->Uy,find?_cons->Uz,range_succ->UL,eq_of_mem_replicate->UM,getElem?_replicate->UN,map_congr_left->UO,flatten_append->UR,getElem_idxOf->U0,filter_append->U1,length_replicate->U3,length_set->U4,take_append_drop->Va,pairwise_map->Vd,length_dropLast->Vg,mem_of_mem_take->Vh,replicate_succ'->Vi,nodup_nil->Vj,drop_eq_getElem_cons->Vm,length->Vq,append_nil->Vy,any_cons->VA,length_nil->VB,filter_cons_of_neg->VH,any_eq_false->VL,lookup->VN,foldl_append->VW,getD->V1,getElem_inj->V2,any_eq_true->V4,mem_of_mem_drop->V8,map_id->Wg,getElem_of_mem->Wh,length_zip->Wj,length_reverse->Wn,perm_ext_iff_of_nodup->Wy,forIn_toArray->WH,getElem?_zip_eq_some->WO,mem_of_find?_eq_some->WS,idxOf_lt_length_iff->WY,find?_range_eq_some->W6,find?_range_eq_none->W7,length_erase_of_mem->W9,all_cons->Xe,filter_cons_of_pos->Xm,length_drop->Xo,perm_middle->Xq,of_mem_zip->XJ,foldl_cons->XN,forIn_cons->XQ,map_set->XR,pairwise_append->Yd,mem_iff_getElem->Ye,filter_sublist->Yq,flatMap_append->Yr,map_nil->YF
open List.Pairwise renaming filter->Ua,nil->WX
open Nat renaming le_refl->Ru,ne_of_lt->Ry,lt_or_ge->Rz,lt_of_lt_of_le->RH,mod_lt->RT,le_trans->RU,mod_eq_of_lt->R4,zero_le->R5,lt_of_le_of_lt->Sf,eq_zero_or_pos->Su,lt_succ_of_lt->Sw,mul_le_mul_left->SE,dvd_of_mod_eq_zero->SJ,div_lt_of_lt_mul->SN,lt_trichotomy->S2,le_succ->S6,div_eq_of_lt->Tc,lt_irrefl->Td,add_mul_div_left->Ti,zero_add->Tj,add_mul_mod_self_left->Tr,mod_add_mod->Ts,lt_succ_self->Tt,le_of_lt->TL,add_zero->TN,mul_pos->T1,eq_of_mul_eq_mul_left->T2,ne_of_gt->T3,mul_succ->T5,eq_of_beq_eq_true->T6,mul_le_mul_right->Ub,le_mul_of_pos_right->Ud,add_comm->Ue,mul_comm->Ug,beq->Um,mul_zero->Us,zero_mod->Ut,not_lt_zero->UB,add_mod_mod->UJ,div_add_mod->UK,mul_assoc->UQ,mul_le_mul->UW,le_of_eq->U2,succ_mul->U5,lt_trans->U7,add_assoc->Vf,le_add_right->Vo,mod_self->Vv,zero_mul->Vw,mul_left_comm->VU,sub_self->WC,mod_eq_sub_mod->WI,zero_div->WJ,add_sub_of_le->W8,mul_add->Xk,add_mod->Xl,le_of_not_lt->Xp,div_div_eq_div_mul->XA,mod_eq_zero_of_dvd->XB,mod_add_div->XZ,le_div_iff_mul_le->X0,strongRecOn->X1,mul_div_le->Yl,add_mul->Ys,one_mul->YS,div_pos->YT
open Ne renaming symm->TR
open Option renaming map_eq_some_iff->SU,map_some->S9,getD_some->US,isSome_iff_exists->WW
open Option.some renaming inj->RW
open Or renaming inl->V7
open PyProof.Rows renaming boot_list->Ss,callWith_type1->SG,boot_isinstance->S4,boot_sorted->S5,listUpdate_at->Ve,IntsAre->V3,entry_list_sort->Ws,get?_update_seq->Wt,assignInOrder_cons->WA,slot_list_sort->WR,seqEpoch_at->Xj,boot_range->Xn,subscriptTail_builtinR->Xv,AllBare->XC,plain_sorted->XX,entry_sorted->XY,boot_any->X2,boot_set->X3,boot_all->X4,args_list_sort->Yj,kind_sorted->Yp,Constant_none->Yu,size_push'->Yz,args_sorted1->YJ,listItems_at->YL
open PyProof.Rows.F renaming plain_set_update_loop->VF,entry_set_update_loop->Xi
open PyProof.Rows.SortSt renaming mk'->YA
open PySem renaming wpAny_bind->Ra,Shared->Rg,wpAny_pure->Rm,Program->RB,sizeLine_eq->RO,sizeLine->RV,mainGlobals->Se,Around->Sj,starEach->So,Paired->Sz,wpAny_holding->SA,mem_of_lookup->SH,FuncData->SO,codeAny_builtin->SQ,wpAny_loadPart'->Ta,plainId_quiet->Tg,wpAny_truthy_bool->Tx,SetTable->TF,wpAny_call_entry->TM,wpAny_mono->TX,wpAny_newObj_type->TY,Builtin->Uu,wpAny_passesOwn->Uv,wpAny_setState_of->UE,wpAny_callSpecial?_slot->UP,wpAny_seqItems->UU,wpAny_Call_Name_kw->UY,NameKind->UZ,builtinLookup_eq_fast->U8,wpAny_updateSeq->U9,wpAny_pyIter_list->Vc,call_meets->Vs,wpAny_typeOf->Vt,wpAny_setField_rec->VD,wpAny_newList->VG,richCompare_meets_room->VJ,typeIs_int->VQ,GenState->VX,wpAny_tryCatch->VY,codeAny_mono->V0,wpAny_isInstance->V5,wpAny_standAt->Wa,wpAny_attempt->Wb,wpAny_execs_nil->We,wpAny_specialOf->Wi,typeLookup_type->Wk,wpAny_letGo->Wm,wpAny_field->Wo,ZipApart->WD,tupleKind_room_in1->WE,BindsTo->WM,wpAny_comprehension_free->W2,wpAny_askSetting->Xr,wpAny_nextOf_list_item->Xy,wpAny_richCompare_same->Xz,wpAny_isTrue_Compare1->XD,Result->XF,Keyword->XI,pushCells_keeps->XS,wpAny_rule->X7,PlainAttrs->X8,intKind_is->Ya,codeAny_extend_loopS->Yc,isSubtype_type->Yf,entryFor_alias->Yg,wpAny_newTuple->Yh,wpAny_runValue->Yi,Within->YB,seqIndex_neg->YE,IsPair->YH,seqIndex_of->YN,putSet_of->YO,wpAny_of_eq->YQ,Fin->YR,PassesOwn->YW,ItemsOf->YX
open PySem.Around renaming under_plainId->Sn,under->YC
open PySem.Builtin.Builtins renaming bindParams->Wv
open PySem.Builtin.Dict renaming updateFrom->Xg
open PySem.Builtin.List renaming listExtendWith->SW,listTooLong->Ux,listSameRef->UA,listLengthHint->Wl,listItems->Xx
open PySem.Builtin.Range renaming rangeSize->Xd
open PySem.Builtin.SmallTypes renaming ownedTupleIsFree->Tw,nextOf->Vk
open PySem.Calls renaming call_function_entry->Vl,spliced_cons->Vx,spliced_nil->VP,Name_function_global->Ww,callWith_builtin->Xw
open PySem.Code renaming isFrame->YD
open PySem.F renaming plainAttrs_list->TK,plain_min_loop->Up,called_set->Vb,slot_zip_getattribute->VC,plain_list_iadd->VT,slot_zip_next->Wq,slot_dict_getitem->WN,slot_list_extend->Xa,type_list_extend->Xb,slot_list_index->Xf,entry_min_loop->Xt,entry_proto_collect->XU,plain_proto_collect->XW,slot_list_lt->Yk,plain_extend_loop->Yn
open PySem.Heap renaming get?_push_of_some->Rl,lt_size->Rv,get?_push_size->RC,get?_update_other->SI,size_push->S0,get?_update_self->S7,get?_push_ne->UH,size_update->Vp,SameBut->Vr,get?_update_ne->Wu
open PySem.Heap.SameBut renaming update->Ul
open PySem.NameKind renaming free->Te,cell->Tf
open PySem.Obj renaming mapSeq->RY,putSet->W5
open PySem.Paired renaming length->V9
open PySem.PassesOwn renaming never->UI
open PySem.SeqAt renaming EqAt->Yx
open PySem.SeqAt.EqAt renaming same->XM
open PySem.SetTable renaming below->Sx,insertAt->UC,toList_insertAt->UD,bits->VE,turns->VZ,fits->Wc,grown->WQ,fill->Xh,runEnd->XT,probeStart->Yo,layClean->Yy,probe->YU
open PySem.SetTable.below renaming go->VR
open PySem.SetTable.layClean renaming free->UX
open PySem.SetTable.probe renaming go->VS
open PySem.Shared renaming TypeIs->Yw
open PySem.Str renaming ofString->Vu
open PySem.Value renaming ref->RN,none->SF,int->Ui,bool->WT,type->X6,notImplemented->Yb,str->Yt,float->YM
open PySem.W renaming Frag->Q7,fnOf->Sa,keepIn->Sk,codeIn->SR,findIn->SX,kia_one->Tq,emptyDict->Tz,mg_of->Uc,nsIn->Uh,instObj->Uj,kitOne->UT,plainGet->Vn,callWith_K->Vz,hasDictIn->VM,specialIn->VO,kas_sort->Wd,plainGet_of->Wf,isFn->WB,lookIn->WL,methodObj->WU,plainOver->WV,cellsFrom_some->Xu,takerIn->XE,makesIn->XG,methodCall_KW->XH,OpenLaw->XO,kas_descPart->YK,kas_ask->YV
open PySem.Walks renaming list->X9
open PySem.pickOrder renaming go->YI
open Sum renaming inl->Xc,inr->Ym
open True renaming intro->T7
set_option Elab.async false
set_option linter.all false
set_option maxRecDepth 100000
local macro_rules|`(tactic|lia)=>`(tactic|first|lia +ring|omega)
set_option hygiene false
local macro_rules|`(tactic|exists $t)=>`(tactic|refine $t (fun vs H Q E h=>by cases h;subst_vars;rfl) (fun cdv A outer s H vs Q E hr h=>?_))
set_option hygiene true
noncomputable abbrev AT:=List Nat
noncomputable abbrev AC:=List AT
section
set_option hygiene false
local macro_rules|`(tactic|exists $h,$X,$H,$d,$s:ident,$w:ident,$Y,$G:ident)=>`(tactic|(have $s:ident := ar $h $X;have $w:ident : upd $H $d $X $d = some $Y := ai;generalize upd $H $d $X = $G at $s:ident $w:ident ⊢))
local macro_rules|`(tactic|w_up)=>`(tactic|refine bM (by assumption) ?_)
local macro_rules|`(tactic|f_are)=>`(tactic|intro Za s σ H Q I h)
local macro_rules|`(tactic|f_int)=>`(tactic|(obtain⟨u,rfl,ru⟩:=vals1 r;cases(show u=RN p from ru);obtain⟨Zb,rv,pl,hz⟩:=I.list hS))
local macro_rules|`(tactic|f_len)=>`(tactic|(obtain⟨Zb,v1,p1,_⟩:=I.list h1;obtain⟨Ze,v2,p2,_⟩:=I.list h2;have e1:=v1.length;have e2:=v2.length))
local macro_rules|`(tactic|f_tup)=>`(tactic|(intro X hP hw hK hc i Za s σ H E I hf st hg;subst hP hw hK))
local macro_rules|`(tactic|k_all)=>`(tactic|(subst e e';cases(show u=RN p from ru);cases(show v=RN q from rv)))
local macro_rules|`(tactic|k_asm)=>`(tactic|intro Za s σ H xs us Q I r h)
local macro_rules|`(tactic|k_cls)=>`(tactic|(have r!:∀y∈R,bq (cI R M) (nk y)=some (.int (mkO R M y:Int)):=λy hy=>fB nd (jy hy) (getD_some (l:=M) 0 (by rw[ml];exact R6 hy))))
local macro_rules|`(tactic|k_exc)=>`(tactic|cases(show w'=V.int c from hw))
local macro_rules|`(tactic|k_get)=>`(tactic|refine aV (λc=>absurd c (by omega)) (λ_=>?_))
local macro_rules|`(tactic|k_go0)=>`(tactic|obtain⟨f0,f1,f2,f3,f4,f5⟩:=hf it (by simp))
local macro_rules|`(tactic|k_mem)=>`(tactic|obtain⟨p,xs,rfl,hS,hP⟩:=h)
local macro_rules|`(tactic|k_not)=>`(tactic|apply bJ (λc=>absurd rfl c) (λ_=>?_))
local macro_rules|`(tactic|k_put)=>`(tactic|(exact .inr ⟨rfl,m1,Zs,λk hk=>by rw[hk.uni hl];exact ZU⟩))
local macro_rules|`(tactic|k_sub)=>`(tactic|intro Za s σ H x y v u Q I rx ry h)
local macro_rules|`(tactic|k_upd)=>`(tactic|have Zf:=s1.trans s2)
local macro_rules|`(tactic|l_fit)=>`(tactic|(unfold Uu.«sorted»;refine Ra (m:=checkCount "sorted" 1 1 _) (Rm ?_)))
local macro_rules|`(tactic|l_idx)=>`(tactic|intro Za s σ H D I h)
local macro_rules|`(tactic|l_out)=>`(tactic|(rw[hb]at h;have z:del H d d=none:=if_pos rfl;rw[z]at h;cases h))
local macro_rules|`(tactic|o_new)=>`(tactic|refine aV (λc=>?_) (λc=>?_))
local macro_rules|`(tactic|o_rec)=>`(tactic|exact this)
local macro_rules|`(tactic|o_src)=>`(tactic|rw[show bD f v ((k,x) :: r)=(if k=f then (k,v) :: r else (k,x) :: bD f v r) from rfl])
local macro_rules|`(tactic|walk_at "122")=>`(tactic|(f_len;have e3:=r1.length;have e4:=r2.length))
local macro_rules|`(tactic|walk_at "123")=>`(tactic|(refine cp hT ?_;k_in;have h1:=gt.len;have h3:=gt.le))
local macro_rules|`(tactic|walk_at "124")=>`(tactic|(rintro i c w' σ' H3 d' R' R0 hc hs hw ⟨y,rfl⟩ Zx ZF dh;k_exc))
local macro_rules|`(tactic|walk_at "125")=>`(tactic|(obtain⟨p,xs,e,h1,r1⟩:=hx;obtain⟨q,ys,e',h2,r2⟩:=hy;k_all))
local macro_rules|`(tactic|walk_at "126")=>`(tactic|refine thn (ha Za s σ H _ I h) λv s1 ⟨x,H1,I1,r1,q1⟩=>?_)
local macro_rules|`(tactic|walk_at "127")=>`(tactic|(refine⟨x,hx,λP G=>?_⟩;obtain⟨pp,sub,xP⟩:=h.sp g hx G))
local macro_rules|`(tactic|walk_at "128")=>`(tactic|rcases Z.own with ⟨gz,a,b,gO⟩|⟨T,b,oT,gz,gT,t1,t2,t3⟩)
local macro_rules|`(tactic|walk_at "129")=>`(tactic|intro Za s σ H x vs v us Q I rx rv h)
local macro_rules|`(tactic|walk_at "130")=>`(tactic|obtain⟨os,d!,hex,n!⟩:=id hS)
local macro_rules|`(tactic|walk_at "131")=>`(tactic|(k_go;refine aV (λc2=>?_) (λ_=>?_)))
local macro_rules|`(tactic|walk_at "132")=>`(tactic|(k_go;refine aV (λc1=>?_) (λ_=>?_)))
local macro_rules|`(tactic|walk_at "133")=>`(tactic|obtain⟨z,Zb,n,r,hl,e⟩:=I.oe hH)
local macro_rules|`(tactic|walk_at "134")=>`(tactic|obtain⟨o',e1⟩:=I.base.there b o e hx)
local macro_rules|`(tactic|walk_at "135")=>`(tactic|exact I1.wV (Ru _) (I1.hok.fresh (Ru _)))
set_option hygiene true
namespace L2
open PySem PySem.Spec PyProof.Rows
variable {a b e:Addr}{g':Array VX}{d':Drawn}{h h':Heap}{Za pins':List (Addr×Obj)}{ch:List Addr}{us:List Value}{M:Model}{i t':Nat}{P:RB}{x:Str}{Q:Unit->Rg->Prop}{u:Value}{E:Value->Rg->Prop}
noncomputable abbrev Z6:=Option Value
noncomputable abbrev Z5:=Option Addr
noncomputable abbrev Z3:=Array Nat
noncomputable abbrev Z2:=Array Value
noncomputable abbrev Z0:=List Str
noncomputable abbrev YZ:=List Int
noncomputable abbrev Y9:=List Addr
noncomputable abbrev Y8:=List Expr
noncomputable abbrev Y7:=List Value
noncomputable abbrev Y5:=Str->Option Value
noncomputable abbrev Y3:=Array (Int×Value)
noncomputable abbrev Y2:=List (Nat×Nat)
noncomputable abbrev Y0:=List (Addr×Obj)
noncomputable abbrev Key:=Sum Int Str
noncomputable def rY:Key->Value->Bool
 | .inl k,v=>Value.isInt k v
 | .inr x,v=>Value.isStrOf x v
noncomputable def Q1(w:World):Key->Int
 | .inl k=>hashInt k
 | .inr x=>hashStr w x
theorem cW:∀ {k:Key} {v:Value},rY k v=true->(∃i t,k=Xc i/\v=Ui i t)\/(∃x t,k=Ym x/\v=Yt x t)
 | .inl i,v,h=>by
  obtain⟨t,e⟩:=Value.isInt_shape (k:=i) (v:=v) h;exact .inl ⟨i,t,rfl,e⟩
 | .inr x,v,h=>by
  obtain⟨t,e⟩:=Value.isStrOf_shape (x:=x) (v:=v) h;exact .inr ⟨x,t,rfl,e⟩
theorem F6(i:Int)(t:Tok):rY (.inl i) (.int i t)=true:=by simp[rY,Value.isInt]
theorem Hc(x:Str)(t:Tok):rY (.inr x) (.str x t)=true:=by simp[rY,Value.isStrOf]
theorem Nu(a b:Int):decide ((Xc a:Key)=Xc b)=(a == b):=by
 by_cases e:a=b
 .subst e;simp
 .have h:¬ (Xc a:Key)=Xc b:=λq=>e (Xc.inj q);rw[decide_eq_false h];exact(beq_eq_false_iff_ne.mpr e).symm
theorem MG(a b:Str):decide ((Ym a:Key)=Ym b)=decide (a=b):=by
 by_cases e:a=b
 .subst e;simp
 .have h:¬ (Ym a:Key)=Ym b:=λq=>e (Ym.inj q);rw[decide_eq_false h,decide_eq_false e]
theorem MZ(a:Int)(b:Str):decide ((Xc a:Key)=Ym b)=false:=decide_eq_false (λq=>nomatch q)
theorem MP(a:Str)(b:Int):decide ((Ym a:Key)=Xc b)=false:=decide_eq_false (λq=>nomatch q)
noncomputable def ck(prog:RB)(w:World):PySem.KeyKind prog w Key where
 is:=rY
 hash:=Q1 w
 inj:=λv a b ha hb=>by
  rcases cW ha with ⟨i,t,rfl,rfl⟩|⟨x,t,rfl,rfl⟩
  .rcases cW hb with ⟨j,u,rfl,e⟩|⟨y,u,rfl,e⟩
   .injection e with e1 _;rw[e1]
   .exact nomatch e
  .rcases cW hb with ⟨j,u,rfl,e⟩|⟨y,u,rfl,e⟩
   .exact nomatch e
   .injection e with e1 _;rw[e1]
 byValue:=λk v h=>by
  rcases cW h with ⟨i,t,rfl,rfl⟩|⟨x,t,rfl,rfl⟩ <;> rfl
 pyHash:=λhv h=>by
  rcases cW hv with ⟨i,t,rfl,rfl⟩|⟨x,t,rfl,rfl⟩
  .exact wpAny_pyHash_int h
  .exact wpAny_pyHash_str h
 eqBool:=λhu hv h=>by
  rcases cW hu with ⟨i,t,rfl,rfl⟩|⟨x,t,rfl,rfl⟩
  .rcases cW hv with ⟨j,u,rfl,rfl⟩|⟨y,u,rfl,rfl⟩
   .rw[Nu]at h;exact wpAny_eqBool_int h
   .rw[MZ]at h;exact SeqAt.EqAt.int_str i t y u _ _ _ _ h
  .rcases cW hv with ⟨j,u,rfl,rfl⟩|⟨y,u,rfl,rfl⟩
   .rw[MP]at h;exact SeqAt.EqAt.str_int x t j u _ _ _ _ h
   .rw[MG]at h;exact wpAny_eqBool_str h
 «strs»:=λk x t v h=>by
  rcases cW h with ⟨i,u,rfl,e⟩|⟨y,u,rfl,e⟩
  .exact nomatch e
  .injection e with e1 _;subst e1;cases v <;> rfl
theorem Cn(prog:RB)(w:World)(i:Int)(t:Tok):(ck prog w).is (.inl i) (.int i t)=true:=F6 i t
theorem CB(prog:RB)(w:World)(x:Str)(t:Tok):(ck prog w).is (.inr x) (.str x t)=true:=Hc x t
inductive V where
 | non|bl (b:Bool)|int (i:Int)|str (x:Str)|byt (b:Array UInt8)|flt (b:UInt64)|ref (a:Addr)|ty (n:String)
 deriving DecidableEq
noncomputable abbrev Z4:=Option V
noncomputable abbrev Y6:=List V
noncomputable abbrev Y1:=List (Key×V)
noncomputable def RelV:V->Value->Prop
 | .non,u=>u=SF
 | .bl b,u=>u=WT b
 | .int i,u=>∃t,u=Ui i t
 | .str x,u=>∃t,u=Yt x t
 | .byt b,u=>∃t,u=Value.bytes b t
 | .flt b,u=>∃t,u=YM b t
 | .ref a,u=>u=RN a
 | .ty n,u=>u=X6 n
noncomputable abbrev Vals:List V->List Value->Prop:=Sz RelV
theorem Vals.length{xs:Y6}(r:Vals xs us):xs.length=us.length:=V9 r
theorem Vals.get:∀ {xs:Y6} {us:Y7} {i:Nat} {x:V},Vals xs us->xs[i]?=some x->∃u,us[i]?=some u/\RelV x u
 | _,_,_,_,.nil,e=>by simp at e
 | _,_,0,_,.cons r _,e=>by simp at e;subst e;exact⟨_,rfl,r⟩
 | _,_,i+1,x,.cons _ t,e=>by
  obtain⟨u,h1,h2⟩:=Vals.get (i:=i) (x:=x) t (by simpa using e)
  exact⟨u,by simpa using h1,h2⟩
theorem Vals.set{x:V}{u:Value}(r:RelV x u):∀ {xs:Y6} {us:Y7} (i:Nat),Vals xs us->Vals (xs.set i x) (us.set i u)
 | _,_,_,.nil=>.nil
 | _,_,0,.cons _ t=>.cons r t
 | _,_,i+1,.cons q t=>.cons q (Vals.set r i t)
theorem Vals.append:∀ {xs ys:Y6} {us ws:Y7},Vals xs us->Vals ys ws->Vals (xs++ys) (us++ws)
 | _,_,_,_,.nil,s=>s
 | _,_,_,_,.cons r t,s=>.cons r (Vals.append t s)
theorem Vals.take:∀ {xs:Y6} {us:Y7} (n:Nat),Vals xs us->Vals (xs.take n) (us.take n)
 | _,_,0,_=>.nil
 | _,_,_+1,.nil=>.nil
 | _,_,n+1,.cons r t=>.cons r (Vals.take n t)
theorem Vals.drop:∀ {xs:Y6} {us:Y7} (n:Nat),Vals xs us->Vals (xs.drop n) (us.drop n)
 | _,_,0,r=>r
 | _,_,_+1,.nil=>.nil
 | _,_,n+1,.cons _ t=>Vals.drop n t
noncomputable def gf:Option V->Option Value->Prop
 | some v,some u=>RelV v u
 | none,none=>True
 | _,_=>False
noncomputable def KV{κ:Type}:List (κ×V)->List (κ×Value)->Prop:=Sz λ(p:κ×V) (q:κ×Value)=>p.1=q.1/\RelV p.2 q.2
noncomputable def kV:Key->V
 | .inl i=>.int i
 | .inr x=>.str x
inductive HO where
  | lst (xs:Y6)
  | tup (xs:Y6)
  | dK (kvs:Y1)|dT (kvs:List (List Key×V))
  | set (S:Int->Bool) (n:Nat)
  | ins (C dx:Addr) (fs:List (Str×V))
  | own (x:Addr)
  | xd (fs:List (Str×V))
  | met (f x:Addr)
  | rng (lo hi:Int)
  | frz (o:Obj) (u:HO)
  | tbl (ps:Z2)
  | ext (φ:Heap->Prop)
noncomputable abbrev Hp:=Addr->Option HO
noncomputable def upd(H:Hp)(a:Addr)(o:HO):Hp:=λb=>if b=a then some o else H b
theorem ai{H:Hp}{o:HO}:upd H a o a=some o:=by unfold upd;rw[if_pos rfl]
theorem ak{H:Hp}{o:HO}(h:b≠a):upd H a o b=H b:=by unfold upd;rw[if_neg h]
theorem Py{H:Hp}{o u:HO}(h:H a=some o)(h':H b=some u)(d:o≠u):a≠b:=by
 intro e;subst e;rw[h]at h';exact d (RW h')
theorem av{H:Hp}{o:HO}(h:H a=some o)(h':H b=none):a≠b:=by
 intro e;subst e;rw[h]at h';cases h'
section
variable (P:RB)(w:World)
noncomputable def bR(H:Hp)(h:Heap)(a:Addr):HO->Prop
 | .lst xs=>xs.length<=RV/\∃ (Zb:Y7) (n:Nat),Vals xs Zb/\h.get? a=some { cls:=.type "list",data:=.seq Zb.toArray n }
 | .tup xs=>xs.length<=RV/\∃Zb:Y7,Vals xs Zb/\IsTup h a Zb.toArray
 | .dK kvs=>kvs.length<=RV/\(a == sysModules)=false/\∃vs,KV kvs vs/\h.DictOf (ck P w) a vs
 | .dT kvs=>kvs.length<=RV/\(a == sysModules)=false/\∃xs:List (List Key×Addr×Value),
   Sz (λ(p:List Key×V) (q:List Key×Addr×Value)=>p.1=q.1/\H q.2.1=some (.tup (p.1.map kV))/\RelV p.2 q.2.2) kvs xs /\
   ∃o es ep,h.get? a=some o/\o.ExactDict/\o.data=.dict es ep/\es.toList=xs.map (entryOfKey (tupleKind (ck P w)))/\(xs.map (·.1)).Nodup
 | .set S n=>h.SetOf (intKind P w) a S n
 | .ins C dx fs=>H dx=some (.own a)/\fs.length<=1000/\dx≠a/\h.get? a=some (Uj C dx) /\
   ∃mA,h.Ns1 dx mA/\(∀f,gf (fs.lookup f) (mA f))/\YB mA (fs.map (·.1))
 | .own _=>∃o,h.get? a=some o
 | .xd fs=>∃mA,h.Ns1 a mA/\∀f,gf (fs.lookup f) (mA f)
 | .rng lo hi=>∃t u v,h.get? a=some { cls:=.type "range",data:=.fields #[.int lo t,.int hi u,.int 1 v] }
 | .frz o u=>h.get? a=some o/\bR H h a u
 | .tbl ps=>h.get? a=some { cls:=.none,data:=.fields ps }
 | .met f x=>h.get? a=some (WU (.ref f) (.ref x))
 | .ext φ=>φ h/\(∃o,h.get? a=some o)/\∀h1 h2:Heap,φ h1->(∀o,h1.get? a=some o->h2.get? a=some o)->φ h2
noncomputable def HOk(H:Hp)(h:Heap):Prop:=∀a o,H a=some o->bR P w H h a o
end
section
variable {w:World}{H H':Hp}{o:HO}
theorem bR.lt(x:bR P w H h a o):a<h.objs.size:=by
 cases o with
 | lst xs=>obtain⟨_,_,_,_,e⟩:=x;exact Rv e
 | tup xs=>obtain⟨_,_,_,p⟩:=x;exact p.lt
 | dK kvs=>obtain⟨_,_,_,_,o,_,_,e,_⟩:=x;exact Rv e
 | dT kvs=>obtain⟨_,_,_,_,o,_,_,e,_⟩:=x;exact Rv e
 | set S n=>obtain⟨o,_,_,_,e,_⟩:=x;exact Rv e
 | ins C dx fs=>obtain⟨_,_,_,e,_⟩:=x;exact Rv e
 | own y=>obtain⟨_,e⟩:=x;exact Rv e
 | xd fs=>obtain⟨_,⟨_,_,_,e,_⟩,_⟩:=x;exact Rv e
 | rng lo hi=>obtain⟨_,_,_,e⟩:=x;exact Rv e
 | frz ob u=>obtain⟨e,_⟩:=x;exact Rv e
 | tbl ps=>exact Rv (show h.get? a=some _ from x)
 | met f y=>exact Rv (show h.get? a=some _ from x)
 | ext φ=>obtain⟨_,⟨_,e⟩,_⟩:=x;exact Rv e
theorem Paired.b5{α β:Type}{F G:α->β->Prop}:∀ {l₁:List α} {l₂:List β},Sz F l₁ l₂->(∀a b,F a b->G a b)->Sz G l₁ l₂
 | _,_,.nil,_=>.nil
 | _,_,.cons r t,f=>.cons (f _ _ r) (Paired.b5 t f)
theorem bR.tL(x:bR P w H h a o)(k:∀b u,(b=a\/H b=some (.own a))->h.get? b=some u->h'.get? b=some u)
  (ho:∀b,H b=some (.own a)->H' b=some (.own a)) (ht:∀b xs,H b=some (.tup xs)->H' b=some (.tup xs)):bR P w H' h' a o:=by
 induction o with
 | lst xs=>obtain⟨z,Zb,n,r,e⟩:=x;exact⟨z,Zb,n,r,k _ _ (.inl rfl) e⟩
 | tup xs=>obtain⟨z,Zb,r,ob,e,c⟩:=x;exact⟨z,Zb,r,ob,k _ _ (.inl rfl) e,c⟩
 | dK kvs=>obtain⟨z,y,vs,r,ob,es,ep,e,c⟩:=x;exact⟨z,y,vs,r,ob,es,ep,k _ _ (.inl rfl) e,c⟩
 | dT kvs =>
  obtain⟨z,y,xs,r,ob,es,ep,e,c⟩:=x;exact⟨z,y,xs,Paired.b5 r λp q z=>⟨z.1,ht _ _ z.2.1,z.2.2⟩,ob,es,ep,k _ _ (.inl rfl) e,c⟩
 | set S n=>obtain⟨ob,es,ep,t,e,c⟩:=x;exact⟨ob,es,ep,t,k _ _ (.inl rfl) e,c⟩
 | ins C dx fs =>
  obtain⟨d,z,ne,e,mA,⟨od,es,ep,e2,c⟩,r⟩:=x;exact⟨ho _ d,z,ne,k _ _ (.inl rfl) e,mA,⟨od,es,ep,k _ _ (.inr d) e2,c⟩,r⟩
 | own y=>obtain⟨ob,e⟩:=x;exact⟨ob,k _ _ (.inl rfl) e⟩
 | xd fs=>obtain⟨mA,⟨od,es,ep,e,c⟩,r⟩:=x;exact⟨mA,⟨od,es,ep,k _ _ (.inl rfl) e,c⟩,r⟩
 | rng lo hi=>obtain⟨t,u,v,e⟩:=x;exact⟨t,u,v,k _ _ (.inl rfl) e⟩
 | frz ob u ih=>obtain⟨e,q⟩:=x;exact⟨k _ _ (.inl rfl) e,ih q⟩
 | tbl ps =>
  have e:h.get? a=some { cls:=.none,data:=.fields ps }:=x;show h'.get? a=some { cls:=.none,data:=.fields ps };exact k a _ (.inl rfl) e
 | met f y =>
  have e:h.get? a=some (WU (.ref f) (.ref y)):=x;show h'.get? a=some (WU (.ref f) (.ref y));exact k a _ (.inl rfl) e
 | ext φ=>obtain⟨p,⟨o,e⟩,st⟩:=x;exact⟨st _ _ p λo q=>k _ _ (.inl rfl) q,⟨o,k _ _ (.inl rfl) e⟩,st⟩
theorem HOk.lt(x:HOk P w H h)(e:H a=some o):a<h.objs.size:=(x a o e).lt
theorem HOk.fresh(x:HOk P w H h)(e:h.objs.size<=a):H a=none:=by
 cases q:H a with
 | none=>rfl
 | some u=>exact absurd (RH (x.lt q) e) (Td _)
theorem HOk.kept(x:HOk P w H h)(k:∀b u,h.get? b=some u->h'.get? b=some u):HOk P w H h':=λa o e =>
 (x a o e).tL (λb u _ q=>k b u q) (λ_ q=>q) λ_ _ q=>q
theorem HOk.laid(x:HOk P w H h)(k:∀b u,h.get? b=some u->h'.get? b=some u)(hp:h.objs.size<=a)(new:bR P w (upd H a o) h' a o):HOk P w (upd H a o) h':=λb u e=>by
 have hn:=x.fresh hp
 by_cases hb:b=a
 .subst hb;rw[ai]at e;cases e;exact new
 .rw[ak hb]at e;exact(x b u e).tL (λc v _ q=>k c v q) (λc q=>by rw[ak (av q hn)];exact q) λc xs q=>by rw[ak (av q hn)];exact q
end
noncomputable def Rd(H:Hp)(a:Addr)(u:HO):Prop:=H a=some u\/∃o,H a=some (.frz o u)
theorem Rd.ok{w:World}{H:Hp}{u:HO}(r:Rd H a u)(x:HOk P w H h):bR P w H h a u:=by
 rcases r with r|⟨o,r⟩
 .exact x a u r
 .obtain⟨_,q⟩:=x a _ r;exact q
noncomputable def Mut:Option HO->Prop
 | some (.lst _)=>True
 | some (.dK _)=>True
 | some (.dT _)=>True
 | some (.set _ _)=>True
 | some (.ins _ _ _)=>True
 | some (.ext _)=>True
 | _=>False
section
variable {w:World}{H:Hp}{x:Addr}{o':HO}
theorem HOk.write(ok:HOk P w H h)(mu:Mut (H x))(he:e=x\/H e=some (.own x))(k:∀b u,b≠e->h.get? b=some u->h'.get? b=some u)(heo:∃u,h'.get? e=some u)
  (new:bR P w (upd H x o') h' x o'):HOk P w (upd H x o') h':=λb u q=>by
 have nown:∀c y,H c=some (.own y)->c≠x:=λc y r z=>by subst z;rw[r]at mu;exact mu
 have ntup:∀c xs,H c=some (.tup xs)->c≠x:=λc xs r z=>by subst z;rw[r]at mu;exact mu
 by_cases hb:b=x
 .subst hb;rw[ai]at q;cases q;exact new
 .rw[ak hb]at q
  by_cases hbe:b=e
  .have q':H b=some (.own x):=by
    rcases he with z|z
    .exact absurd (hbe.trans z) hb
    .rw[hbe];exact z
   rw[q]at q';cases q';obtain⟨v,hv⟩:=heo;exact⟨v,by rw[hbe];exact hv⟩
  .refine(ok b u q).tL (λc v hc r=>k c v ?_ r) (λc r=>by rw[ak (nown c b r)];exact r) λc xs r=>by rw[ak (ntup c xs r)];exact r
   rcases hc with rfl|hc
   .exact hbe
   .rintro rfl;rcases he with z|z
    .exact nown c b hc z
    .rw[hc]at z;cases z;exact hb rfl
end
structure Un(fs ex:Y9)(H H':Hp)(h h':Heap):Prop where
 keep:∀b o,h.get? b=some o->H b=none->b∉fs->b∉ex->h'.get? b=some o
 slot:∀b o,h.get? b=some o->H b=none->b∈fs->b∉ex->∃sl,h'.get? b=some { o with slots:=sl }
 free:∀b o,h.get? b=some o->H b=none->b∉ex->H' b=none
 there:∀b o,h.get? b=some o->b∉ex->∃o',h'.get? b=some o'
 oY:∀b xs,H b=some (.tup xs)->H' b=some (.tup xs)
 m9:∀b o u,H b=some (.frz o u)->H' b=some (.frz o u)
 oy:∀b ps,H b=some (.tbl ps)->∃more,H' b=some (.tbl (ps++more))
section
variable {fs fs' ex ex':Y9}{H H1 H2:Hp}{h1 h2:Heap}{x:Addr}{o:HO}
theorem Un.any(u:Un fs ex H H1 h h1){ob:Obj}(q:h.get? b=some ob)(n:H b=none)(hx:b∉ex):∃sl,h1.get? b=some { ob with slots:=sl }:=by
 by_cases hb:b∈fs
 .exact u.slot b ob q n hb hx
 .exact⟨ob.slots,u.keep b ob q n hb hx⟩
theorem Un.kept(k:∀b u,h.get? b=some u->h'.get? b=some u):Un fs ex H H h h' :=
 ⟨λb ob q _ _ _=>k b ob q,λb ob q _ _ _=>⟨ob.slots,k b ob q⟩,λ_ _ _ n _=>n,λb ob q _=>⟨ob,k b ob q⟩,λ_ _ q=>q,λ_ _ _ q=>q,λ_ ps q=>⟨#[],by rw[q];simp⟩⟩
theorem Un.refl:Un fs ex H H h h:=Un.kept λ_ _ q=>q
theorem Un.laid(k:∀b u,h.get? b=some u->h'.get? b=some u)(hp:h.objs.size<=a)(hn:H a=none):Un fs ex H (upd H a o) h h' where
 keep:=λb u q _ _ _=>k b u q
 slot:=λb u q _ _ _=>⟨u.slots,k b u q⟩
 free:=λb u q n _=>by rw[ak (Ry (RH (Rv q) hp))];exact n
 there:=λb u q _=>⟨u,k b u q⟩
 oY:=λb xs q=>by rw[ak (av q hn)];exact q
 m9:=λb u xs q=>by rw[ak (av q hn)];exact q
 oy:=λb ps q=>⟨#[],by rw[ak (av q hn),q];simp⟩
theorem Un.write(mu:Mut (H x))(he:e=x\/H e=some (.own x))(k:∀b u,b≠e->h.get? b=some u->h'.get? b=some u)(heo:∃u,h'.get? e=some u):Un fs ex H (upd H x o) h h':=by
 have hx:∀b,H b=none->b≠x:=λb n z=>by subst z;rw[n]at mu;exact mu
 have hb:∀b,H b=none->b≠e:=λb n z=>by
  subst z;rcases he with r|r
  .exact hx b n r
  .rw[n]at r;cases r
 have hm:∀b u,H b=some u->¬ Mut (some u)->b≠x:=λb u q nm z=>by subst z;rw[q]at mu;exact nm mu
 refine⟨λb u q n _ _=>k b u (hb b n) q,λb u q n _ _=>⟨u.slots,k b u (hb b n) q⟩,λb u q n _=>by rw[ak (hx b n)];exact n,λb u q _=>?_,
  λb xs q=>by rw[ak (hm b _ q λz=>z)];exact q,λb u xs q=>by rw[ak (hm b _ q λz=>z)];exact q,λb ps q=>⟨#[],by rw[ak (hm b _ q λz=>z),q];simp⟩⟩
 by_cases hbe:b=e
 .subst hbe;exact heo
 .exact⟨u,k b u hbe q⟩
end
noncomputable def trk(h:Heap)(H:Hp):Y9:=(Rh h.objs.size).filter λa=>(H a).isSome
noncomputable def oU(h:Heap)(H:Hp):Heap:=PySem.W.hideAll h (trk h H)
theorem G2(h:Heap)(H:Hp):(oU h H).objs.size=h.objs.size:=PySem.W.hideAll_size _ _
theorem Hy{H:Hp}{o:Obj}(e:h.get? b=some o)(n:H b=none):(oU h H).get? b=some o :=
 PySem.W.hideAll_get _ e λhm=>by
  have q:(H b).isSome=true:=(RL.mp hm).2;rw[n]at q;simp at q
theorem LD{H:Hp}{o:Obj}(e:(oU h H).get? b=some o):h.get? b=some o/\H b=none:=by
 have e':h.get? b=some o:=PySem.W.of_hideAll (trk h H) e;refine⟨e',?_⟩;cases q:H b with
 | none=>rfl
 | some x =>
  have hm:b∈trk h H:=RL.mpr ⟨Ri.mpr (Rv e'),by simp[q]⟩
  have z:(oU h H).get? b=none:=PySem.W.hideAll_none (trk h H) hm;rw[z]at e;cases e
structure Mod(K:Q7)(mg:Y5)(base:Heap):Prop where
 kin:K.In base
 glob:base.Ns Se mg
 blt:∃mb,base.Ns builtinsNs mb/\∀x:Str,x ≠ "__name__" -> mb x=bootBuiltins x
 nolimit:base.NoLimit
structure Cx where
 prog:RB
 w:World
 K:Q7
 mg:Str->Option Value
 base:Heap
 A:Sj
 N:Z0
 s₀:Rg
 H₀:Hp
 env:Env
 outer:List Env
 stack:List Env
 ex:Y9
 fn:Str->Bool
 calm:Bool
 pn:Y0
 xe:Value->Rg->Prop
noncomputable def frs(l:List Env):Y9:=l.filterMap (·.frame)
noncomputable abbrev Cx.fs(X:Cx):Y9:=frs X.outer
noncomputable def Vis(sc:Scope)(x:Str):Prop:=sc.names.lookup x=some .local\/sc.names.lookup x=some .cell\/sc.names.lookup x=some .free
noncomputable def Loc(sc:Scope)(x:Str):Prop:=sc.names.lookup x=some .local\/sc.names.lookup x=some .cell
noncomputable def Look(env:Env)(h:Heap)(m:Y5)(x:Str)(u:Value):Prop :=
 (env.kindOf x=some .local/\m x=some u)\/((env.kindOf x=some .cell\/env.kindOf x=some .free)/\∃c,env.cells.lookup x=some c/\h.IsCell c (some u))
structure Cx.Ok(X:Cx):Prop where
 mod:Mod X.K X.mg X.base
 kind:X.env.scope.kind=.function
 glob:X.env.globals=Se
 blt:X.env.builtins=builtinsNs
 above:X.s₀.heap.objs.size<=X.env.locals
 inj:∀x y c,X.env.cells.lookup x=some c->X.env.cells.lookup y=some c->x=y
 has:∀x,(X.env.kindOf x=some .cell\/X.env.kindOf x=some .free)->∃c,X.env.cells.lookup x=some c
 cab:∀x c,X.fn x=true->X.env.cells.lookup x=some c->X.s₀.heap.objs.size<=c
 hd:X.calm=true->X.A.handled=none
 frames:X.A.frames=some X.stack
 stk:X.stack=X.outer\/(X.stack=X.env :: X.outer/\X.env.frame=some X.env.locals)
 exf:∀b∈X.ex,b≠X.env.locals/\∀x c,X.env.cells.lookup x=some c->c≠b
 bs:∀b o,X.base.get? b=some o->X.s₀.heap.get? b=some o/\X.H₀ b=none
 bsz:X.base.objs.size<=X.s₀.heap.objs.size
 tw:∀b o,X.base.get? b=some o->b∉X.ex
 tW:∀b∈X.ex,b∉X.fs
 jd:X.s₀.heap.FunFrames X.base X.outer
 frf:∀b∈X.fs,X.H₀ b=none
structure Inv(X:Cx)(Za:Y0)(σ:List (Z4))(H:Hp)(s:Rg):Prop where
 ok:X.Ok
 os:s.os=X.s₀.os
 bare:XC s.gens
 base:Un X.fs X.ex X.H₀ H X.s₀.heap s.heap
 loc:∃m,s.heap.Ns X.env.locals m/\∀ (i:Nat) (x:Str) (v:V),X.N[i]?=some x->σ[i]?=some (some v)->Vis X.env.scope x->∃u,RelV v u/\Look X.env s.heap m x u
 cell:∀x c,X.env.cells.lookup x=some c->∃v,s.heap.IsCell c v
 free:H X.env.locals=none
 gn:∀x c,X.env.cells.lookup x=some c->H c=none
 pin:∀p∈X.pn++Za,s.heap.get? p.1=some p.2/\H p.1=none/\p.1≠X.env.locals/\p.1∉X.fs/\∀v,p.2.data≠.cell v
 hok:HOk X.prog X.w H s.heap
 len:σ.length=X.N.length
section
variable {X:Cx}{σ:List (Z4)}{H H':Hp}{s:Rg} 
theorem Cx.Ok.Qr(ok:X.Ok){o:Obj}(e:X.base.get? b=some o):b∉X.fs:=λhb=>by
 have:=(ok.jd.mem hb).1;rw[e]at this;cases this
theorem Inv.bs(I:Inv X Za σ H s):∀b o,X.base.get? b=some o->s.heap.get? b=some o/\H b=none:=λb o e =>
 ⟨I.base.keep b o (I.ok.bs b o e).1 (I.ok.bs b o e).2 (I.ok.Qr e) (I.ok.tw b o e),I.base.free b o (I.ok.bs b o e).1 (I.ok.bs b o e).2 (I.ok.tw b o e)⟩
theorem Inv.bk(I:Inv X Za σ H s):∀b o,X.base.get? b=some o->s.heap.get? b=some o:=λb o e=>(I.bs b o e).1
theorem Inv.mod(I:Inv X Za σ H s):Mod X.K X.mg X.base:=I.ok.mod
theorem Inv.kIn(I:Inv X Za σ H s):X.K.In s.heap:=I.ok.mod.kin.keeps I.bk
theorem Inv.lt(I:Inv X Za σ H s):X.env.locals<s.heap.objs.size:=let ⟨_,hn,_⟩:=I.loc;hn.lt
theorem Inv.sz(I:Inv X Za σ H s):X.s₀.heap.objs.size<=s.heap.objs.size:=RU I.ok.above (TL I.lt)
theorem Inv.Nf(I:Inv X Za σ H s)(h:s.heap.objs.size<=a):a∉X.fs:=λhb=>by
 obtain⟨_,o,ho,_⟩:=I.ok.jd.mem hb;exact absurd (RH (Rv ho) (RU I.sz h)) (Td _)
theorem Inv.cne(I:Inv X Za σ H s):∀x c,X.env.cells.lookup x=some c->c≠X.env.locals:=λx c e z=>by
 obtain⟨v,o,ho,hd⟩:=I.cell x c e;obtain⟨m,⟨o',es,ep,ho',dh,_⟩,_⟩:=I.loc;rw[z,ho']at ho;cases ho;rw[dh]at hd;cases hd
theorem Inv.jd(I:Inv X Za σ H s):s.heap.FunFrames X.base X.outer:=by
 have all:∀ (l:List Env),(∀b∈frs l,b∈X.fs)->X.s₀.heap.FunFrames X.base l->s.heap.FunFrames X.base l:=by
  intro l
  induction l with
  | nil=>intro _ _;trivial
  | cons env r ih =>
   intro hs hl;obtain⟨hk,⟨L,o,hf,hn,ho,hd⟩,hr⟩:=hl;have hL:L∈X.fs:=hs L (by unfold frs;rw[Uk,hf];exact Rr)
   obtain⟨sl,e⟩:=I.base.slot L o ho (I.ok.frf L hL) hL λz=>I.ok.tW L z hL;exact⟨hk,⟨L,_,hf,hn,e,hd⟩,ih (λb hb=>hs b (by unfold frs;rw[Uk,hf];exact Rp _ hb)) hr⟩
 exact all X.outer (λ_ hb=>hb) I.ok.jd
theorem Inv.stack(I:Inv X Za σ H s):s.heap.FunFrames X.base X.stack:=by
 rcases I.ok.stk with e|⟨e,hf⟩
 .rw[e];exact I.jd
 .rw[e];obtain⟨m,hn,_⟩:=I.loc;refine .cons (by rw[I.ok.kind];decide) hf hn ?_ I.jd
  exact Heap.get?_none_of_le (RU I.ok.bsz I.ok.above)
theorem Inv.AK(I:Inv X Za σ H s):∀b∈frs X.stack,b∈X.env.locals :: X.fs:=λb hb=>by
 rcases I.ok.stk with e|⟨e,hf⟩
 .rw[e]at hb;exact Rp _ hb
 .rw[e]at hb;unfold frs at hb;rw[Uk,hf]at hb;exact hb
theorem Inv.CZ(I:Inv X Za σ H s):∀b∈frs X.stack,H b=none:=λb hb=>by
 rcases RA.mp (I.AK b hb) with e|hb
 .rw[e];exact I.free
 .obtain⟨_,o,ho,_⟩:=I.ok.jd.mem hb;exact I.base.free b o ho (I.ok.frf b hb) λz=>I.ok.tW b z hb
theorem Inv.step(I:Inv X Za σ H s)
  (hch:∀b∈ch,(b∈X.ex\/X.s₀.heap.objs.size<=b)/\b≠X.env.locals/\(∀x c,X.env.cells.lookup x=some c->c≠b)/\∀p∈X.pn++Za,p.1≠b)
  (keep:∀b o,b≠X.env.locals->b∉X.fs->b∉ch->s.heap.get? b=some o->H b=none->h'.get? b=some o)
  (slot:∀b o,b≠X.env.locals->b∈X.fs->b∉ch->s.heap.get? b=some o->H b=none->∃sl,h'.get? b=some { o with slots:=sl }) (free:∀b o,b∉ch->s.heap.get? b=some o->H b=none->H' b=none)
  (there:∀b o,b∉ch->s.heap.get? b=some o->∃o',h'.get? b=some o')
  (oY:∀b xs,H b=some (.tup xs)->H' b=some (.tup xs)) (m9:∀b o u,H b=some (.frz o u)->H' b=some (.frz o u)) (oy:∀b ps,H b=some (.tbl ps)->∃more,H' b=some (.tbl (ps++more)))
  (ns:∀m,s.heap.Ns X.env.locals m->h'.Ns X.env.locals m) (hok:HOk X.prog X.w H' h') (hg:XC g') :
  Inv X Za σ H' { s with heap:=h',gens:=g',drawn:=d',toks:=t' }:=by
 have neL:∀b o,X.s₀.heap.get? b=some o->b≠X.env.locals:=λb o e=>Ry (RH (Rv e) I.ok.above);have neC:∀b o,X.s₀.heap.get? b=some o->b∉X.ex->b∉ch:=λb o e hx hb=>by
  rcases(hch b hb).1 with z|z
  .exact hx z
  .exact absurd (RH (Rv e) z) (Td _)
 have cellK:∀x c,X.env.cells.lookup x=some c->∀v,s.heap.IsCell c v->h'.IsCell c v:=λx c e v ⟨o,ho,hd⟩=>by
  have nch:c∉ch:=λz=>(hch c z).2.2.1 x c e rfl
  by_cases hc:c∈X.fs
  .obtain⟨sl,q⟩:=slot c o (I.cne x c e) hc nch ho (I.gn x c e);exact⟨_,q,hd⟩
  .exact⟨o,keep c o (I.cne x c e) hc nch ho (I.gn x c e),hd⟩
 refine⟨I.ok,I.os,hg,⟨λb o e n hb hx=>?_,λb o e n hb hx=>?_,λb o e n hx=>?_,λb o e hx=>?_,λb xs e=>oY b xs (I.base.oY b xs e),λb o xs e=>m9 b o xs (I.base.m9 b o xs e),λb ps e=>?_⟩,?_,λx c e=>?_,?_,λx c e=>?_,λp hp=>?_,hok,I.len⟩
 .exact keep b o (neL b o e) hb (neC b o e hx) (I.base.keep b o e n hb hx) (I.base.free b o e n hx)
 .obtain⟨sl,e1⟩:=I.base.slot b o e n hb hx;obtain⟨sl',e2⟩:=slot b _ (neL b o e) hb (neC b o e hx) e1 (I.base.free b o e n hx);exact⟨sl',e2⟩
 .walk_at "134";exact free b o' (neC b o e hx) e1 (I.base.free b o e n hx)
 .walk_at "134";exact there b o' (neC b o e hx) e1
 .obtain⟨m1,e1⟩:=I.base.oy b ps e;obtain⟨m2,e2⟩:=oy b _ e1;exact⟨m1++m2,by rw[e2,Array.append_assoc]⟩
 .obtain⟨m,hn,hl⟩:=I.loc;refine⟨m,ns m hn,λi x v e1 e2 e3=>?_⟩;obtain⟨u,r,l⟩:=hl i x v e1 e2 e3;refine⟨u,r,?_⟩;rcases l with l|⟨k,c,e,z⟩
  .exact .inl l
  .exact .inr ⟨k,c,e,cellK x c e _ z⟩
 .obtain⟨v,z⟩:=I.cell x c e;exact⟨v,cellK x c e v z⟩
 .obtain⟨m,⟨o,_,_,ho,_⟩,_⟩:=I.loc;exact free _ o (λz=>(hch _ z).2.1 rfl) ho I.free
 .obtain⟨v,o,ho,hd⟩:=I.cell x c e;exact free c o (λz=>(hch c z).2.2.1 x c e rfl) ho (I.gn x c e)
 .obtain⟨e,n,ne,nf,d⟩:=I.pin p hp;have nch:p.1∉ch:=λz=>(hch p.1 z).2.2.2 p hp rfl;exact⟨keep p.1 p.2 ne nf nch e n,free p.1 p.2 nch e n,ne,nf,d⟩
theorem Inv.un(I:Inv X Za σ H s)(u:Un X.fs [] H H' s.heap h')(hok:HOk X.prog X.w H' h'):Inv X Za σ H' { s with heap:=h',toks:=t' }:=by
 obtain⟨m,⟨o,es,ep,ho,r⟩,_⟩:=id I.loc;obtain⟨sl,hL⟩:=u.any ho I.free (by simp)
 exact I.step (g':=s.gens) (d':=s.drawn) (ch:=[]) (λ_ z=>nomatch z) (λb o _ hb _ e n=>u.keep b o e n hb (by simp)) (λb o _ hb _ e n=>u.slot b o e n hb (by simp)) (λb o _ e n=>u.free b o e n (by simp)) (λb o _ e=>u.there b o e (by simp)) u.oY u.m9 u.oy (λm' hm=>by
  obtain⟨o',es',ep',ho',r'⟩:=hm;rw[ho]at ho';cases ho';exact⟨_,es',ep',hL,r'⟩) hok I.bare
theorem Inv.call(I:Inv X Za σ H s)(u:Un (frs X.stack) ch H H' s.heap h')(hok:HOk X.prog X.w H' h')(hg:XC g')
  (hch:∀b∈ch,(b∈X.ex\/X.s₀.heap.objs.size<=b)/\b≠X.env.locals/\(∀x c,X.env.cells.lookup x=some c->c≠b)/\∀p∈X.pn++Za,p.1≠b) :
  Inv X Za σ H' { s with heap:=h',gens:=g',drawn:=d',toks:=t' }:=by
 obtain⟨m,⟨o,es,ep,ho,r⟩,_⟩:=id I.loc;obtain⟨sl,hL⟩:=u.any ho I.free λz=>(hch _ z).2.1 rfl;exact I.step (ch:=ch) hch (λb o hL hb hc e n=>u.keep b o e n (λz=>(RA.mp (I.AK b z)).elim hL hb) hc) (λb o _ _ hc e n=>u.any e n hc) (λb o hc e n=>u.free b o e n hc) (λb o hc e=>u.there b o e hc) u.oY u.m9 u.oy (λm' hm=>by
  obtain⟨o',es',ep',ho',r'⟩:=hm;rw[ho]at ho';cases ho';exact⟨_,es',ep',hL,r'⟩) hok hg
theorem Inv.turned{it:Addr}(I:Inv X Za σ H s)(k:∀b o,b≠it->s.heap.get? b=some o->h'.get? b=some o)(hn:H it=none)(hL:it≠X.env.locals)
  (h1:it∈X.ex\/X.s₀.heap.objs.size<=it) (h2:∀x c,X.env.cells.lookup x=some c->c≠it) (h3:∀p∈X.pn++Za,p.1≠it):Inv X Za σ H { s with heap:=h',toks:=t' }:=by
 have nit:∀b u,H b=some u->b≠it:=λb u e z=>by rw[z,hn]at e;cases e
 refine I.step (g':=s.gens) (d':=s.drawn) (ch:=[it]) (λb hb=>?_) (λb o _ _ hc e _=>k b o (λz=>hc (by simp[z])) e) (λb o _ _ hc e _=>⟨o.slots,k b o (λz=>hc (by simp[z])) e⟩) (λ_ _ _ _ n=>n)
  (λb o hc e=>⟨o,k b o (λz=>hc (by simp[z])) e⟩) (λ_ _ e=>e) (λ_ _ _ e=>e) (λb ps e=>⟨#[],by rw[e];simp⟩) (λm hm=>?_) (λb u e=>?_) I.bare
 .have e:b=it:=by simpa using hb
  subst e;exact⟨h1,hL,h2,h3⟩
 .obtain⟨o,es,ep,ho,r⟩:=hm;exact⟨o,es,ep,k _ o (TR hL) ho,r⟩
 .refine(I.hok b u e).tL (λc v hc q=>k c v ?_ q) (λ_ q=>q) λ_ _ q=>q;rcases hc with z|z
  .rw[z];exact nit b u e
  .exact nit c _ z
theorem Inv.tok(I:Inv X Za σ H s)(t:Nat):Inv X Za σ H { s with toks:=t }:=I.un (h':=s.heap) (t':=t) Un.refl I.hok
theorem Inv.kept(I:Inv X Za σ H s)(k:∀b u,s.heap.get? b=some u->h'.get? b=some u):Inv X Za σ H { s with heap:=h',toks:=t' }:=I.un (Un.kept k) (I.hok.kept k)
theorem Inv.laid{o:HO}(I:Inv X Za σ H s)(k:∀b u,s.heap.get? b=some u->h'.get? b=some u)(hp:s.heap.objs.size<=a)(new:bR X.prog X.w (upd H a o) h' a o) :
  Inv X Za σ (upd H a o) { s with heap:=h',toks:=t' }:=I.un (Un.laid k hp (I.hok.fresh hp)) (I.hok.laid k hp new)
theorem Inv.write{x:Addr}{o:HO}(I:Inv X Za σ H s)(mu:Mut (H x))(he:e=x\/H e=some (.own x))(k:∀b u,b≠e->s.heap.get? b=some u->h'.get? b=some u)(heo:∃u,h'.get? e=some u)
  (new:bR X.prog X.w (upd H x o) h' x o):Inv X Za σ (upd H x o) { s with heap:=h',toks:=t' }:=I.un (Un.write mu he k heo) (I.hok.write mu he k heo new)
theorem Inv.rS(I:Inv X Za σ H s)(h:∀p∈pins',s.heap.get? p.1=some p.2/\H p.1=none/\p.1≠X.env.locals/\p.1∉X.fs/\∀v,p.2.data≠.cell v):Inv X pins' σ H s :=
 ⟨I.ok,I.os,I.bare,I.base,I.loc,I.cell,I.free,I.gn,λp hp=>(Rq.mp hp).elim (λz=>I.pin p (SM _ z)) (h p),I.hok,I.len⟩
theorem Ax{N:Z0}(hN:N.Nodup){j:Nat}(a:N[i]?=some x)(b:N[j]?=some x):i=j:=by
 obtain⟨h1,e1⟩:=Q9.mp a;obtain⟨h2,e2⟩:=Q9.mp b;exact(V2 hN).mp (e1.trans e2.symm)
theorem yb{A:Sj}{v:V}(I:Inv X Za σ H s)(hN:X.N.Nodup)(hi:X.N[i]?=some x)(hx:Loc X.env.scope x)(r:RelV v u)
  (h:∀s',Inv X Za (σ.set i (some v)) H s'->(∃a,Vr a s.heap s'.heap/\(a=X.env.locals\/X.env.cells.lookup x=some a))->Q () s') (hf:X.fn x=true\/X.env.scope.names.lookup x=some .local:=by first|exact .inl rfl|exact .inr rfl|assumption):wpAny M A (storeName X.env x u) Q E s:=by
 obtain⟨m,hn,hl⟩:=id I.loc;have hcls:(X.env.scope.kind == .class || (X.env.scope.kind == .module && X.env.locals != X.env.globals))=false:=by rw[I.ok.kind];rfl
 have hiσ:i<σ.length:=by rw[I.len];exact(Q9.mp hi).1
 have cne:=I.cne;have tracked:∀ {a:Addr} {h':Heap},(∃o,s.heap.get? a=some o/\H a=none)->Vr a s.heap h'->HOk X.prog X.w H h':=λ{a h'} ha hs b ob e=>by
  obtain⟨_,_,ZN⟩:=ha;refine(I.hok b ob e).tL (λc w' hc q=>(hs.2 c ?_).trans q) (λ_ q=>q) λ_ _ q=>q;rintro rfl;rcases hc with rfl|hc
  .rw[ZN]at e;cases e
  .rw[ZN]at hc;cases hc
 rcases hx with hk|hk
 .refine wpAny_storeName_local hk hn (λh' Z' hs=>?_) hcls;obtain⟨oL,_,_,hoL,_⟩:=id hn;refine h _ ⟨I.ok,I.os,I.bare,⟨λb o e n hb hx=>?_,λb o e n hb hx=>?_,I.base.free,λb o e hx=>?_,I.base.oY,I.base.m9,I.base.oy⟩,⟨_,Z',λj y v' e1 e2 e3=>?_⟩,λy c e=>?_,I.free,I.gn,λp hp=>?_,tracked ⟨oL,hoL,I.free⟩ hs,by simpa using I.len⟩ ⟨_,hs,.inl rfl⟩
  .exact(hs.2 b (Ry (RH (Rv e) I.ok.above))).trans (I.base.keep b o e n hb hx)
  .obtain⟨sl,e1⟩:=I.base.slot b o e n hb hx;exact⟨sl,(hs.2 b (Ry (RH (Rv e) I.ok.above))).trans e1⟩
  .walk_at "134";exact⟨o',(hs.2 b (Ry (RH (Rv e) I.ok.above))).trans e1⟩
  .by_cases hj:j=i
   .subst hj;rw[hi]at e1;cases e1;rw[TU hiσ]at e2;cases e2;exact⟨u,r,.inl ⟨hk,by simp⟩⟩
   .rw[T9 (TR hj)]at e2;obtain⟨u',r',q⟩:=hl j y v' e1 e2 e3;refine⟨u',r',?_⟩;rcases q with ⟨k,e⟩|⟨k,c,e,z⟩
    .refine .inl ⟨k,?_⟩;have:y≠x:=λe=>hj (Ax hN e1 (e ▸ hi));simp[this,e]
    .exact .inr ⟨k,c,e,z.sameBut hs (cne y c e)⟩
  .obtain⟨w',z⟩:=I.cell y c e;exact⟨w',z.sameBut hs (cne y c e)⟩
  .obtain⟨e,n,ne,nf,d⟩:=I.pin p hp;exact⟨(hs.2 p.1 ne).trans e,n,ne,nf,d⟩
 .have hfn:X.fn x=true:=by
   rcases hf with z|z
   .exact z
   .rw[z]at hk;cases hk
  obtain⟨c,hc⟩:=I.ok.has x (.inl hk);obtain⟨w',z⟩:=I.cell x c hc;refine wpAny_storeName_cell I.ok.kind hk hc z (λh' ZH hs=>?_);obtain⟨oc,hoc,hocd⟩:=id z;refine h { s with heap:=h' } ⟨I.ok,I.os,I.bare,⟨λb o e n hb hx=>?_,λb o e n hb hx=>?_,I.base.free,λb o e hx=>?_,I.base.oY,I.base.m9,I.base.oy⟩,⟨m,hn.sameBut hs (TR (cne x c hc)),λj y v' e1 e2 e3=>?_⟩,λy c' e=>?_,I.free,I.gn,λp hp=>?_,tracked ⟨oc,hoc,I.gn x c hc⟩ hs,by simpa using I.len⟩ ⟨c,hs,.inr hc⟩
  .exact(hs.2 b (Ry (RH (Rv e) (I.ok.cab x c hfn hc)))).trans (I.base.keep b o e n hb hx)
  .obtain⟨sl,e1⟩:=I.base.slot b o e n hb hx;exact⟨sl,(hs.2 b (Ry (RH (Rv e) (I.ok.cab x c hfn hc)))).trans e1⟩
  .walk_at "134";exact⟨o',(hs.2 b (Ry (RH (Rv e) (I.ok.cab x c hfn hc)))).trans e1⟩
  .by_cases hj:j=i
   .subst hj;rw[hi]at e1;cases e1;rw[TU hiσ]at e2;cases e2;exact⟨u,r,.inr ⟨.inl hk,c,hc,ZH⟩⟩
   .rw[T9 (TR hj)]at e2;obtain⟨u',r',q⟩:=hl j y v' e1 e2 e3;refine⟨u',r',?_⟩;rcases q with q|⟨k,c',e,z'⟩
    .exact .inl q
    .refine .inr ⟨k,c',e,z'.sameBut hs ?_⟩;rintro rfl;exact hj (Ax hN e1 (I.ok.inj _ _ _ e hc ▸ hi))
  .by_cases hcc:c'=c
   .subst hcc;exact⟨_,ZH⟩
   .obtain⟨w2,z2⟩:=I.cell y c' e;exact⟨w2,z2.sameBut hs hcc⟩
  .obtain⟨e,n,ne,nf,d⟩:=I.pin p hp;refine⟨(hs.2 p.1 ?_).trans e,n,ne,nf,d⟩;intro q;rw[q,hoc]at e;have q':oc=p.2:=RW e;exact d w' (by rw[<- q'];exact hocd)
theorem pA{A:Sj}{v:V}(I:Inv X Za σ H s)(hN:X.N.Nodup)(hi:X.N[i]?=some x)(hx:Loc X.env.scope x)(r:RelV v u)
  (h:∀s',Inv X Za (σ.set i (some v)) H s'->Q () s') (hf:X.fn x=true\/X.env.scope.names.lookup x=some .local:=by first|exact .inl rfl|exact .inr rfl|assumption):wpAny M A (storeName X.env x u) Q E s :=
 yb I hN hi hx r (λs' I' _=>h s' I') hf
theorem Inv.O9{s':Rg}(I:Inv X Za σ H s)(ho:s'.os=s.os)(u:Un (frs X.stack) ch H H' s.heap s'.heap)(hok:HOk X.prog X.w H' s'.heap)(hg:XC s'.gens)
  (hch:∀b∈ch,(b∈X.ex\/X.s₀.heap.objs.size<=b)/\b≠X.env.locals/\(∀x c,X.env.cells.lookup x=some c->c≠b)/\∀p∈X.pn++Za,p.1≠b):Inv X Za σ H' s':=by
 obtain⟨h',g',d',t',o'⟩:=s';have e:o'=s.os:=ho;subst e;exact I.call (g':=g') (t':=t') (d':=d') u hok hg hch
end
noncomputable abbrev XK:=Value->Option Addr->Hp->Prop
noncomputable abbrev St:=List (Z4)
noncomputable abbrev VK:=V->Hp->Prop
noncomputable abbrev Z7:=Nat->St->Hp->Prop
noncomputable abbrev Z8:=V->List V->Hp->VK->Prop
noncomputable abbrev Y4:=St->Hp->Prop
noncomputable abbrev TE:=St->Hp->VK->Prop
noncomputable abbrev TT:=St->Hp->(Bool->Hp->Prop)->Prop
noncomputable abbrev TA:=St->Hp->(List V->Hp->Prop)->Prop
structure Ends where
 nx:St->Hp->Prop
 rt:VK
 bk:St->Hp->Prop:=λ_ _=>False
 ct:St->Hp->Prop:=λ_ _=>False
noncomputable abbrev TS:=Ends->St->Hp->Prop
noncomputable def EP(X:Cx)(Za:Y0)(σ:St)(Q:VK)(u:Value)(s':Rg):Prop:=∃v H',Inv X Za σ H' s'/\RelV v u/\Q v H'
noncomputable def TP(X:Cx)(Za:Y0)(σ:St)(Q:Bool->Hp->Prop)(b:Bool)(s':Rg):Prop:=∃H',Inv X Za σ H' s'/\Q b H'
noncomputable def AP(X:Cx)(Za:Y0)(σ:St)(Q:List V->Hp->Prop)(us:Y7)(s':Rg):Prop:=∃vs H',Inv X Za σ H' s'/\Vals vs us/\Q vs H'
noncomputable def SP(X:Cx)(Za:Y0)(D:Ends)(f:Flow)(s':Rg):Prop :=
 match f with
 | .next=>∃σ' H',Inv X Za σ' H' s'/\D.nx σ' H'
 | .brk=>∃σ' H',Inv X Za σ' H' s'/\D.bk σ' H'
 | .cont=>∃σ' H',Inv X Za σ' H' s'/\D.ct σ' H'
 | .ret u=>∃v σ' H',Inv X Za σ' H' s'/\RelV v u/\D.rt v H'
variable {p:Addr×Obj}{vs:Z2}{op:CmpOp}{X:Cx}{D:Ends}{a b c e tg:Expr}{h:Heap}{H:Hp}{lo:Int}{g:Int->Int->Int}{C:Int->Int->Prop}{Za:Y0}{fp:Y9}{es rest:Y8}{body st:List Stmt}{xs:Y6}{us:Y7}{M:Model}{i n:Nat}{o:Obj}{pos:Pos}{K:Q7}{P:RB}{s:Rg}{A:Sj}{σ:St}{x:Str}{ta:TA}{t te:TE}{tc:TT}{R:V->V->Hp->Prop}{u:Value}{E Q:Value->Rg->Prop}{f:Value->Value->Sem Value}{w:World}
noncomputable def PE(X:Cx)(e:Expr)(t:TE):Prop :=
 ∀ (Za:Y0) (s:Rg) (σ:St) (H:Hp) (Q:VK),Inv X Za σ H s->t σ H Q->wpAny (model X.prog X.w) X.A (eval e X.env) (EP X Za σ Q) X.xe s
noncomputable def PT(X:Cx)(e:Expr)(t:TT):Prop :=
 ∀ (Za:Y0) (s:Rg) (σ:St) (H:Hp) (Q:Bool->Hp->Prop),Inv X Za σ H s->t σ H Q->wpAny (model X.prog X.w) X.A (isTrue e X.env (eval e X.env)) (TP X Za σ Q) X.xe s
noncomputable def PW(X:Cx)(e:Expr)(t:TT):Prop :=
 ∀ (whole:Sem Value) (Za:Y0) (s:Rg) (σ:St) (H:Hp) (Q:Bool->Hp->Prop),Inv X Za σ H s->t σ H Q->wpAny (model X.prog X.w) X.A (isTrue e X.env whole) (TP X Za σ Q) X.xe s
theorem PW.pt{t:TT}(h:PW X e t):PT X e t:=h _
noncomputable def PA(X:Cx)(es:Y8)(t:TA):Prop :=
 ∀ (pos:Pos) (Za:Y0) (s:Rg) (σ:St) (H:Hp) (Q:List V->Hp->Prop),Inv X Za σ H s->t σ H Q->wpAny (model X.prog X.w) X.A (spliced (backTo pos (So es X.env))) (AP X Za σ Q) X.xe s
noncomputable def PS(X:Cx)(st:Stmt)(t:TS):Prop :=
 ∀ (Za:Y0) (s:Rg) (σ:St) (H:Hp) (D:Ends),Inv X Za σ H s->t D σ H->wpAny (model X.prog X.w) X.A (exec st X.env) (SP X Za D) X.xe s
noncomputable def PSs(X:Cx)(st:List Stmt)(t:TS):Prop :=
 ∀ (Za:Y0) (s:Rg) (σ:St) (H:Hp) (D:Ends),Inv X Za σ H s->t D σ H->wpAny (model X.prog X.w) X.A (execs st X.env) (SP X Za D) X.xe s
theorem thn{α:Type}{t:Sem α}{Q Q':α->Rg->Prop}(h:wpAny M A t Q E s)(hQ:∀a s,Q a s->Q' a s):wpAny M A t Q' E s:=TX h hQ λ_ _ x=>x
section
noncomputable def Eb(i:Nat):TE:=λσ H Q=>∃v,σ[i]?=some (some v)/\Q v H
noncomputable def tC(v:V):TE:=λ_ H Q=>Q v H
theorem M7(hN:X.N[i]?=some x)(hv:Vis X.env.scope x)(hd:(x == ("__debug__" : Str))=false:=by decide)(B!:(x == ("__classdict__" : Str))=false:=by decide):PE X (.Name x pos) (Eb i):=by
 f_are;obtain⟨v,e,h⟩:=h;obtain⟨m,hn,hl⟩:=I.loc;obtain⟨u,r,l⟩:=hl i x v hN e hv;have fin:EP X Za σ Q u s:=⟨v,H,I,r,h⟩;rcases l with ⟨hk,hm⟩|⟨hk,c,hc,hcell⟩
 .exact wpAny_Name (wpAny_loadName_local I.ok.kind hk hn hm fin) hd
 .rcases hk with hk|hk
  .exact wpAny_Name (wpAny_loadName_cell I.ok.kind hk hc hcell fin) hd
  .exact wpAny_Name (wpAny_loadName_free I.ok.kind hk hc hcell fin B!) hd
theorem aj{i j pos}:PE X (.Constant (.int i) j pos) (tC (.int i)):=λ_ _ _ H _ I h=>wpAny_Constant_int ⟨.int i,H,I.tok _,⟨_,rfl⟩,h⟩
theorem b6{b j pos}:PE X (.Constant (.bool b) j pos) (tC (.bl b)):=λ_ _ _ H _ I h=>Constant_bool ⟨.bl b,H,I,rfl,h⟩
theorem A8{j pos}:PE X (.Constant .none j pos) (tC .non):=λ_ _ _ H _ I h=>Yu ⟨.non,H,I,rfl,h⟩
noncomputable def Gl(X:Cx)(x:Str):Prop:=X.env.kindOf x=some .globalImplicit
theorem nv(I:Inv X Za σ H s)(hg:Gl X x)(hm:X.mg x=some u)(h:Q u s)
  (hd:(x == ("__debug__" : Str))=false:=by decide):wpAny (model X.prog X.w) X.A (eval (.Name x pos) X.env) Q E s :=
 Ww I.ok.kind hg (Calls.loadGlobal_global (by rw[I.ok.glob];exact I.mod.glob.keeps I.bk) hm h) hd
theorem fZ(I:Inv X Za σ H s)(hg:Gl X x)(hm:X.mg x=none)(hv:bootBuiltins x=some u)(h:Q u s)
  (hn:x ≠ "__name__":=by decide) (hd:(x == ("__debug__" : Str))=false:=by decide):wpAny (model X.prog X.w) X.A (eval (.Name x pos) X.env) Q E s:=by
 obtain⟨mb,h1,h2⟩:=I.mod.blt;exact Ww I.ok.kind hg (Calls.loadGlobal_builtin (by rw[I.ok.glob];exact I.mod.glob.keeps I.bk) hm (by rw[I.ok.blt];exact h1.keeps I.bk) ((h2 x hn).trans hv) h) hd
theorem wB{v:V}(hg:Gl X x)(hm:X.mg x=some u)(r:RelV v u)(hd:(x == ("__debug__" : Str))=false:=by decide):PE X (.Name x pos) (tC v) :=
 λ_ _ _ H _ I h=>nv I hg hm ⟨v,H,I,r,h⟩ hd
theorem nG{v:V}(hg:Gl X x)(hm:X.mg x=none)(hv:bootBuiltins x=some u)(r:RelV v u)(hn:x ≠ "__name__":=by decide)(hd:(x == ("__debug__" : Str))=false:=by decide):PE X (.Name x pos) (tC v) :=
 λ_ _ _ H _ I h=>fZ I hg hm hv ⟨v,H,I,r,h⟩ hn hd
variable {ta tb:TE} 
noncomputable def PC(X:Cx)(op:CmpOp)(a b:Expr)(t:TE):Prop :=
 ∀ (Za:Y0) (s:Rg) (σ:St) (H:Hp) (Q:VK),Inv X Za σ H s->t σ H Q ->
  wpAny (model X.prog X.w) X.A (eval a X.env) (λv s₁=>wpAny (model X.prog X.w) X.A (eval b X.env) (λu s₂=>wpAny (model X.prog X.w) X.A (compareOp op v u) (EP X Za σ Q) X.xe s₂) X.xe s₁) X.xe s
theorem IL(b:Expr)(h:op≠.In)(h2:op≠.NotIn):behindInMarks op b=false:=by
 have e1:(op == CmpOp.In)=false:=by cases op <;> first|rfl|exact absurd rfl h
 have e2:(op == CmpOp.NotIn)=false:=by cases op <;> first|rfl|exact absurd rfl h2
 cases b <;> simp[behindInMarks,e1,e2]
noncomputable def Oa(ta:TE):TE:=λσ H Q=>ta σ H λx H1=>Q (.bl (decide (x=.non))) H1
noncomputable def JP(ta:TE):TE:=λσ H Q=>ta σ H λx H1=>Q (.bl (!decide (x=.non))) H1
theorem RelV.Ah{x:V}{v:Value}(r:RelV x v):(v == SF)=decide (x=.non):=by
 cases x with
 | non=>cases r;rfl
 | bl _=>cases r;rfl
 | int _=>obtain⟨t,rfl⟩:=r;rfl
 | str _=>obtain⟨t,rfl⟩:=r;rfl
 | byt _=>obtain⟨t,rfl⟩:=r;rfl
 | flt _=>obtain⟨t,rfl⟩:=r;rfl
 | ref _=>cases r;rfl
 | ty _=>cases r;rfl
theorem Mj{j pos'}(ha:PE X a ta):PC X .Is a (.Constant .none j pos') (Oa ta):=by
 f_are;walk_at "126";exact Yu (is_none_gen ⟨.bl _,H1,I1,by rw[r1.Ah];rfl,q1⟩)
theorem CP{j pos'}(ha:PE X a ta):PC X .IsNot a (.Constant .none j pos') (JP ta):=by
 f_are;walk_at "126";exact Yu (isnot_none_gen ⟨.bl _,H1,I1,by rw[r1.Ah];rfl,q1⟩)
noncomputable def tB(t:TE):TT:=λσ H Q=>t σ H λx H1=>∃c,x=.bl c/\Q c H1
theorem nV(h:PC X op a b t)(h1:behindInMarks op b=false:=by first|exact IL _ (by decide) (by decide)|rfl):PT X (.Compare a [op] [b] pos) (tB t):=by
 intro Za s σ H Q I hw;refine XD (thn (h Za s σ H _ I hw) λv s1 h1=>thn h1 λu s2 h2=>thn h2 λc s3 ⟨x,H1,I1,r1,q1⟩=>?_) h1;obtain⟨d,rfl,q⟩:=q1;cases r1;exact Tx ⟨H1,I1,q⟩
theorem dA(h:PE X e t)(he:∀whole,isTrue e X.env whole=(do let v <- whole;standAt e.pos;holding [v] (truthy v)):=by intro _;rfl):PT X e (tB t):=by
 intro Za s σ H Q I hw;refine isTrue_plain (thn (h Za s σ H _ I hw) λv s1 ⟨x,H1,I1,r1,q1⟩=>?_) (he _);obtain⟨d,rfl,q⟩:=q1;cases r1;exact Tx ⟨H1,I1,q⟩
variable {tA tB':TT} 
noncomputable def Mr(t u:TT):TT:=λσ H Q=>t σ H λc H1=>if c=true then u σ H1 Q else Q false H1
noncomputable def tOr(t u:TT):TT:=λσ H Q=>t σ H λc H1=>if c=true then Q true H1 else u σ H1 Q
noncomputable def Mu(t:TT):TT:=λσ H Q=>t σ H λc H1=>Q (!c) H1
theorem iR(ha:PT X a tA):PW X (.BoolOp .And [a] pos) tA:=by
 intro wh Za s σ H Q I h;refine isTrue_and (thn (ha Za s σ H Q I h) λc s1 e=>?_);cases c with
 | true=>exact isTrue_and_nil e
 | false=>exact e
theorem fg(ha:PT X a tA):PW X (.BoolOp .Or [a] pos) tA:=by
 intro wh Za s σ H Q I h;refine isTrue_or (thn (ha Za s σ H Q I h) λc s1 e=>?_);cases c with
 | false=>exact isTrue_or_nil e
 | true=>exact e
theorem gM(ha:PT X a tA)(hb:PW X (.BoolOp .And (b :: rest) pos) tB'):PW X (.BoolOp .And (a :: b :: rest) pos) (Mr tA tB'):=by
 intro wh Za s σ H Q I h;refine isTrue_and (thn (ha Za s σ H _ I h) λc s1 ⟨H1,I1,q1⟩=>?_);cases c with
 | true=>exact hb wh Za s1 σ H1 Q I1 q1
 | false=>exact⟨H1,I1,q1⟩
theorem fR(ha:PT X a tA)(hb:PW X (.BoolOp .Or (b :: rest) pos) tB'):PW X (.BoolOp .Or (a :: b :: rest) pos) (tOr tA tB'):=by
 intro wh Za s σ H Q I h;refine isTrue_or (thn (ha Za s σ H _ I h) λc s1 ⟨H1,I1,q1⟩=>?_);cases c with
 | true=>exact⟨H1,I1,q1⟩
 | false=>exact hb wh Za s1 σ H1 Q I1 q1
theorem eR(ha:PT X a tA):PT X (.UnaryOp .Not a pos) (Mu tA):=by
 f_are;exact isTrue_not (ha Za s σ H (λc H1=>Q (!c) H1) I h)
noncomputable def JS(ta tb:TE):TE:=λσ H Q=>ta σ H λx H1=>∃c,x=.bl c/\if c=true then tb σ H1 Q else Q (.bl false) H1
noncomputable def NZ(ta tb:TE):TE:=λσ H Q=>ta σ H λx H1=>∃c,x=.bl c/\if c=true then Q (.bl true) H1 else tb σ H1 Q
theorem Aj{op}(h:PE X a t):PE X (.BoolOp op [a] pos) t:=λZa s σ H Q I hw=>BoolOp_one (h Za s σ H Q I hw)
theorem uC(ha:PE X a ta)(hb:PE X (.BoolOp .And (b :: rest) pos) tb):PE X (.BoolOp .And (a :: b :: rest) pos) (JS ta tb):=by
 f_are;refine BoolOp_and (thn (ha Za s σ H _ I h) λv s1 ⟨x,H1,I1,r1,q1⟩=>?_);obtain⟨c,rfl,q1⟩:=q1;cases r1;refine Tx ?_;cases c with
 | true=>exact hb Za s1 σ H1 Q I1 q1
 | false=>exact⟨.bl false,H1,I1,rfl,q1⟩
theorem O1(ha:PE X a ta)(hb:PE X (.BoolOp .Or (b :: rest) pos) tb):PE X (.BoolOp .Or (a :: b :: rest) pos) (NZ ta tb):=by
 f_are;refine BoolOp_or (thn (ha Za s σ H _ I h) λv s1 ⟨x,H1,I1,r1,q1⟩=>?_);obtain⟨c,rfl,q1⟩:=q1;cases r1;refine Tx ?_;cases c with
 | false=>exact hb Za s1 σ H1 Q I1 q1
 | true=>exact⟨.bl true,H1,I1,rfl,q1⟩
end
noncomputable def SqL(K:Q7)(H:Hp)(a:Addr)(xs:Y6):Prop :=
 Rd H a (.lst xs) \/
  ∃ (o:Obj) (Zb:Z2) (n:Nat),K.lookup a=some o/\o.cls=.type "list" /\ o.dict=none/\o.data=.seq Zb n/\Zb.size<=RV/\Vals xs Zb.toList
noncomputable def SqT(K:Q7)(H:Hp)(a:Addr)(xs:Y6):Prop :=
 Rd H a (.tup xs) \/
  ∃ (o:Obj) (Zb:Z2) (n:Nat),K.lookup a=some o/\o.cls=.type "tuple" /\ o.data=.seq Zb n/\Zb.size<=RV/\Vals xs Zb.toList
noncomputable def Q0:Value->Option V
 | .none=>some .non
 | .bool b=>some (.bl b)
 | .int i _=>some (.int i)
 | .str x _=>some (.str x)
 | .bytes b _=>some (.byt b)
 | .float b _=>some (.flt b)
 | .ref a=>some (.ref a)
 | .type n=>some (.ty n)
 | _=>none
theorem RelV.abs{x:V}(r:RelV x u):Q0 u=some x:=by
 cases x with
 | non=>cases r;rfl
 | bl _=>cases r;rfl
 | int _=>obtain⟨t,rfl⟩:=r;rfl
 | str _=>obtain⟨t,rfl⟩:=r;rfl
 | byt _=>obtain⟨t,rfl⟩:=r;rfl
 | flt _=>obtain⟨t,rfl⟩:=r;rfl
 | ref _=>cases r;rfl
 | ty _=>cases r;rfl
theorem RelV.inj{x y:V}(r:RelV x u)(q:RelV y u):x=y:=RW (r.abs.symm.trans q.abs)
theorem Vals.inj:∀ {xs ys:Y6} {us:Y7},Vals xs us->Vals ys us->xs=ys
 | _,_,_,.nil,.nil=>rfl
 | _,_,_,.cons r t,.cons r' t'=>by rw[r.inj r',Vals.inj t t']
section
variable {a:Addr}{ys:Y6}
theorem SqL.of(h:H a=some (.lst xs)):SqL K H a xs:=.inl (.inl h)
theorem SqT.of(h:H a=some (.tup xs)):SqT K H a xs:=.inl (.inl h)
theorem Inv.list(I:Inv X Za σ H s)(h:SqL X.K H a xs):∃Zb:Y7,Vals xs Zb/\PlainL s.heap a Zb.toArray/\xs.length<=RV:=by
 rcases h with h|⟨o,Zb,n,hk,hc,hd,hs,hz,r⟩
 .obtain⟨z,Zb,n,r,e⟩:=h.ok I.hok;exact⟨Zb,r,⟨_,n,e,rfl,rfl,rfl⟩,z⟩
 .refine⟨Zb.toList,r,⟨o,n,I.kIn a o hk,hc,hd,by simpa using hs⟩,?_⟩
  have e:=r.length;simp only[RZ]at e;lia
theorem Inv.tuple(I:Inv X Za σ H s)(h:SqT X.K H a xs):∃Zb:Y7,Vals xs Zb/\IsTup s.heap a Zb.toArray/\xs.length<=RV:=by
 rcases h with h|⟨o,Zb,n,hk,hc,hs,hz,r⟩
 .obtain⟨z,Zb,r,p⟩:=h.ok I.hok;exact⟨Zb,r,p,z⟩
 .refine⟨Zb.toList,r,⟨o,I.kIn a o hk,hc,n,by simpa using hs⟩,?_⟩
  have e:=r.length;simp only[RZ]at e;lia
theorem Inv.oM(I:Inv X Za σ H s)(h:SqL X.K H a xs)(h':SqL X.K H a ys):xs=ys:=by
 obtain⟨Zb,r,⟨o,n,e,_,_,d⟩,_⟩:=I.list h;obtain⟨its',r',⟨o',n',e',_,_,d'⟩,_⟩:=I.list h';rw[e]at e';cases e';rw[d]at d';injection d' with d1 _;have:Zb=its':=by simpa using congrArg Array.toList d1
 subst this;exact r.inj r'
theorem Inv.xS(I:Inv X Za σ H s)(h:SqT X.K H a xs)(h':SqT X.K H a ys):xs=ys:=by
 obtain⟨Zb,r,⟨o,e,_,n,d⟩,_⟩:=I.tuple h;obtain⟨its',r',⟨o',e',_,n',d'⟩,_⟩:=I.tuple h';rw[e]at e';cases e';rw[d]at d';injection d' with d1 _;have:Zb=its':=by simpa using congrArg Array.toList d1
 subst this;exact r.inj r'
end
noncomputable abbrev Cx.mW(X:Cx)(E:Value->Rg->Prop):Cx:={ X with xe:=E }
noncomputable abbrev Cx.nox(X:Cx):Cx:=X.mW λ_ _=>False
theorem Cx.Ok.mW(ok:X.Ok)(E:Value->Rg->Prop):(X.mW E).Ok :=
 ⟨ok.mod,ok.kind,ok.glob,ok.blt,ok.above,ok.inj,ok.has,ok.cab,ok.hd,ok.frames,ok.stk,ok.exf,ok.bs,ok.bsz,ok.tw,ok.tW,ok.jd,ok.frf⟩
theorem Cx.Ok.j9(ok:(X.mW E).Ok):X.Ok :=
 ⟨ok.mod,ok.kind,ok.glob,ok.blt,ok.above,ok.inj,ok.has,ok.cab,ok.hd,ok.frames,ok.stk,ok.exf,ok.bs,ok.bsz,ok.tw,ok.tW,ok.jd,ok.frf⟩
theorem Inv.mW(I:Inv X Za σ H s)(E:Value->Rg->Prop):Inv (X.mW E) Za σ H s:=⟨I.ok.mW E,I.os,I.bare,I.base,I.loc,I.cell,I.free,I.gn,I.pin,I.hok,I.len⟩
theorem Inv.j9(I:Inv (X.mW E) Za σ H s):Inv X Za σ H s:=⟨I.ok.j9,I.os,I.bare,I.base,I.loc,I.cell,I.free,I.gn,I.pin,I.hok,I.len⟩
theorem SP.j9{f:Flow}{s':Rg}(h:SP (X.mW E) Za D f s'):SP X Za D f s':=by
 cases f with
 | next=>obtain⟨σ',H',I,q⟩:=h;exact⟨σ',H',I.j9,q⟩
 | brk=>obtain⟨σ',H',I,q⟩:=h;exact⟨σ',H',I.j9,q⟩
 | cont=>obtain⟨σ',H',I,q⟩:=h;exact⟨σ',H',I.j9,q⟩
 | ret u=>obtain⟨v,σ',H',I,r,q⟩:=h;exact⟨v,σ',H',I.j9,r,q⟩
theorem PSs.nox{t:TS}(h:PSs X.nox st t):PSs X st t:=λZa s σ H D I hw =>
 TX (h Za s σ H D (I.mW _) hw) (λ_ _ q=>q.j9) λ_ _ z=>Uo z
section
variable {st:Stmt}{rest:List Stmt}{t u:TS} 
noncomputable def JF:TS:=λD σ H=>D.nx σ H
noncomputable def c8(t u:TS):TS:=λD σ H=>t { D with nx:=u D } σ H
theorem aG:PSs X [] JF:=λ_ _ σ H _ I h=>We ⟨σ,H,I,h⟩
theorem aa(h1:PS X st t)(h2:PSs X rest u):PSs X (st :: rest) (c8 t u):=by
 l_idx;refine wpAny_execs_cons (thn (h1 Za s σ H { D with nx:=u D } I h) λf s1 q=>?_);cases f with
 | next =>
  obtain⟨σ',H',I',q⟩:=q;exact h2 Za s1 σ' H' D I' q
 | ret v=>exact q
 | brk=>exact q
 | cont=>exact q
theorem ae(h1:PS X st t):PSs X [st] t:=by
 l_idx;refine wpAny_execs_cons (thn (h1 Za s σ H D I h) λf s1 q=>?_);cases f with
 | next=>exact We q
 | ret v=>exact q
 | brk=>exact q
 | cont=>exact q
theorem Inv.quiet(I:Inv X Za σ H s):interactive X.env=false:=by simp[interactive,I.ok.kind]
noncomputable def JU(te:TE):TS:=λD σ H=>te σ H λ_ H1=>D.nx σ H1
theorem aZ(he:PE X e te)(hs:swapsWith e none pos.line X.env=pure false:=by rfl):PS X (.Expr e pos) (JU te):=by
 l_idx;exact wpAny_Expr_any (thn (he Za s σ H _ I h) λv s1 ⟨x,H1,I1,r1,q1⟩=>⟨σ,H1,I1,q1⟩) I.quiet hs
noncomputable def Mi(te:TE):TS:=λD σ H=>te σ H D.rt
theorem ax(he:PE X e te):PS X (.Return (some e) pos) (Mi te):=by
 l_idx;exact wpAny_Return_some (thn (he Za s σ H _ I h) λv s1 ⟨x,H1,I1,r1,q1⟩=>⟨x,σ,H1,I1,r1,q1⟩)
noncomputable def Ho(c:TT)(t u:TS):TS:=λD σ H=>c σ H λb H1=>if b=true then t D σ H1 else u D σ H1
theorem aK{a b:List Stmt}(hc:PT X c tc)(ha:PSs X a t)(hb:PSs X b u):PS X (.If c a b pos) (Ho tc t u):=by
 l_idx;refine wpAny_If (thn (hc Za s σ H _ I h) λd s1 ⟨H1,I1,q1⟩=>?_);cases d with
 | true=>exact ha Za s1 σ H1 D I1 q1
 | false=>exact hb Za s1 σ H1 D I1 q1
noncomputable def MA:TS:=λ_ _ _=>False
theorem c9:PS X st MA:=λ_ _ _ _ _ _ h=>h.elim
end
noncomputable abbrev TG:=V->St->Hp->(Y4)->Prop
noncomputable abbrev TGs:=List V->St->Hp->(Y4)->Prop
noncomputable def PG(X:Cx)(target:Expr)(t:TG):Prop :=
 ∀ (Za:Y0) (s:Rg) (σ:St) (H:Hp) (v:V) (u:Value) (Q:Y4),Inv X Za σ H s->RelV v u->t v σ H Q ->
  wpAny (model X.prog X.w) X.A (assign target X.env u) (λ_ s'=>∃σ' H',Inv X Za σ' H' s'/\Q σ' H') X.xe s
noncomputable def PGs(X:Cx)(ts:Y8)(t:TGs):Prop :=
 ∀ (Za:Y0) (s:Rg) (σ:St) (H:Hp) (vs:Y6) (us:Y7) (Q:Y4),Inv X Za σ H s->Vals vs us->t vs σ H Q ->
  wpAny (model X.prog X.w) X.A (assignInOrder ((assignEach ts X.env).map (·.2)) us) (λ_ s'=>∃σ' H',Inv X Za σ' H' s'/\Q σ' H') X.xe s
noncomputable abbrev qx:=V->V->V->Hp->(Hp->Prop)->Prop
noncomputable def Mc(X:Cx)(t:qx):Prop :=
 ∀ (Za:Y0) (s:Rg) (σ:St) (H:Hp) (o i v:V) (ov iv u:Value) (Q:Hp->Prop),Inv X Za σ H s->RelV o ov->RelV i iv->RelV v u->t o i v H Q ->
  wpAny (model X.prog X.w) X.A (setItem ov iv u) (λ_ s'=>∃H',Inv X Za σ H' s'/\Q H') X.xe s
noncomputable def eQ(i:Nat):TG:=λv σ H Q=>Q (σ.set i (some v)) H
theorem vw(hN:X.N.Nodup)(hi:X.N[i]?=some x)(hx:Loc X.env.scope x)(hf:X.fn x=true\/X.env.scope.names.lookup x=some .local:=by first|exact .inl rfl|exact .inr rfl|assumption):PG X (.Name x pos) (eQ i):=by
 intro Za s σ H v u Q I r h;exact wpAny_assign_Name (pA I hN hi hx r (λs' I'=>⟨_,H,I',h⟩) hf)
noncomputable def AY:TGs:=λvs σ H Q=>vs=[]/\Q σ H
noncomputable def kU(t:TG)(u:TGs):TGs:=λvs σ H Q=>∃v r,vs=v :: r/\t v σ H λσ' H'=>u r σ' H' Q
theorem js:PGs X [] AY:=by
 intro Za s σ H vs us Q I r h;obtain⟨e,h⟩:=h;subst e;cases r;exact assignInOrder_nil ⟨σ,H,I,h⟩
theorem c7{t:TG}{u:TGs}(h1:PG X e t)(h2:PGs X es u)
  (hs:(assignEach (e :: es) X.env).map (·.2)=assign e X.env :: (assignEach es X.env).map (·.2):=by rfl):PGs X (e :: es) (kU t u):=by
 intro Za s σ H vs us Q I r h;obtain⟨v,vr,e1,h⟩:=h;subst e1;cases r with
 | cons r rr =>
  rw[hs];refine WA (thn (h1 Za s σ H _ _ _ I r h) λ_ s1 ⟨σ1,H1,I1,q1⟩=>?_);exact h2 Za s1 σ1 H1 _ _ Q I1 rr q1
noncomputable def AO(K:Q7)(n:Nat)(t:TGs):TG:=λv σ H Q=>∃a xs,v=.ref a/\SqT K H a xs/\xs.length=n/\t xs σ H Q
theorem md{k:Nat}{t:TGs}(hc:X.calm=true)(h:PGs X es t)
  (hn:(assignEach es X.env).length=n:=by rfl) (Zp:(assignEach es X.env).findIdx? (·.1)=none:=by rfl):PG X (.Tuple es k pos) (AO X.K n t):=by
 intro Za s σ H v u Q I r hw;obtain⟨a,xs,e1,hq,hl,hw⟩:=hw;subst e1;cases r;obtain⟨Zb,rv,ht,hz⟩:=I.tuple hq;refine assign_Tuple_tuple (I.ok.hd hc) ht (by simp[hn,<- hl,rv.length]) Zp λh' hx=>?_
 have I1:Inv X Za σ H { s with heap:=h' }:=I.kept (t':=s.toks) λb o e=>hx b o (Ry (Rv e)) e;exact h Za _ σ H xs _ Q I1 (by simpa using rv) hw
noncomputable def MH(to ti:TE)(t:qx):TG:=λv σ H Q=>to σ H λo H1=>ti σ H1 λi H2=>t o i v H2 λH3=>Q σ H3
theorem uT{o i:Expr}{to ti:TE}{t:qx}(ho:PE X o to)(hi:PE X i ti)(hs:Mc X t)
  (ha:∀v,assign (.Subscript o i pos) X.env v=(do
   let ov <- holding [v] (eval o X.env)
   let iv <- holding [v,ov] (eval i X.env)
   standAt pos
   holding [v,ov,iv] (setItem ov iv v)
   release [v,ov,iv] []):=by intro _;rfl):PG X (.Subscript o i pos) (MH to ti t):=by
 intro Za s σ H v u Q I r h;rw[ha];refine Ra (SA (thn (ho Za s σ H _ I h) λov s1 ⟨x,H1,I1,r1,q1⟩=>?_));refine Ra (SA (thn (hi Za s1 σ H1 _ I1 q1) λiv s2 ⟨y,H2,I2,r2,q2⟩=>?_));refine Ra (Wa (Ra (SA (thn (hs Za s2 σ H2 x y v ov iv u _ I2 r1 r2 r q2) λ_ s3 ⟨H3,I3,q3⟩=>?_))));exact wpAny_release ⟨σ,H3,I3,q3⟩
noncomputable def Bh(te:TE)(g:TG):TS:=λD σ H=>te σ H λx H1=>g x σ H1 D.nx
theorem uK{g:TG}(he:PE X e te)(hg:PG X tg g)(hs:swapsWithSole [tg] e pos.line X.env=pure false:=by rfl)(hw:swappedStores [tg] e X.env=pure none:=by rfl)
  (h1:(assignEach [tg] X.env).map (·.2)=[assign tg X.env]:=by rfl):PS X (.Assign [tg] e pos) (Bh te g):=by
 l_idx;refine wpAny_Assign_stores (thn (he Za s σ H _ I h) λv s1 ⟨x,H1,I1,r1,q1⟩=>?_) hs hw;rw[h1];exact thn (hg Za s1 σ H1 x v _ I1 r1 q1) λ_ s2 q=>q
theorem MI{pos':Pos}(hN:X.N.Nodup)(hi:X.N[i]?=some x)(hx:Loc X.env.scope x)(he:PE X e te)(hs:swapsWith e (some (.Name x pos')) pos.line X.env=pure false:=by rfl)(hf:X.fn x=true\/X.env.scope.names.lookup x=some .local:=by first|exact .inl rfl|exact .inr rfl|assumption) :
  PS X (.Assign [.Name x pos'] e pos) (Bh te (eQ i)):=by
 l_idx;refine wpAny_Assign_Name (thn (he Za s σ H _ I h) λv s1 ⟨y,H1,I1,r1,q1⟩=>?_) hs;exact pA I1 hN hi hx r1 (λs2 I2=>⟨_,H1,I2,q1⟩) hf
noncomputable def NN(i j:Nat)(ta:TA):TS:=λD σ H=>ta σ H λvs H1=>∃v w,vs=[v,w]/\D.nx ((σ.set i (some v)).set j (some w)) H1
theorem F3{j:Nat}{y:Str}{px py pt:Pos}{kt k2 pt2}(hc:X.calm=true)(hN:X.N.Nodup)(hi:X.N[i]?=some x)(hj:X.N[j]?=some y)(hij:i≠j)
  (hx:X.env.scope.names.lookup x=some .local) (hy:X.env.scope.names.lookup y=some .local) (ha:PA X [a,b] ta)
  (hw:swappedStores [.Tuple [.Name x px,.Name y py] kt pt] (.Tuple [a,b] k2 pt2) X.env=pure (some [x,y]))
  (hs:swapsWithSole [.Tuple [.Name x px,.Name y py] kt pt] (.Tuple [a,b] k2 pt2) pos.line X.env=pure false:=by rfl) :
  PS X (.Assign [.Tuple [.Name x px,.Name y py] kt pt] (.Tuple [a,b] k2 pt2) pos) (NN i j ta):=by
 l_idx;rw[exec_Assign_arm];refine Ra (Wa ?_);rw[hs];refine Ra (Rm ?_);rw[if_neg (by decide)]
 refine Ra (Tuple_ (thn (ha _ Za s σ H _ I h) λus s1 ⟨vs,H1,I1,r1,q1⟩=>?_));obtain⟨v,w,e1,q1⟩:=q1;subst e1;obtain⟨u1,u2,rfl,rv,C!⟩:∃u1 u2,us=[u1,u2]/\RelV v u1/\RelV w u2:=by
  cases r1 with
  | cons p q =>
   cases q with
   | cons p' q' =>
    cases q';exact⟨_,_,rfl,p,p'⟩
 refine TY ?_ (by show 2<=RV;decide)
 have I2:Inv X Za σ H1 { s1 with heap:=s1.heap.push { cls:=.type "tuple",data:=.seq [u1,u2].toArray } }:=I1.kept (t':=s1.toks) λb o e=>Rl _ e;rw[hw];refine Ra (Rm ?_);show wpAny (model X.prog X.w) X.A (do rule "assign.swapped-stores";let items <- unpackItems (.ref s1.heap.objs.size) 2 none;assignInOrder [λv=>bindName X.env y v,λv=>bindName X.env x v] items.reverse;pure Flow.next) _ _ _;refine Ra (X7 (Ra (unpackItems_tuple (items:=#[u1,u2]) (I.ok.hd hc) (IsTup.new s1.heap _) λh' ZO=>?_)));have I3:=I2.kept (h':=h') (t':=s1.toks) λb o e=>ZO b o (Ry (Rv e)) e;show wpAny _ _ (assignInOrder [λv=>bindName X.env y v,λv=>bindName X.env x v] [u2,u1] >>= λ_=>pure Flow.next) _ _ _;refine Ra (WA (wpAny_bindName (pA I3 hN hj (.inl hy) C! (λs2 I4=>?_) (.inr hy))));refine WA (wpAny_bindName (pA I4 hN hi (.inl hx) rv (λs3 I5=>assignInOrder_nil (Rm ?_)) (.inr hx)));rw[List.set_comm _ _ (TR hij)]at I5;exact⟨_,H1,I5,q1⟩
noncomputable def FE(c:TT)(tb:TS):TS:=λD σ H=>∃W:Nat->St->Hp->Prop,(∃m,W m σ H)/\∀m σ H,W m σ H ->
 c σ H λb H1=>if b=true then ∃N:St->Hp->Prop,(∀σ' H',N σ' H'->∃m',m' < m/\W m' σ' H')/\tb { D with nx:=N,ct:=N,bk:=D.nx } σ H1 else D.nx σ H1
theorem jo{tb:TS}(hp:YW (model X.prog X.w) X.A X.env X.xe)(hc:PT X c tc)(hb:PSs X body tb):PS X (.While c body [] pos) (FE tc tb):=by
 l_idx;obtain⟨W,⟨m0,w0⟩,turn⟩:=h;refine wpAny_While (codeAny_whileLoop (λn s'=>∃σ' H',Inv X Za σ' H' s'/\W n σ' H') ?_ m0 ⟨σ,H,I,w0⟩);rintro n s1 ⟨σ1,H1,I1,w1⟩;refine Uv hp (thn (hc Za s1 σ1 H1 _ I1 (turn n σ1 H1 w1)) λb s2 ⟨H2,I2,q2⟩=>?_);cases b with
 | true =>
  obtain⟨N,hN,q2⟩:=q2;rw[if_pos rfl];refine Uv hp (thn (hb Za s2 σ1 H2 _ I2 q2) λf s3 q3=>?_);cases f with
  | next =>
   obtain⟨σ3,H3,I3,n3⟩:=q3;obtain⟨m',hm,w3⟩:=hN σ3 H3 n3;exact⟨m',hm,σ3,H3,I3,w3⟩
  | cont =>
   obtain⟨σ3,H3,I3,n3⟩:=q3;obtain⟨m',hm,w3⟩:=hN σ3 H3 n3;exact⟨m',hm,σ3,H3,I3,w3⟩
  | brk=>exact q3
  | ret v=>exact q3
 | false =>
  rw[if_neg RE];exact We ⟨σ1,H2,I2,q2⟩
structure It where
 go:Nat->Hp->Prop
 yld:Nat->Hp->V->Hp->Prop
 stop:Nat->Hp->Prop
noncomputable def m8(X:Cx)(Za:Y0)(H:Hp)(b:Addr):Prop :=
 H b=none/\b≠X.env.locals/\b∉X.fs/\(b∈X.ex\/X.s₀.heap.objs.size<=b)/\(∀x c,X.env.cells.lookup x=some c->c≠b)/\∀p∈X.pn++Za,p.1≠b
theorem Inv.wV{H':Hp}{b:Addr}(I:Inv X Za σ H s)(hb:s.heap.objs.size<=b)(hn:H' b=none):m8 X Za H' b:=by
 refine⟨hn,T3 (RH I.lt hb),I.Nf hb,.inr (RU I.sz hb),λx c e z=>?_,λp hp z=>?_⟩
 .obtain⟨v,q⟩:=I.cell x c e;exact absurd (RH q.lt (by rw[z];exact hb)) (Td _)
 .exact absurd (RH (Rv (I.pin p hp).1) (by rw[z];exact hb)) (Td _)
structure Turn(P:RB)(w:World)(K:Q7)(tg:Expr)(J:It)(fp:Y9)(it:Addr)(tn:Nat->Heap->Prop):Prop where
 mem:it∈fp
 obj:∀i h,tn i h->∀b∈fp,∃o,h.get? b=some o/\∀v,o.data≠.cell v
 keep:∀i h h',tn i h->(∀b∈fp,∀o,h.get? b=some o->h'.get? b=some o)->tn i h'
 item:∀ (X:Cx),X.prog=P->X.w=w->X.K=K->X.calm=true->∀ (i:Nat) (Za:Y0) (s:Rg) (σ:St) (H:Hp) (E:Value->Rg->Prop),Inv X Za σ H s->(∀b∈fp,m8 X Za H b)->tn i s.heap->J.go i H ->
  wpAny (model P w) X.A (pyNext (.ref it)) (λr s1=>∃u,r=some u /\
   wpAny (model P w) X.A (letOwnedTupleGo tg (.ref it) u) (λ_ s2=>∃x H',Inv X Za σ H' s2/\RelV x u/\J.yld i H x H'/\tn (i+1) s2.heap/\∀b∈fp,H' b=none) E s1) E s
 done:∀ (X:Cx),X.prog=P->X.w=w->X.K=K->X.calm=true->∀ (i:Nat) (Za:Y0) (s:Rg) (σ:St) (H:Hp) (E:Value->Rg->Prop),Inv X Za σ H s->(∀b∈fp,m8 X Za H b)->tn i s.heap->J.stop i H ->
  wpAny (model P w) X.A (pyNext (.ref it)) (λr s1=>r=none/\Inv X Za σ H s1) E s
 self:∀ (A:Sj) (i:Nat) (s:Rg) (Q:Value->Rg->Prop) (E:Value->Rg->Prop),tn i s.heap->Q (.ref it) s->wpAny (model P w) A (pyIter (.ref it)) Q E s
noncomputable abbrev TI:=St->Hp->(It->Hp->Prop)->Prop
noncomputable def PIE(X:Cx)(Za:Y0)(σ:St)(tg:Expr)(R:It->Hp->Prop)(itv:Value)(s2:Rg):Prop :=
 ∃ (it:Addr) (fp:Y9) (tn:Nat->Heap->Prop) (J:It) (H':Hp),itv=.ref it/\Inv X Za σ H' s2/\Turn X.prog X.w X.K tg J fp it tn/\tn 0 s2.heap/\(∀b∈fp,m8 X Za H' b)/\R J H'
noncomputable def PI(X:Cx)(tg iter:Expr)(wi:TI):Prop :=
 ∀ (Za:Y0) (s:Rg) (σ:St) (H:Hp) (R:It->Hp->Prop),Inv X Za σ H s->wi σ H R ->
  wpAny (model X.prog X.w) X.A (eval iter X.env) (λv s1=>wpAny (model X.prog X.w) X.A (pyIter v) (PIE X Za σ tg R) X.xe s1) X.xe s
theorem EB{it:Addr}{n:String}{Q:Unit->Rg->Prop}(ho:s.heap.get? it=some o)(hc:o.cls=.type n)(hd:o.data=.fields vs)
  (hn:["enumerate","zip","dict_itemiterator","dict_reverseitemiterator","odict_iterator","itertools.zip_longest","itertools.pairwise"].contains n=false) (hQ:Q () s):wpAny M A (letOwnedTupleGo tg (.ref it) u) Q E s:=by
 unfold letOwnedTupleGo;cases tg <;> first
  | exact Rm hQ
  | (cases u <;> first
    | exact Rm hQ
    | (refine Ra (wpAny_load ho ?_)
       rw[hc,hd];show wpAny M A (if (["enumerate","zip","dict_itemiterator","dict_reverseitemiterator","odict_iterator","itertools.zip_longest","itertools.pairwise"].contains n && vs[0]? == some (rawInt _))=true then _ else _) Q E s;rw[if_neg (by intro h;rw[hn,Bool.false_and]at h;cases h)]
       exact Rm hQ))
noncomputable def Itl(K:Q7)(a:Addr):It :=
 ⟨λi H=>∃xs x,SqL K H a xs/\xs[i]?=some x,λi H x H'=>H'=H/\∀xs,SqL K H a xs->xs[i]?=some x,λi H=>∃xs,SqL K H a xs/\xs.length<=i⟩
noncomputable def Itr(lo:Int)(n:Nat):It:=⟨λi _=>i<n,λi H x H'=>H'=H/\x=.int (lo+i),λi _=>n<=i⟩
theorem GC(a it:Addr):Turn P w K tg (Itl K a) [it] it (λi h=>h.IsListIter it a i) where
 mem:=by simp
 obj:=λi h st b hb=>by
  have e:b=it:=by simpa using hb
  subst e;obtain⟨o,e,c,d⟩:=st;exact⟨o,e,λv z=>by rw[d]at z;cases z⟩
 keep:=λi h h' st k=>st.at λo e=>k it (by simp) o e
 item:=by
  f_tup;obtain⟨xs,x,hq,hx⟩:=hg;obtain⟨Zb,rv,p,hz⟩:=I.list hq;obtain⟨u,hu,ru⟩:=rv.get hx;k_go0
  refine wpAny_pyNext_list_item st p.isList (x:=u) (by simpa using hu) λh' ZY sb=>?_
  have I1:Inv X Za σ H { s with heap:=h' }:=I.turned (t':=s.toks) (λb o hb e=>(sb.2 b hb).trans e) f0 f1 f3 f4 f5;obtain⟨o,e,c,d⟩:=id ZY;exact⟨u,rfl,EB (s:={ s with heap:=h' }) e c d (by decide) ⟨x,H,I1,ru,⟨rfl,λys hy=>by rw[I.oM hy hq];exact hx⟩,ZY,λb hb=>(hf b hb).1⟩⟩
 done:=by
  f_tup;obtain⟨xs,hq,hx⟩:=hg;obtain⟨Zb,rv,p,hz⟩:=I.list hq;k_go0
  have hl:=rv.length;exact wpAny_pyNext_list_end (I.ok.hd hc) st p.isList (by simp;lia) λh' eb=>⟨rfl,I.turned (t':=s.toks) (λb o hb e=>eb b o hb e) f0 f1 f3 f4 f5⟩
 self:=λ_ _ _ _ _ st h=>wpAny_pyIter_listiter st h
theorem EV(it:Addr)(lo:Int)(n:Nat):Turn P w K tg (Itr lo n) [it] it (λi h=>IsRangeIter h it (lo+(i:Nat) * 1) ((n:Int) - (i:Nat)) 1) where
 mem:=by simp
 obj:=λi h st b hb=>by
  have e:b=it:=by simpa using hb
  subst e;exact⟨_,st,λv z=>by
   have z':Data.fields _=Data.cell v:=z;cases z'⟩
 keep:=λi h h' st k=>k it (by simp) _ st
 item:=by
  f_tup;k_go0
  have W:=Walks.range (prog:=X.prog) (w:=X.w) (I.ok.hd hc) it lo 1 n;refine W.item i s _ _ hg st λv h' tk hv ZY kk=>?_;obtain⟨t,rfl⟩:=hv;have I1:Inv X Za σ H { s with heap:=h',toks:=tk }:=I.turned (λb o hb e=>kk b o (by simpa using hb) e) f0 f1 f3 f4 f5
  refine⟨_,rfl,EB (s:={ s with heap:=h',toks:=tk }) (n:="range_iterator") ZY rfl rfl (by decide) ⟨.int (lo+i),H,I1,⟨t,?_⟩,⟨rfl,rfl⟩,ZY,λb hb=>(hf b hb).1⟩⟩
  rw[Int.mul_one]
 done:=by
  f_tup;k_go0
  exact wpAny_pyNext_range_end (I.ok.hd hc) st (by have:n<=i:=hg;lia) λh' eb=>⟨rfl,I.turned (t':=s.toks) (λb o hb e=>eb b o hb e) f0 f1 f3 f4 f5⟩
 self:=λ_ _ _ _ _ st h=>wpAny_pyIter_rangeiter st h
noncomputable def zf(K:Q7)(tl:TE):TI:=λσ H R=>tl σ H λx H1=>∃a,x=.ref a/\(∃xs,SqL K H1 a xs)/\R (Itl K a) H1
theorem Lm{l:Expr}{tl:TE}(hl:PE X l tl):PI X tg l (zf X.K tl):=by
 intro Za s σ H R I h;refine thn (hl Za s σ H _ I h) λv s1 ⟨x,H1,I1,r1,q1⟩=>?_;obtain⟨a,e,⟨xs,hq⟩,q⟩:=q1;subst e;cases r1;obtain⟨Zb,rv,p,hz⟩:=I1.list hq;refine Vc p.isList ?_;refine⟨s1.heap.objs.size,[s1.heap.objs.size],_,_,H1,rfl,I1.kept (t':=s1.toks) λb o e=>Rl _ e,GC a _,⟨_,RC _ rfl,rfl,rfl⟩,λb hb=>?_,q⟩;have e:b=s1.heap.objs.size:=by simpa using hb
 subst e;walk_at "135"
theorem AB{R:It->Hp->Prop}{hi:Int}{t u v:Tok}{tk:Nat}(I:Inv X Za σ H s)(h1:-(2 ^ 62)<=lo)(h2:lo<2 ^ 62)(h3:-(2 ^ 62)<=hi)(h4:hi<2 ^ 62)
  (q:R (Itr lo (hi - lo).toNat) H):wpAny (model X.prog X.w) X.A (pyIter (.ref s.heap.objs.size)) (PIE X Za σ tg R) E { s with heap:=s.heap.push { cls:=.type "range",data:=.fields #[.int lo t,.int hi u,.int 1 v] },toks:=tk }:=by
 refine wpAny_pyIter_range (IsRange.new ..) (small_one h1 h2 h3 h4) ?_;have I1:Inv X Za σ H { s with heap:=s.heap.push { cls:=.type "range",data:=.fields #[.int lo t,.int hi u,.int 1 v] },toks:=tk }:=I.kept λb o e=>Rl _ e;refine⟨(s.heap.push { cls:=.type "range",data:=.fields #[.int lo t,.int hi u,.int 1 v] }).objs.size,[(s.heap.push { cls:=.type "range",data:=.fields #[.int lo t,.int hi u,.int 1 v] }).objs.size],_,_,H,rfl,
  I1.kept (t':=tk) λb o e=>Rl _ e,EV _ lo (hi - lo).toNat,?_,λb hb=>?_,q⟩
 .have e1:lo+((0:Nat):Int) * 1=lo:=by simp
  have e2:(((hi - lo).toNat:Nat):Int) - ((0:Nat):Int)=Xd lo hi 1:=by rw[rangeSize_one];split <;> lia
  show IsRangeIter _ _ (lo+((0:Nat):Int) * 1) ((((hi - lo).toNat:Nat):Int) - ((0:Nat):Int)) 1;rw[e1,e2];exact RC _ rfl
 .have e:b=(s.heap.push { cls:=.type "range",data:=.fields #[.int lo t,.int hi u,.int 1 v] }).objs.size:=by simpa using hb
  subst e;walk_at "135"
noncomputable def ze(ta:TA):TI:=λσ H R=>ta σ H λvs H1=>∃j:Int,vs=[.int j]/\-(2 ^ 62)<=j/\j<2 ^ 62/\R (Itr 0 j.toNat) H1
noncomputable def Ep(ta:TA):TI:=λσ H R=>ta σ H λvs H1=>∃i j:Int,vs=[.int i,.int j]/\(-(2 ^ 62)<=i/\i<2 ^ 62/\-(2 ^ 62)<=j/\j<2 ^ 62)/\R (Itr i (j - i).toNat) H1
theorem G9{p:Pos}(hg:Gl X "range")(hm:X.mg "range" = none)(ha:PA X [a] ta)(hs:So [a] X.env=[(false,eval a X.env)]:=by rfl):PI X tg (.Call (.Name "range" p) [a] [] pos) (ze ta):=by
 intro Za s σ H R I h;refine Call_ (fZ I hg hm boot_range (SG (thn (ha pos Za s σ H _ I h) λus s1 ⟨vs,H1,I1,r1,q1⟩=>?_) hs rfl));obtain⟨j,e,q1,q2,q⟩:=q1;subst e;cases r1 with
 | cons r rr =>
  cases rr;obtain⟨t,rfl⟩:=r;exact call_range_1 (AB I1 (by lia) (by lia) q1 q2 (by simpa using q))
theorem GB{p:Pos}(hg:Gl X "range")(hm:X.mg "range" = none)(ha:PA X [a,b] ta)(hs:So [a,b] X.env=[(false,eval a X.env),(false,eval b X.env)]:=by rfl)(ZP:So [b] X.env=[(false,eval b X.env)]:=by rfl) :
  PI X tg (.Call (.Name "range" p) [a,b] [] pos) (Ep ta):=by
 intro Za s σ H R I h;refine Call_ (fZ I hg hm boot_range (SG (thn (ha pos Za s σ H _ I h) λus s1 ⟨vs,H1,I1,r1,q1⟩=>?_) (by rw[hs,ZP]) (by rw[ZP];rfl)))
 obtain⟨i,j,e,⟨q1,q2,q3,q4⟩,q⟩:=q1;subst e;cases r1 with
 | cons r rr =>
  cases rr with
  | cons r' rr =>
   cases rr;obtain⟨t,rfl⟩:=r;obtain⟨t',rfl⟩:=r';exact call_range_2 (AB I1 q1 q2 q3 q4 q)
noncomputable def JB(wi:TI)(g:TG)(tb:TS):TS:=λD σ H=>wi σ H λJ H1=>∃W:Nat->Nat->St->Hp->Prop,(∃m,W 0 m σ H1)/\∀i m σ H,W i m σ H ->
 (J.stop i H/\D.nx σ H)\/(J.go i H/\∃N:St->Hp->Prop,(∀σ' H',N σ' H'->∃m',m' < m/\W (i+1) m' σ' H')/\∀x H',J.yld i H x H'->g x σ H' λσ2 H2=>tb { D with nx:=N,ct:=N,bk:=D.nx } σ2 H2)
noncomputable def n0(fp:Y9)(h:Heap):Y0:=fp.filterMap λb=>(h.get? b).map λo=>(b,o)
theorem kZ{b:Addr}(hb:b∈fp)(e:h.get? b=some o):(b,o)∈n0 fp h:=List.mem_filterMap.mpr ⟨b,hb,by rw[e];rfl⟩
theorem Hj(hp:p∈n0 fp h):p.1∈fp/\h.get? p.1=some p.2:=by
 obtain⟨b,hb,e⟩:=List.mem_filterMap.mp hp;cases q:h.get? b with
 | none=>rw[q]at e;cases e
 | some o =>
  rw[q]at e;have e':(b,o)=p:=RW e;subst e';exact⟨hb,q⟩
theorem Inv.pinned(I:Inv X Za σ H s)(hf:∀b∈fp,m8 X Za H b)(ho:∀b∈fp,∃o,s.heap.get? b=some o/\∀v,o.data≠.cell v):Inv X (Za++n0 fp s.heap) σ H s :=
 I.rS λp hp=>(Rq.mp hp).elim (λz=>I.pin p (RX _ z)) λz=>by
  obtain⟨hb,e⟩:=Hj z;obtain⟨f0,f1,f2,_⟩:=hf p.1 hb;obtain⟨o,e',d⟩:=ho p.1 hb;rw[e]at e';cases e';exact⟨e,f0,f1,f2,d⟩
theorem Inv.ox{pl:Y0}(I:Inv X (Za++pl) σ H s):Inv X Za σ H s:=I.rS λp hp=>I.pin p (RX _ (SM _ hp))
theorem M1{iter:Expr}{wi:TI}{g:TG}{tb:TS}(hp:YW (model X.prog X.w) X.A X.env X.xe)(hc:X.calm=true)(hi:PI X tg iter wi)(hg:PG X tg g)(hb:PSs X body tb)
  (hs:∀x,foldedSetIterable iter X.env x=pure x:=by intro _;rfl):PS X (.For tg iter body [] pos) (JB wi g tb):=by
 l_idx;refine wpAny_For (thn (hi Za s σ H _ I h) λv s1 h1=>thn h1 λitv s2 h2=>?_) hs;obtain⟨it,fp,tn,J,H2,e,I2,T,st2,f2,W,⟨m0,w0⟩,turn⟩:=h2;subst e;have stat:∀ {H':Hp},(∀b∈fp,H' b=none)->∀b∈fp,m8 X Za H' b:=λhn b hb=>⟨hn b hb,(f2 b hb).2⟩;refine codeAny_forLoop_any (λn s'=>∃i σ' H',Inv X Za σ' H' s'/\tn i s'.heap/\(∀b∈fp,H' b=none)/\W i n σ' H') ?_ m0 ⟨0,σ,H2,I2,st2,λb hb=>(f2 b hb).1,w0⟩;rintro n s3 ⟨i,σ3,H3,I3,st3,fr3,w3⟩;rcases turn i n σ3 H3 w3 with ⟨stop,qn⟩|⟨go,N,hN,step⟩
 .refine Uv hp (thn (T.done X rfl rfl rfl hc i Za s3 σ3 H3 X.xe I3 (stat fr3) st3 stop) λr s4 ⟨hr,I4⟩=>?_);subst hr;exact We ⟨σ3,H3,I4,qn⟩
 .refine Uv hp (thn (T.item X rfl rfl rfl hc i Za s3 σ3 H3 X.xe I3 (stat fr3) st3 go) λr s4 ⟨u,hr,h4⟩=>?_);subst hr;refine Uv hp (thn h4 λ_ s5 ⟨x,H5,I5,r5,y5,st5,fr5⟩=>?_);have I5':=I5.pinned (stat fr5) (T.obj _ _ st5);refine Uv hp (thn (hg _ s5 σ3 H5 x u _ I5' r5 (step x H5 y5)) λ_ s6 ⟨σ6,H6,I6,q6⟩=>?_);refine Uv hp (thn (hb _ s6 σ6 H6 _ I6 q6) λf s7 q7=>?_);have again:∀ {σ7:St} {H7:Hp},Inv X (Za++n0 fp s5.heap) σ7 H7 s7->N σ7 H7->∃m,m<n/\∃i σ' H',Inv X Za σ' H' s7/\tn i s7.heap/\(∀b∈fp,H' b=none)/\W i m σ' H':=λ{σ7 H7} I7 n7=>by
   obtain⟨m',hm,w7⟩:=hN σ7 H7 n7;refine⟨m',hm,i+1,σ7,H7,I7.ox,T.keep _ _ _ st5 λb hb o e=>(I7.pin (b,o) (RX _ (RX _ (kZ hb e)))).1,λb hb=>?_,w7⟩;obtain⟨o,e,d⟩:=T.obj _ _ st5 b hb;exact(I7.pin (b,o) (RX _ (RX _ (kZ hb e)))).2.1
  cases f with
  | next=>obtain⟨σ7,H7,I7,n7⟩:=q7;exact again I7 n7
  | cont=>obtain⟨σ7,H7,I7,n7⟩:=q7;exact again I7 n7
  | brk=>obtain⟨σ7,H7,I7,q7⟩:=q7;exact⟨σ7,H7,I7.ox,q7⟩
  | ret v=>obtain⟨x7,σ7,H7,I7,r7,q7⟩:=q7;exact⟨x7,σ7,H7,I7.ox,r7,q7⟩
theorem n9{a:Addr}{g:TG}{tb:TS}(Pv:Z7)(h0:Pv 0 σ H)(hl:∀i σ H,i<=xs.length->Pv i σ H->SqL K H a xs)
  (hs:∀i x σ H,xs[i]?=some x->Pv i σ H->g x σ H λσ2 H2=>tb { D with nx:=Pv (i+1),ct:=Pv (i+1),bk:=D.nx } σ2 H2) (hd:∀σ H,Pv xs.length σ H->D.nx σ H) :
  ∃W:Nat->Nat->St->Hp->Prop,(∃m,W 0 m σ H)/\∀i m σ H,W i m σ H ->
   ((Itl K a).stop i H/\D.nx σ H)\/((Itl K a).go i H/\∃N:St->Hp->Prop,(∀σ' H',N σ' H'->∃m',m' < m/\W (i+1) m' σ' H')/\∀x H',(Itl K a).yld i H x H'->g x σ H' λσ2 H2=>tb { D with nx:=N,ct:=N,bk:=D.nx } σ2 H2):=by
 refine⟨λi m σ H=>m=xs.length - i/\i<=xs.length/\Pv i σ H,⟨xs.length,by simp,R5 _,h0⟩,?_⟩
 rintro i m σ H ⟨rfl,hi,p⟩;have q:=hl i σ H hi p
 by_cases Zd:i<xs.length
 .refine .inr ⟨⟨xs,xs[i],q,by simp[Zd]⟩,Pv (i+1),λσ' H' p'=>⟨xs.length - (i+1),by lia,rfl,Zd,p'⟩,λx H' y=>?_⟩
  obtain⟨e,y⟩:=y;subst e;exact hs i x σ _ (y xs q) p
 .have e:i=xs.length:=by lia
  subst e;exact .inl ⟨⟨xs,q,Ru _⟩,hd σ H p⟩
theorem GG{g:TG}{tb:TS}(Pv:Z7)(h0:Pv 0 σ H)
  (hs:∀i σ H,i<n->Pv i σ H->g (.int (lo+i)) σ H λσ2 H2=>tb { D with nx:=Pv (i+1),ct:=Pv (i+1),bk:=D.nx } σ2 H2) (hd:∀σ H,Pv n σ H->D.nx σ H) :
  ∃W:Nat->Nat->St->Hp->Prop,(∃m,W 0 m σ H)/\∀i m σ H,W i m σ H ->
   ((Itr lo n).stop i H/\D.nx σ H)\/((Itr lo n).go i H/\∃N:St->Hp->Prop,(∀σ' H',N σ' H'->∃m',m' < m/\W (i+1) m' σ' H')/\∀x H',(Itr lo n).yld i H x H'->g x σ H' λσ2 H2=>tb { D with nx:=N,ct:=N,bk:=D.nx } σ2 H2):=by
 refine⟨λi m σ H=>m=n - i/\i<=n/\Pv i σ H,⟨n,by simp,R5 _,h0⟩,?_⟩
 rintro i m σ H ⟨rfl,hi,p⟩
 by_cases Zd:i<n
 .refine .inr ⟨Zd,Pv (i+1),λσ' H' p'=>⟨n - (i+1),by lia,rfl,Zd,p'⟩,λx H' y=>?_⟩
  obtain⟨e,y⟩:=y;subst e y;exact hs i σ _ Zd p
 .have e:i=n:=by lia
  subst e;exact .inl ⟨Ru _,hd σ H p⟩
noncomputable abbrev R2:=V->V->Hp->VK->Prop
noncomputable def OpR(X:Cx)(f:Value->Value->Sem Value)(r:R2):Prop :=
 ∀ (Za:Y0) (s:Rg) (σ:St) (H:Hp) (x y:V) (v u:Value) (Q:VK),Inv X Za σ H s->RelV x v->RelV y u->r x y H Q ->
  wpAny (model X.prog X.w) X.A (f v u) (EP X Za σ Q) X.xe s
noncomputable def UnR(X:Cx)(f:Value->Sem Value)(r:V->Hp->VK->Prop):Prop :=
 ∀ (Za:Y0) (s:Rg) (σ:St) (H:Hp) (x:V) (v:Value) (Q:VK),Inv X Za σ H s->RelV x v->r x H Q ->
  wpAny (model X.prog X.w) X.A (f v) (EP X Za σ Q) X.xe s
noncomputable def cz(X:Cx)(f:Value)(r:List V->Hp->VK->Prop):Prop :=
 ∀ (Za:Y0) (s:Rg) (σ:St) (H:Hp) (xs:Y6) (us:Y7) (Q:VK),Inv X Za σ H s->Vals xs us->r xs H Q ->
  wpAny (model X.prog X.w) X.A (call f us) (EP X Za σ Q) X.xe s
noncomputable def tOp(r:R2)(ta tb:TE):TE:=λσ H Q=>ta σ H λx H1=>tb σ H1 λy H2=>r x y H2 Q
noncomputable def tUn(r:V->Hp->VK->Prop)(ta:TE):TE:=λσ H Q=>ta σ H λx H1=>r x H1 Q
noncomputable def rI(C:Int->Int->Prop)(g:Int->Int->V):R2:=λx y H Q=>∃i j,x=.int i/\y=.int j/\C i j/\Q (g i j) H
noncomputable def rI0(g:Int->Int->V):R2:=λx y H Q=>∃i j,x=.int i/\y=.int j/\Q (g i j) H
noncomputable def rU(g:Int->V):V->Hp->VK->Prop:=λx H Q=>∃i,x=.int i/\Q (g i) H
section
variable {ta tb tc:TE} 
theorem IQ(ha:PE X a ta)(hb:PE X b tb)(I:Inv X Za σ H s)
  (h:ta σ H λx H1=>tb σ H1 λy H2=>R x y H2) {Q:Value->Rg->Prop} {f:Value->Value->Sem Value}
  (hf:∀v u s2 x y H2,Inv X Za σ H2 s2->RelV x v->RelV y u->R x y H2->wpAny (model X.prog X.w) X.A (f v u) Q X.xe s2) :
  wpAny (model X.prog X.w) X.A (eval a X.env) (λv s₁=>wpAny (model X.prog X.w) X.A (eval b X.env) (λu s₂=>wpAny (model X.prog X.w) X.A (f v u) Q X.xe s₂) X.xe s₁) X.xe s:=by
 walk_at "126";refine thn (hb Za s1 σ H1 _ I1 q1) λu s2 ⟨y,H2,I2,r2,q2⟩=>?_;exact hf v u s2 x y H2 I2 r1 r2 q2
theorem ao{op:Operator}{r:R2}(ho:OpR X (binaryOp op) r)(ha:PE X a ta)(hb:PE X b tb):PE X (.BinOp a op b pos) (tOp r ta tb):=by
 f_are;exact wpAny_BinOp (IQ ha hb I h λv u s2 x y H2 I2 rx ry q=>ho Za s2 σ H2 x y v u Q I2 rx ry q)
theorem Pq{op:UnaryOp}{r:V->Hp->VK->Prop}(ho:UnR X (unaryOp op) r)(ha:PE X a ta):PE X (.UnaryOp op a pos) (tUn r ta):=by
 f_are;exact UnaryOp_ (thn (ha Za s σ H _ I h) λv s1 ⟨x,H1,I1,r1,q1⟩=>ho Za s1 σ H1 x v Q I1 r1 q1)
theorem opI 
  (rule:∀ (i j:Int) (t u:Tok) (s:Rg) (Q:Value->Rg->Prop) (E:Value->Rg->Prop),C i j->Q (.int (g i j) s.toks) { s with toks:=s.toks+1 }->wpAny (model X.prog X.w) X.A (f (.int i t) (.int j u)) Q E s) :
  OpR X f (rI C λi j=>.int (g i j)):=by
 k_sub;obtain⟨i,j,rfl,rfl,hc,q⟩:=h;obtain⟨t,rfl⟩:=rx;obtain⟨t',rfl⟩:=ry;exact rule i j t t' s _ _ hc ⟨.int (g i j),H,I.tok _,⟨_,rfl⟩,q⟩
theorem Nc 
  (rule:∀ (i j:Int) (t u:Tok) (s:Rg) (Q:Value->Rg->Prop) (E:Value->Rg->Prop),Q (.int (g i j) s.toks) { s with toks:=s.toks+1 }->wpAny (model X.prog X.w) X.A (f (.int i t) (.int j u)) Q E s) :
  OpR X f (rI0 λi j=>.int (g i j)):=by
 k_sub;obtain⟨i,j,rfl,rfl,q⟩:=h;obtain⟨t,rfl⟩:=rx;obtain⟨t',rfl⟩:=ry;exact rule i j t t' s _ _ ⟨.int (g i j),H,I.tok _,⟨_,rfl⟩,q⟩
theorem Hn{g:Int->Int->Bool}
  (rule:∀ (i j:Int) (t u:Tok) (s:Rg) (Q:Value->Rg->Prop) (E:Value->Rg->Prop),Q (.bool (g i j)) s->wpAny (model X.prog X.w) X.A (f (.int i t) (.int j u)) Q E s) :
  OpR X f (rI0 λi j=>.bl (g i j)):=by
 k_sub;obtain⟨i,j,rfl,rfl,q⟩:=h;obtain⟨t,rfl⟩:=rx;obtain⟨t',rfl⟩:=ry;exact rule i j t t' s _ _ ⟨.bl (g i j),H,I,rfl,q⟩
noncomputable def NL(i j:Int):Prop:=0<j/\j<1073741824
noncomputable def DM(i j:Int):Prop:=(-(2 ^ 64)<i/\i<2 ^ 64)\/(-(2 ^ 64)<j/\j<2 ^ 64)
theorem DM.ok{i j:Int}(h:DM i j):IntMulOk i j:=by
 rcases h with ⟨h1,h2⟩|⟨h1,h2⟩
 .exact .of_left (intBits_le_64 h1 h2)
 .exact .of_right (intBits_le_64 h1 h2)
theorem aY:OpR X (binaryOp .Add) (rI0 λi j=>.int (i+j)):=Nc λ_ _ _ _ _ _ _ q=>add_int q
theorem gQ:OpR X (binaryOp .Sub) (rI0 λi j=>.int (i - j)):=Nc λ_ _ _ _ _ _ _ q=>sub_int q
theorem bT:OpR X (binaryOp .Mult) (rI DM λi j=>.int (i * j)):=opI λ_ _ _ _ _ _ _ hc q=>mul_int q hc.ok
theorem dy:OpR X (binaryOp .FloorDiv) (rI NL λi j=>.int (i / j)):=opI λi j _ _ _ _ _ hc q=>by
 have h1:(0:Int)<j:=hc.1;have h2:j<1073741824:=hc.2;exact floordiv_int (by lia) (by rw[Int.fdiv_eq_ediv_of_nonneg i (by lia)];exact q) (.inl (PyProof.noPylong_small (by lia)))
theorem aQ:OpR X (binaryOp .Mod) (rI (λ_ j=>0<j) λi j=>.int (i % j)):=opI λi j _ _ _ _ _ hc q=>by
 have h1:(0:Int)<j:=hc;exact mod_int' (by lia) (by rw[Int.fmod_eq_emod_of_nonneg i (by lia)];exact q)
theorem unI{f:Value->Sem Value}{g:Int->Int}
  (rule:∀ (i:Int) (t:Tok) (s:Rg) (Q:Value->Rg->Prop) (E:Value->Rg->Prop),Q (.int (g i) s.toks) { s with toks:=s.toks+1 }->wpAny (model X.prog X.w) X.A (f (.int i t)) Q E s) :
  UnR X f (rU λi=>.int (g i)):=by
 intro Za s σ H x v Q I rx h;obtain⟨i,rfl,q⟩:=h;obtain⟨t,rfl⟩:=rx;exact rule i t s _ _ ⟨.int (g i),H,I.tok _,⟨_,rfl⟩,q⟩
theorem MO:UnR X (unaryOp .USub) (rU λi=>.int (-i)):=unI λ_ _ _ _ _ q=>neg_int q
end
noncomputable def Np:V->V->Bool
 | .non,.non=>true | .non,.int _=>true | .int _,.non=>true | .non,.bl _=>true | .bl _,.non=>true | .non,.str _=>true | .str _,.non=>true
 | .int _,.int _=>true | .bl _,.bl _=>true | .str _,.str _=>true | .byt _,.byt _=>true
 | .int _,.str _=>true | .str _,.int _=>true | .bl _,.str _=>true | .str _,.bl _=>true
 | _,_=>false
noncomputable def rEq:R2:=λx y H Q=>Np x y=true/\Q (.bl (decide (x=y))) H
noncomputable def rNe:R2:=λx y H Q=>Np x y=true/\Q (.bl (!decide (x=y))) H
theorem C8{i j:Int}:decide (V.int i=V.int j)=(i == j):=by
 rw[Tp];simp
theorem G7{i j:Bool}:decide (V.bl i=V.bl j)=(i == j):=by
 rw[Tp];simp
theorem Di{i j:Str}:decide (V.str i=V.str j)=(i == j):=by
 rw[Tp];simp
theorem CY{i j:Array UInt8}:decide (V.byt i=V.byt j)=(i.toList == j.toList):=by
 rw[Tp];cases i;cases j;simp
section
variable {ta tb tc:TE} 
theorem bG{Q:VK}{k k':Bool}(I:Inv X Za σ H s)(q:Q (.bl k) H)(e:k=k'):EP X Za σ Q (.bool k') s:=by
 subst e;exact⟨.bl k,H,I,rfl,q⟩
theorem cU:OpR X (compareOp .Eq) rEq:=by
 k_sub;obtain⟨hs,q⟩:=h;cases x with
 | non =>
  cases rx;cases y with
  | non=>cases ry;exact PySem.EqNone.eq_none_none (bG I q (by simp))
  | bl j=>cases ry;exact PySem.EqNone.eq_none_bool (bG I q (by simp))
  | int j=>obtain⟨t',rfl⟩:=ry;exact PySem.EqNone.eq_none_int (bG I q (by simp))
  | str j=>obtain⟨t',rfl⟩:=ry;exact PySem.EqNone.eq_none_str (bG I q (by simp))
  | _=>exact absurd (show false=true from hs) RE
 | bl i =>
  cases rx;cases y with
  | non=>cases ry;exact PySem.EqNone.eq_bool_none (bG I q (by simp))
  | bl j=>cases ry;exact eq_bool (bG I q G7)
  | str j=>obtain⟨t',rfl⟩:=ry;exact PySem.EqMixed.eq_bool_str (bG I q (by simp))
  | _=>exact absurd (show false=true from hs) RE
 | int i =>
  obtain⟨t,rfl⟩:=rx;cases y with
  | non=>cases ry;exact PySem.EqNone.eq_int_none (bG I q (by simp))
  | int j=>obtain⟨t',rfl⟩:=ry;exact eq_int (bG I q C8)
  | str j=>obtain⟨t',rfl⟩:=ry;exact PySem.EqMixed.eq_int_str (bG I q (by simp))
  | _=>exact absurd (show false=true from hs) RE
 | str i =>
  obtain⟨t,rfl⟩:=rx;cases y with
  | non=>cases ry;exact PySem.EqNone.eq_str_none (bG I q (by simp))
  | bl j=>cases ry;exact PySem.EqMixed.eq_str_bool (bG I q (by simp))
  | int j=>obtain⟨t',rfl⟩:=ry;exact PySem.EqMixed.eq_str_int (bG I q (by simp))
  | str j=>obtain⟨t',rfl⟩:=ry;exact eq_str (bG I q Di)
  | _=>exact absurd (show false=true from hs) RE
 | byt i =>
  obtain⟨t,rfl⟩:=rx;cases y with
  | byt j=>obtain⟨t',rfl⟩:=ry;exact PySem.W.eq_bytes (bG I q CY)
  | _=>exact absurd (show false=true from hs) RE
 | _=>cases y <;> exact absurd (show false=true from hs) RE
theorem d9:OpR X (compareOp .NotEq) rNe:=by
 k_sub;obtain⟨hs,q⟩:=h;cases x with
 | non =>
  cases rx;cases y with
  | non=>cases ry;exact PySem.EqNone.ne_none_none (bG I q (by simp))
  | bl j=>cases ry;exact PySem.EqNone.ne_none_bool (bG I q (by simp))
  | int j=>obtain⟨t',rfl⟩:=ry;exact PySem.EqNone.ne_none_int (bG I q (by simp))
  | str j=>obtain⟨t',rfl⟩:=ry;exact PySem.EqNone.ne_none_str (bG I q (by simp))
  | _=>exact absurd (show false=true from hs) RE
 | bl i =>
  cases rx;cases y with
  | non=>cases ry;exact PySem.EqNone.ne_bool_none (bG I q (by simp))
  | bl j=>cases ry;exact ne_bool (bG I q (congrArg not G7))
  | str j=>obtain⟨t',rfl⟩:=ry;exact PySem.EqMixed.ne_bool_str (bG I q (by simp))
  | _=>exact absurd (show false=true from hs) RE
 | int i =>
  obtain⟨t,rfl⟩:=rx;cases y with
  | non=>cases ry;exact PySem.EqNone.ne_int_none (bG I q (by simp))
  | int j=>obtain⟨t',rfl⟩:=ry;exact ne_int (bG I q (congrArg not C8))
  | str j=>obtain⟨t',rfl⟩:=ry;exact PySem.EqMixed.ne_int_str (bG I q (by simp))
  | _=>exact absurd (show false=true from hs) RE
 | str i =>
  obtain⟨t,rfl⟩:=rx;cases y with
  | non=>cases ry;exact PySem.EqNone.ne_str_none (bG I q (by simp))
  | bl j=>cases ry;exact PySem.EqMixed.ne_str_bool (bG I q (by simp))
  | int j=>obtain⟨t',rfl⟩:=ry;exact PySem.EqMixed.ne_str_int (bG I q (by simp))
  | str j=>obtain⟨t',rfl⟩:=ry;exact ne_str (bG I q (congrArg not Di))
  | _=>exact absurd (show false=true from hs) RE
 | byt i =>
  obtain⟨t,rfl⟩:=rx;cases y with
  | byt j=>obtain⟨t',rfl⟩:=ry;exact PySem.W.ne_bytes (bG I q (congrArg not CY))
  | _=>exact absurd (show false=true from hs) RE
 | _=>cases y <;> exact absurd (show false=true from hs) RE
theorem jI:OpR X (compareOp .Lt) (rI0 λi j=>.bl (decide (i<j))):=Hn λ_ _ _ _ _ _ _ q=>lt_int q
theorem iW:OpR X (compareOp .Gt) (rI0 λi j=>.bl (decide (j<i))):=Hn λ_ _ _ _ _ _ _ q=>gt_int q
theorem oH:OpR X (compareOp .GtE) (rI0 λi j=>.bl (decide (j<=i))):=Hn λ_ _ _ _ _ _ _ q=>ge_int q
theorem iT(b:Expr)(h:op≠.In:=by decide)(h2:op≠.NotIn:=by decide):behindInMarks op b=false:=by
 have e1:(op == CmpOp.In)=false:=by cases op <;> first|rfl|exact absurd rfl h
 have e2:(op == CmpOp.NotIn)=false:=by cases op <;> first|rfl|exact absurd rfl h2
 cases b <;> simp[behindInMarks,e1,e2]
theorem iO{r:R2}(ho:OpR X (compareOp op) r)(ha:PE X a ta)(hb:PE X b tb)(hm:behindInMarks op b=false):PE X (.Compare a [op] [b] pos) (tOp r ta tb):=by
 f_are;exact wpAny_Compare1 (IQ ha hb I h λv u s2 x y H2 I2 rx ry q=>ho Za s2 σ H2 x y v u Q I2 rx ry q) hm
noncomputable def E8(t:TE):TT:=λσ H Q=>t σ H λx H'=>∃k,x=.bl k/\Q k H'
theorem lE{r:R2}(ho:OpR X (compareOp op) r)(ha:PE X a ta)(hb:PE X b tb)(hm:behindInMarks op b=false):PT X (.Compare a [op] [b] pos) (E8 (tOp r ta tb)):=by
 intro Za s σ H Q I h;refine XD (thn (ha Za s σ H _ I h) λv s1 ⟨x,H1,I1,r1,q1⟩=>thn (hb Za s1 σ H1 _ I1 q1) λu s2 ⟨y,H2,I2,r2,q2⟩ =>
  thn (ho Za s2 σ H2 x y v u _ I2 r1 r2 q2) λc s3 ⟨z,H3,I3,r3,k,e,q3⟩=>?_) hm
 subst e;cases r3;exact Tx ⟨H3,I3,q3⟩
theorem uz:(RV:Nat)<2 ^ 63:=by rw[RO];decide
theorem vals1{x:V}(r:Vals [x] us):∃u,us=[u]/\RelV x u:=by
 cases r with
 | cons r1 r2=>cases r2;exact⟨_,rfl,r1⟩
end
variable {C dx:Addr}{params:Arguments}{b:Bool}{X:Cx}{e:Expr}{base h:Heap}{H:Hp}{Za:Y0}{fs:List (Str×V)}{kw:List (Str×Value)}{outer:List Env}{es:Y8}{body:List Stmt}{ps:Z0}{dvs vs:Y6}{r:List V->Hp->VK->Prop}{gV:List V->List V->List V}{ds us:Y7}{g:List Value->List Value->List Value}{kws:List XI}{k:Nat}{nm:Option Str}{o:Z6}{apos pos:Pos}{K:Q7}{P prog:RB}{s:Rg}{fd:SO}{scope:Scope}{pl:Sem Bool}{A:Sj}{σ:St}{f m name qual x:Str}{kindOf:Str->Option UZ}{mA mg:Y5}{t:TA}{ta te:TE}{u v:Value}{E Q:Value->Rg->Prop}{w:World}{R:XF->Rg->Prop}
structure tJ(h:Heap)(x dx C:Addr)(mA:Y5):Prop where
 obj:h.get? x=some (Uj C dx)
 ns:h.Ns1 dx mA
 ne:dx≠x
theorem F8(n:h.Ns1 dx mA):∃od,h.get? dx=some od/\∀name,WL name od=some (mA name):=by
 obtain⟨o,es,ep,ho,hd,hk,_,hm⟩:=n;refine⟨o,ho,λname=>?_⟩;have e:=hm name;unfold nsFind findBy at e;rw[<- Array.find?_toList]at e;unfold WL;rw[hd];dsimp only
 split
 .rename_i y q
  rw[q]at e;exact congrArg some e
 .rename_i q
  rw[q]at e;have a:es.toList.any (·.refKey)=false:=by
   rw[VL];intro y hy;obtain⟨z,t,hkey⟩:=hk y (Array.mem_toList_iff.mp hy);simp[DictEntry.refKey,hkey]
  have a':¬ es.toList.any (·.refKey)=true:=by rw[a];exact RE
  rw[if_neg a'];exact congrArg some e
theorem tJ.look{x:Addr}(I:tJ h x dx C mA):∃od,PySem.W.InstAt h x (Uj C dx) C (some od)/\∀name,WL name od=some (mA name) :=
 let ⟨od,ho,hl⟩:=F8 I.ns
 ⟨od,⟨I.obj,rfl,rfl,ho⟩,hl⟩
section
variable {x f:Addr} 
theorem get_map{expr:Bool}(X:K.In s.heap)(I:tJ s.heap x dx C mA)(hg:Vn K C name=true)(hh:VM K C=true)
  (ha:SX K (.ref C) name=some none) (hv:mA name=some v) (hv':PySem.W.handedIn v=true) (h:Q v { s with toks:=s.toks+1 }) :
  wpAny (model prog w) A (getAttr (.ref x) name expr) Q E s:=by
 obtain⟨od,J,hl⟩:=I.look;exact PySem.W.get_value X J (Wf hg).1 (PySem.W.findObj_own hh ha rfl (by rw[hl,hv])) hv' h
theorem IB{Q:Value×List Value->Rg->Prop}(X:K.In s.heap)(I:tJ s.heap x dx C mA)(hg:Vn K C name=true)
  (hf:SX K (.ref C) name=some (some (.ref f))) (ht:WB K (.ref f)=true) (hv:mA name=none) (h:Q (.ref f,[.ref x]) s) :
  wpAny (model prog w) A (getMethod (.ref x) name pl) Q E s:=by
 obtain⟨od,J,hl⟩:=I.look;exact PySem.W.method_fn X J (Wf hg).1 (Wf hg).2 hf (beq_iff_eq.mp ht) (by show (WL name od).map (·.isSome)=some false;rw[hl,hv];rfl) h
theorem LF{ns:Z0}{Q:Unit->Rg->Prop}(X:K.In s.heap)(I:tJ s.heap x dx C mA)
  (hs:SX K (.ref C) "__setattr__" = some (some (.builtin "object.__setattr__"))) (hp:WV K C=true) (ht:XE K C name=some none) (hh:VM K C=true)
  (hw:YB mA ns) (hsz:ns.length<=RV)
  (h:∀h',tJ h' x dx C (λy=>if y=name then some v else mA y)->Vr dx s.heap h'->Q () { s with heap:=h',toks:=s.toks+2 }) :
  wpAny (model prog w) A (setAttr (.ref x) name v) Q E s:=by
 obtain⟨od,J,hl⟩:=I.look;refine PySem.W.set_plain X J hs (PySem.W.osa_open (s:={ s with toks:=s.toks+1 }) (r:=none) X J hp ht λb=>?_);obtain⟨cd,hc,dh⟩:=PySem.W.any_some hh;have hx:s.heap.get? x=some ⟨.ref C,some dx,.plain,#[]⟩:=I.obj;refine Ra (Rm (Ra (Ra (wpAny_loadPart hx (Ra (PySem.W.Looks.here (s:={ s with toks:=s.toks+1 }) (PySem.W.looks_clsIn X hc) ?_))))));rw[dh];refine Rm (a:=some dx) (Ra (Rm (Ra ?_)));refine wpAny_nsSet1 (s:={ s with toks:=s.toks+1 }) I.ns λh' hn2 ZP=>?_;obtain⟨oD,esD,epD,hoD,hdD,hcD⟩:=hn2.count (PySem.Within.cons name v hw);refine Ra (wpAny_lookBehind hoD (by rw[hdD];exact pastItsLine_dict (RU hcD (by rw[Sb];lia))) ?_)
 exact Rm (h _ ⟨(ZP.2 _ (TR I.ne)).trans I.obj,hn2,I.ne⟩ ZP)
theorem Hr{vs:Y7}(X:K.In s.heap)(hm:XG K C=true)
  (hi:SX K (.ref C) "__init__" = some (some (.ref f))) (hf:PySem.W.typeIn K (.ref f)=some (.type "function"))
  (h:codeAny (model prog w) (A.under (.builtin "type.__call__" ⟨.ref C :: vs,kw⟩)) (.call (.ref f) ⟨.ref (s.heap.objs.size+1) :: vs,kw⟩) (PySem.W.InitBack (s.heap.objs.size+1) R)
   { s with heap:=(s.heap.push Tz).push (Uj C s.heap.objs.size) }) :
  codeAny (model prog w) A (.call (.ref C) ⟨vs,kw⟩) R s:=by
 obtain⟨hh,g,d,t,os⟩:=s;exact PySem.W.make_core (PySem.W.makes_of X hm) (PySem.W.looks_findIn X hi) (λself=>PySem.W.bind_fn X self hf) (.inl rfl) h
end
noncomputable def bD(f:Str)(v:V):List (Str×V)->List (Str×V)
 | []=>[(f,v)]
 | (g,x) :: r=>if g=f then (g,v) :: r else (g,x) :: bD f v r
theorem sE(f g:Str)(v:V):∀fs:List (Str×V),(bD f v fs).lookup g=if g=f then some v else fs.lookup g
 | []=>by
  show VN g [(f,v)]=_
  by_cases h:g=f
  .have hb:(g == f)=true:=beq_iff_eq.mpr h;simp only[VN,hb,if_pos h]
  .have hb:(g == f)=false:=beq_eq_false_iff_ne.mpr h;simp only[VN,hb,if_neg h]
 | (k,x) :: r=>by
  have ih:=sE f g v r;o_src
  by_cases hk:k=f
  .rw[if_pos hk]
   by_cases h:g=k
   .have hb:(g == k)=true:=beq_iff_eq.mpr h;simp only[VN,hb,if_pos (h.trans hk)]
   .have hb:(g == k)=false:=beq_eq_false_iff_ne.mpr h;simp only[VN,hb,if_neg (λe:g=f=>h (e.trans hk.symm))]
  .rw[if_neg hk]
   by_cases h:g=k
   .have hb:(g == k)=true:=beq_iff_eq.mpr h;simp only[VN,hb,if_neg (λe:g=f=>hk (h.symm.trans e))]
   .have hb:(g == k)=false:=beq_eq_false_iff_ne.mpr h;simp only[VN,hb];exact ih
theorem rf(f:Str)(v:V):∀fs:List (Str×V),f∈(bD f v fs).map (·.1)/\∀g,g∈fs.map (·.1)->g∈(bD f v fs).map (·.1)
 | []=>⟨by simp[bD],λg h=>by simp at h⟩
 | (k,x) :: r=>by
  obtain⟨i1,i2⟩:=rf f v r;o_src
  by_cases hk:k=f
  .rw[if_pos hk];subst hk;exact⟨by simp,λg h=>by simpa using h⟩
  .rw[if_neg hk];refine⟨?_,λg h=>?_⟩
   .rw[Si];exact Rp _ i1
   .rw[Si]at h ⊢;rcases RA.mp h with e|e
    .exact RA.mpr (.inl e)
    .exact Rp _ (i2 g e)
theorem sG(f:Str)(v:V):∀fs:List (Str×V),(bD f v fs).length<=fs.length+1
 | []=>by simp[bD]
 | (k,x) :: r=>by
  have ih:=sG f v r;o_src
  by_cases hk:k=f
  .rw[if_pos hk,Sb,Sb];lia
  .rw[if_neg hk,Sb,Sb];lia
theorem gf.some_of{v:V}(r:gf (some v) o):∃u,o=some u/\RelV v u:=by
 cases o with
 | none=>exact(show False from r).elim
 | some u=>exact⟨u,rfl,r⟩
theorem gf.none_of(r:gf none o):o=none:=by
 cases o with
 | none=>rfl
 | some u=>exact(show False from r).elim
theorem Hb{v:V}(r:RelV v u):PySem.W.handedIn u=true:=by
 cases v with
 | non=>cases(show u=SF from r);rfl
 | bl b=>cases(show u=WT b from r);rfl
 | int i=>obtain⟨t,e⟩:=(show ∃t,u=Ui i t from r);cases e;rfl
 | str x=>obtain⟨t,e⟩:=(show ∃t,u=Yt x t from r);cases e;rfl
 | byt b=>obtain⟨t,e⟩:=(show ∃t,u=Value.bytes b t from r);cases e;rfl
 | flt b=>obtain⟨t,e⟩:=(show ∃t,u=YM b t from r);cases e;rfl
 | ref a=>cases(show u=RN a from r);rfl
 | ty n=>cases(show u=X6 n from r);rfl
section
variable {H':Hp}{h':Heap}{a:Addr}{fs':List (Str×V)}
theorem sf(hok:HOk P w H h)(e:H a=some (.ins C dx fs)):∃mA,tJ h a dx C mA/\(∀f,gf (fs.lookup f) (mA f))/\YB mA (fs.map (·.1))/\fs.length<=1000/\H dx=some (.own a):=by
 obtain⟨d,z,ne,ob,mA,n,r,q⟩:=(show bR P w H h a (.ins C dx fs) from hok a _ e);exact⟨mA,⟨ob,n,ne⟩,r,q,z,d⟩
end
structure Cls(K:Q7)(C:Addr):Prop where
 pg:Vn K C Str.empty=true
 hd:VM K C=true
 po:WV K C=true
 sa:SX K (.ref C) "__setattr__" = some (some (.builtin "object.__setattr__"))
theorem Cls.get(c:Cls K C)(f:Str):Vn K C f=true:=c.pg
noncomputable def bE(K:Q7)(C:Addr)(f:Str):Prop:=SX K (.ref C) f=some none
theorem bE.Ql(n:bE K C f):XE K C f=some none:=by
 unfold XE;rw[show SX K (.ref C) f=some none from n];rfl
structure Meth(K:Q7)(C:Addr)(m:Str)(f:Addr):Prop where
 at_:SX K (.ref C) m=some (some (.ref f))
 fn:WB K (.ref f)=true
 kp:Sk K (.ref f)=true
section
variable {a:Addr}{v:V} 
theorem Ej(I:Inv X Za σ H s)(e:H a=some (.ins C dx fs))(c:Cls X.K C)(n:bE X.K C f)(l:fs.lookup f=some v)
  (h:∀u s',Inv X Za σ H s'->RelV v u->Q u s'):wpAny (model X.prog X.w) A (getAttr (.ref a) f b) Q E s:=by
 obtain⟨mA,O,r,_,_,_⟩:=sf I.hok e;obtain⟨u,hu,ru⟩:=gf.some_of (v:=v) (o:=mA f) (by rw[<- l];exact r f)
 exact get_map I.kIn O (c.get f) c.hd n hu (Hb ru) (h u _ (I.tok _) ru)
theorem Fb{g:Addr}{Q:Value×List Value->Rg->Prop}(I:Inv X Za σ H s)(e:H a=some (.ins C dx fs))(c:Cls X.K C)(k:Meth X.K C m g)(l:fs.lookup m=none)
  (h:Q (.ref g,[.ref a]) s):wpAny (model X.prog X.w) A (getMethod (.ref a) m pl) Q E s:=by
 obtain⟨mA,O,r,_,_,_⟩:=sf I.hok e;have hn:mA m=none:=gf.none_of (by rw[<- l];exact r m)
 exact IB I.kIn O (c.get m) k.at_ k.fn hn h
theorem DF{y:V}{Q:Unit->Rg->Prop}(I:Inv X Za σ H s)(e:H a=some (.ins C dx fs))(c:Cls X.K C)(n:bE X.K C f)(hl:fs.length<1000)(ry:RelV y u)
  (h:∀s',Inv X Za σ (upd H a (.ins C dx (bD f y fs))) s'->Q () s'):wpAny (model X.prog X.w) A (setAttr (.ref a) f u) Q E s:=by
 obtain⟨mA,O,r,wi,_,ho⟩:=sf I.hok e;have hz:(fs.map (·.1)).length<=RV:=by rw[Rc,RO];lia
 refine LF I.kIn O c.sa c.po n.Ql c.hd wi hz λh' O' sb=>h _ ?_;have hd:∃o,h'.get? dx=some o:=let ⟨o,_,_,e',_⟩:=O'.ns;⟨o,e'⟩;refine I.write (x:=a) (e:=dx) (by rw[e];exact T7) (.inr ho) (λb q hb z=>(sb.2 b hb).trans z) hd ?_
 refine⟨by rw[ak O.ne];exact ho,?_,O.ne,O'.obj,_,O'.ns,λg=>?_,λg hg=>?_⟩
 .have:=sG f y fs;lia
 .show gf ((bD f y fs).lookup g) (if g=f then some u else mA g);rw[sE]
  by_cases q:g=f
  .rw[if_pos q,if_pos q];exact ry
  .rw[if_neg q,if_neg q];exact r g
 .by_cases q:g=f
  .rw[q];exact(rf f y fs).1
  .refine(rf f y fs).2 g (wi g λz=>hg ?_);show (if g=f then some u else mA g)=none;rw[if_neg q];exact z
theorem Inv.made(I:Inv X Za σ H s):Inv X Za σ (upd (upd H s.heap.objs.size (.own (s.heap.objs.size+1))) (s.heap.objs.size+1) (.ins C s.heap.objs.size []))
  { s with heap:=(s.heap.push Tz).push (Uj C s.heap.objs.size) }:=by
 have e1:(s.heap.push Tz).get? s.heap.objs.size=some Tz:=RC s.heap rfl;have e2:((s.heap.push Tz).push (Uj C s.heap.objs.size)).get? (s.heap.objs.size+1)=some (Uj C s.heap.objs.size):=by
  have:=RC (s.heap.push Tz) (o:=Uj C s.heap.objs.size) rfl
  rwa[S0]at this
 have e3:(s.heap.push Tz).Ns s.heap.objs.size (λ_=>none):=⟨Tz,#[],_,e1,rfl,(λe he=>absurd he (by simp)),λ_=>rfl⟩
 have I1:=I.laid (a:=s.heap.objs.size) (o:=.own (s.heap.objs.size+1)) (h':=s.heap.push Tz) (t':=s.toks) (λb u q=>Rl _ q) (Ru _) ⟨_,e1⟩;refine I1.laid (a:=s.heap.objs.size+1) (o:=.ins C s.heap.objs.size []) (t':=s.toks) (λb u q=>Rl _ q) (U2 (S0 _ _)) ?_;have ne:s.heap.objs.size≠s.heap.objs.size+1:=Ry (Tt _);refine⟨by rw[ak ne,ai],R5 _,ne,e2,λ_=>none,(Heap.Ns1.of_empty e3).at λo q=>Rl _ q,λ_=>T7,λy hy=>absurd rfl hy⟩
theorem L6{env:Env}(hb:attributeBase e f env (eval e env)=eval e env)
  (h:wpAny (model prog w) A (eval e env) (λo s₁=>wpAny (model prog w) A (getAttr o f true) Q E s₁) E s):wpAny (model prog w) A (eval (.Attribute e f pos) env) Q E s :=
 Attribute_any_ h (by rw[arm_eval_Attribute,hb])
end
noncomputable def E2(K:Q7)(ta:TE)(f:Str):TE:=λσ H Q=>ta σ H λx H1=>∃a C dx fs v,x=.ref a/\H1 a=some (.ins C dx fs)/\Cls K C/\bE K C f/\fs.lookup f=some v/\Q v H1
noncomputable def IU(K:Q7)(ta tv:TE)(f:Str):TS:=λD σ H=>tv σ H λy H1=>ta σ H1 λx H2=>∃a C dx fs,x=.ref a/\H2 a=some (.ins C dx fs)/\Cls K C/\bE K C f/\fs.length<1000 /\
 D.nx σ (upd H2 a (.ins C dx (bD f y fs)))
section
variable {o value:Expr}{pos' Q!:Pos}{tv:TE}
theorem MX(he:PE X e ta)(hb:attributeBase e f X.env (eval e X.env)=eval e X.env):PE X (.Attribute e f pos) (E2 X.K ta f):=by
 f_are;refine L6 hb (thn (he Za s σ H _ I h) λu s1 ⟨x,H1,I1,rx,a,C,dx,fs,v,ex,ea,c,n,l,q⟩=>?_);subst ex;obtain rfl:u=RN a:=rx;exact Ej I1 ea c n l λu' s2 I2 ru=>⟨v,H1,I2,ru,q⟩
theorem Nh(ha:PE X o ta)(hv:PE X value tv)(hs:swapsWith value (some (.Attribute o f pos')) pos.line X.env=pure false):PS X (.Assign [.Attribute o f pos'] value pos) (IU X.K ta tv f):=by
 l_idx;refine plainObj_wpAny_Assign_Attribute (thn (hv Za s σ H _ I h) λu s1 ⟨y,H1,I1,ry,q⟩=>thn (ha Za s1 σ H1 _ I1 q) λov s2 ⟨x,H2,I2,rx,a,C,dx,fs,ex,ea,c,n,l,q2⟩=>?_) hs;subst ex;obtain rfl:ov=RN a:=rx;exact DF I2 ea c n l ry λs3 I3=>⟨σ,_,I3,q2⟩
end
section
variable {c:Value} 
inductive fU(K:Q7)(H:Hp):V->Value->Prop where
 | non:fU K H .non (.type "NoneType")
 | bl (x:Bool):fU K H (.bl x) (.type "bool")
 | int (i:Int):fU K H (.int i) (.type "int")
 | str (x:Str):fU K H (.str x) (.type "str")
 | flt (x:UInt64):fU K H (.flt x) (.type "float")
 | lst {a:Addr} {xs:Y6} (e:H a=some (.lst xs)):fU K H (.ref a) (.type "list")
 | frz {a:Addr} {o:Obj} {xs:Y6} (e:H a=some (.frz o (.lst xs))):fU K H (.ref a) (.type "list")
 | tup {a:Addr} {xs:Y6} (e:H a=some (.tup xs)):fU K H (.ref a) (.type "tuple")
 | dK {a:Addr} {kvs:Y1} (e:H a=some (.dK kvs)):fU K H (.ref a) (.type "dict")
 | dT {a:Addr} {kvs:List (List Key×V)} (e:H a=some (.dT kvs)):fU K H (.ref a) (.type "dict")
 | ins {a C dx:Addr} {fs:List (Str×V)} (e:H a=some (.ins C dx fs)) (cl:Cls K C) (ha:SX K (.ref C) "__class__" = some (some (.builtin "object.__class__")))
   (hn:VO K (.builtin "object.__class__") "__get__" = some (some (.builtin "getset_descriptor.__get__"))) (htk:PySem.W.takesIn K (.builtin "object.__class__")=some true)
   (hm:PySem.W.mroIn K C (.type "object")=some true):fU K H (.ref a) (.ref C)
theorem xF{x:V}{t:Value}(I:Inv X Za σ H s)(rx:RelV x u)(ty:fU X.K H x t)(e:UT X.K t c=some b)(h:∀tk,Q (.bool b) { s with toks:=tk }) :
  wpAny (model X.prog X.w) A (call (.builtin "isinstance") [u,c]) Q E s:=by
 cases ty with
 | non=>cases(show u=SF from rx);exact Tq PySem.W.kitx_none I.kIn T7 e (λz=>nomatch z) h
 | bl y=>cases(show u=WT y from rx);exact Tq PySem.W.kitx_bool I.kIn T7 e (λz=>nomatch z) h
 | int i=>obtain⟨t,q⟩:=(show ∃t,u=Ui i t from rx);cases q;exact Tq PySem.W.kitx_int I.kIn T7 e (λz=>nomatch z) h
 | str y=>obtain⟨t,q⟩:=(show ∃t,u=Yt y t from rx);cases q;exact Tq PySem.W.kitx_str I.kIn T7 e (λz=>nomatch z) h
 | flt y=>obtain⟨t,q⟩:=(show ∃t,u=YM y t from rx);cases q;exact Tq PySem.W.kitx_float I.kIn T7 e (λz=>nomatch z) h
 | @lst a xs ea =>
  cases(show u=RN a from rx);obtain⟨_,_,n,_,h1⟩:=(show bR X.prog X.w H s.heap a (.lst xs) from I.hok a _ ea);exact Tq PySem.W.kitx_list I.kIn ⟨_,h1,rfl⟩ e (λz=>nomatch z) h
 | @frz a ob xs ea =>
  cases(show u=RN a from rx);obtain⟨_,_,_,n,_,h1⟩:=(show bR X.prog X.w H s.heap a (.frz ob (.lst xs)) from I.hok a _ ea);exact Tq PySem.W.kitx_list I.kIn ⟨_,h1,rfl⟩ e (λz=>nomatch z) h
 | @tup a xs ea =>
  cases(show u=RN a from rx);obtain⟨_,_,_,p⟩:=(show bR X.prog X.w H s.heap a (.tup xs) from I.hok a _ ea);obtain⟨o,h1,h2,_⟩:=p;exact Tq PySem.W.kitx_tuple I.kIn ⟨o,h1,h2⟩ e (λz=>nomatch z) h
 | @dK a kvs ea =>
  cases(show u=RN a from rx);obtain⟨_,_,vs,_,p⟩:=(show bR X.prog X.w H s.heap a (.dK kvs) from I.hok a _ ea);obtain⟨o,es,ep,h1,h2,_⟩:=p;exact Tq PySem.W.kitx_dict I.kIn ⟨o,h1,h2.1⟩ e (λz=>nomatch z) h
 | @dT a kvs ea =>
  cases(show u=RN a from rx);obtain⟨_,_,xs,_,o,es,ep,h1,h2,_⟩:=(show bR X.prog X.w H s.heap a (.dT kvs) from I.hok a _ ea);exact Tq PySem.W.kitx_dict I.kIn ⟨o,h1,h2.1⟩ e (λz=>nomatch z) h
 | @ins a C dx fs ea cl ha hn htk hm =>
  cases(show u=RN a from rx);obtain⟨mA,O,_⟩:=sf I.hok ea;obtain⟨od,J,_⟩:=O.look;exact Tq (PySem.W.kitx_own (cl.get _) cl.hd ha hn htk hm) I.kIn J e (λz=>nomatch z) h
end
structure bQ(k:Nat)(A:Sj):Prop where
 hd:A.handled=none
 dp:A.depth+3 * k+5<recursionLimit
 un:A.units+16 * k+200<cLine
theorem bQ.mono{j:Nat}(r:bQ k A)(h:j<=k):bQ j A:=⟨r.hd,by have:=r.dp;lia,by have:=r.un;lia⟩
theorem bQ.deeper(r:bQ (k+1) A)(env:Env):bQ k (A.deeper env) :=
 ⟨r.hd,by have:=r.dp;show A.depth+1+3 * k+5<_;lia,by have:=r.un;show A.units+3+16 * k+200<_;lia⟩
theorem bQ.in1(r:bQ (k+1) A):bQ k A.in1 :=
 ⟨r.hd,by have:=r.dp;show A.depth+3 * k+5<_;lia,by have:=r.un;show A.units+1+16 * k+200<_;lia⟩
theorem DS :(A.under (.builtin "type.__call__" ⟨.ref C :: us,kw⟩)).depth=A.depth+1:=by
 first|rfl|simp[YC,Code.weight,Code.isCreation,Code.isGuard,Code.isCaller,Code.frames,YD,guardIds]
theorem D4 :(A.under (.builtin "type.__call__" ⟨.ref C :: us,kw⟩)).units=A.units+1:=by
 first|rfl|simp[YC,Code.cUnits,Code.frames,YD]
theorem bQ.make(r:bQ (k+1) A)(C:Addr)(us:Y7)(kw:List (Str×Value)):bQ k (A.under (.builtin "type.__call__" ⟨.ref C :: us,kw⟩)) :=
 ⟨r.hd,by have:=r.dp;rw[DS];lia,by have:=r.un;rw[D4];lia⟩
theorem bQ.depth(r:bQ k A):A.depth<recursionLimit:=by have:=r.dp;lia
theorem bQ.units(r:bQ k A):A.units+64<cLine:=by have:=r.un;lia
noncomputable def ng:TA:=λ_ H Q=>Q [] H
noncomputable def iZ(ta:TE)(tr:TA):TA:=λσ H Q=>ta σ H λx H1=>tr σ H1 λxs H2=>Q (x :: xs) H2
theorem bZ:PA X [] ng:=λ_ _ _ _ H Q I h=>VP ⟨[],H,I,.nil,h⟩
theorem wb(ha:PE X e te)(hr:PA X es t)(hs:So (e :: es) X.env=(false,eval e X.env) :: So es X.env:=by rfl):PA X (e :: es) (iZ te t):=by
 intro pos Za s σ H Q I h;rw[hs];show wpAny _ _ (spliced ((false,eval e X.env) :: backTo pos (So es X.env))) _ _ s;refine Vx (thn (ha Za s σ H _ I h) λu s1 ⟨x,H1,I1,r1,q1⟩=>?_);exact thn (hr pos Za s1 σ H1 _ I1 q1) λus s2 ⟨xs,H2,I2,r2,q2⟩=>⟨x :: xs,H2,I2,.cons r1 r2,q2⟩
noncomputable def Ni(t:TA):TE:=λσ H Q=>t σ H λxs H1=>xs.length<=RV/\∀p,H1 p=none->Q (.ref p) (upd H1 p (.tup xs))
noncomputable def Bf(t:TA):TE:=λσ H Q=>t σ H λxs H1=>xs.length<=RV/\∀p,H1 p=none->Q (.ref p) (upd H1 p (.lst xs))
theorem gP{x1}(h:PA X es t):PE X (.Tuple es x1 pos) (Ni t):=by
 intro Za s σ H Q I hq;refine wpAny_Tuple_spliced (thn (h pos Za s σ H _ I hq) λus s1 ⟨xs,H1,I1,r,z,q⟩=>⟨by rw[<- r.length];exact z,?_⟩)
 have hf:H1 s1.heap.objs.size=none:=I1.hok.fresh (Ru _);refine⟨.ref s1.heap.objs.size,upd H1 s1.heap.objs.size (.tup xs),I1.laid (t':=s1.toks) (λb u e=>Rl _ e) (Ru _) ?_,rfl,q _ hf⟩;exact⟨z,us,r,⟨_,RC _ rfl,rfl,_,rfl⟩⟩
theorem bg(h:PA X es t):PE X (.List es pos) (Bf t):=by
 intro Za s σ H Q I hq;refine wpAny_List_spliced (thn (h pos Za s σ H _ I hq) λus s1 ⟨xs,H1,I1,r,z,q⟩=>⟨by rw[<- r.length];exact z,?_⟩)
 have hf:H1 s1.heap.objs.size=none:=I1.hok.fresh (Ru _);refine⟨.ref s1.heap.objs.size,upd H1 s1.heap.objs.size (.lst xs),I1.laid (t':=s1.toks) (λb u e=>Rl _ e) (Ru _) ?_,rfl,q _ hf⟩;exact⟨z,us,0,r,RC _ rfl⟩
noncomputable abbrev Sp:=List V->Hp->VK->XK->Prop
noncomputable abbrev CXT:=List Env->Hp->Rg->XK->Value->Rg->Prop
structure tE(P:RB)(w:World)(K:Q7)(mg:Y5)(base:Heap)(A:Sj)(outer:List Env)(s:Rg)(H:Hp):Prop where
 frames:A.frames=some outer
 mod:Mod K mg base
 bs:∀b o,base.get? b=some o->s.heap.get? b=some o/\H b=none
 bsz:base.objs.size<=s.heap.objs.size
 jd:s.heap.FunFrames base outer
 frf:∀b∈frs outer,H b=none
 hok:HOk P w H s.heap
 bare:XC s.gens
noncomputable def CE(outer:List Env)(P:RB)(w:World)(H:Hp)(s:Rg)(Q:VK)(u:Value)(s':Rg):Prop :=
 ∃v H',s'.os=s.os/\XC s'.gens/\Un (frs outer) [] H H' s.heap s'.heap/\HOk P w H' s'.heap/\RelV v u/\Q v H'
noncomputable def CR(CX:CXT)(outer:List Env)(P:RB)(w:World)(H:Hp)(s:Rg)(Q:VK)(E:XK)(r:XF)(s':Rg):Prop :=
 match r with
 | .ok (.ret u)=>CE outer P w H s Q u s'
 | .ok _=>False
 | .error e=>CX outer H s E e s'
structure aH(P:RB)(w:World)(K:Q7)(mg:Y5)(base:Heap)(CX:CXT)(k:Nat)(f:Addr)(fd:SO)(ps:Z0)(sp:Sp):Prop where
 len:∀vs H Q E,sp vs H Q E->vs.length=ps.length
 run:∀ (A:Sj) (outer:List Env) (s:Rg) (H:Hp) (args:Args) (us:Y7) (vs:Y6) (Q:VK) (E:XK),bQ k A->tE P w K mg base A outer s H->WM s fd args (ps.zip us)->Vals vs us->sp vs H Q E ->
  codeAny (model P w) A (.call (.ref f) args) (CR CX outer P w H s Q E) s
theorem tE.make(e:tE P w K mg base A outer s H)(C:Addr)(us:Y7)(kw:List (Str×Value)) :
  tE P w K mg base (A.under (.builtin "type.__call__" ⟨.ref C :: us,kw⟩)) outer s H:=⟨by first|exact e.frames|(simpa[YC,Code.envs,YD,pushEnvs] using e.frames),e.mod,e.bs,e.bsz,e.jd,e.frf,e.hok,e.bare⟩
section
variable {s':Rg}
theorem Inv.MN(I:Inv X Za σ H s):tE X.prog X.w X.K X.mg X.base X.A X.stack s H :=
 ⟨I.ok.frames,I.ok.mod,I.bs,RU I.ok.bsz I.sz,I.stack,I.CZ,I.hok,I.bare⟩
theorem Inv.after{Q:VK}(I:Inv X Za σ H s)(h:CE X.stack X.prog X.w H s Q u s'):EP X Za σ Q u s':=by
 obtain⟨v,H',os,bare,un,hok,r,q⟩:=h;obtain⟨hh,g,d,t,os'⟩:=s';obtain rfl:os'=s.os:=os;exact⟨v,H',I.call (h':=hh) (g':=g) (d':=d) (t':=t) (ch:=[]) un hok bare (λb z=>absurd z (by simp)),r,q⟩
end
noncomputable def kN(sp:Sp)(dvs:Y6)(E:XK)(t:TA):TE:=λσ H Q=>t σ H λvs H1=>sp (vs++dvs) H1 Q E
noncomputable def Ef(C:Addr)(m:Str)(sp:Sp)(dvs:Y6)(E:XK)(ta:TE)(t:TA):TE:=λσ H Q=>ta σ H λx H1=>∃a dx fs,x=.ref a/\H1 a=some (.ins C dx fs)/\fs.lookup m=none /\
 t σ H1 λvs H2=>sp (x :: (vs++dvs)) H2 Q E
noncomputable def DV(C:Addr)(sp:Sp)(dvs:Y6)(E:XK)(t:TA):TE:=λσ H Q=>t σ H λvs H1=>∀x dx,H1 x=none->H1 dx=none->dx≠x ->
 sp (.ref x :: (vs++dvs)) (upd (upd H1 dx (.own x)) x (.ins C dx [])) (λv H2=>v=.non/\Q (.ref x) H2) E
noncomputable def Binds(K:Q7)(fd:SO)(ps:Z0)(ds:Y7):Prop :=
 ∀ (s:Rg) (us:Y7),K.In s.heap->(us++ds).length=ps.length->WM s fd ⟨us,[]⟩ (ps.zip (us++ds))
theorem Binds.all(h:∀us:Y7,us.length=ps.length->bindArgs fd ⟨us,[]⟩=pure (ps.zip us)):Binds K fd ps []:=λs us _ hl=>by
 rw[Vy]at hl ⊢;exact .of_eq (h us hl)
noncomputable def Passes(CX:CXT)(X:Cx)(E:XK):Prop:=∀ (Za:Y0) (σ:St) (H:Hp) (s:Rg) (e:Value) (s':Rg),Inv X Za σ H s->CX X.stack H s E e s'->X.xe e s'
section
variable {CX:CXT}{f:Addr}{sp:Sp}{E:XK}{p:Pos}{o:Expr} 
theorem uA{Q:VK}(F:aH X.prog X.w X.K X.mg X.base CX k f fd ps sp)(hr:bQ k X.A)(hb:Binds X.K fd ps ds)(hd:Vals dvs ds)(hx:Passes CX X E)
  (I:Inv X Za σ H s) (r:Vals vs us) (h:sp (vs++dvs) H Q E):wpAny (model X.prog X.w) X.A (call (.ref f) us) (EP X Za σ Q) X.xe s:=by
 have r2:Vals (vs++dvs) (us++ds):=r.append hd;have hl:(us++ds).length=ps.length:=by rw[<- r2.length];exact F.len _ _ _ _ h
 refine wpAny_call (V0 (F.run X.A X.stack s H ⟨us,[]⟩ (us++ds) (vs++dvs) Q E hr I.MN (hb s us I.kIn hl) r2 h) λr s' hq=>?_);cases r with
 | error e=>exact hx Za σ H s e s' I hq
 | ok fl =>
  cases fl with
  | ret u=>exact I.after hq
  | next=>exact Uo hq
  | brk=>exact Uo hq
  | cont=>exact Uo hq
theorem wF(F:aH X.prog X.w X.K X.mg X.base CX k f fd ps sp)(hr:bQ k X.A)(hg:Gl X x)(hm:X.mg x=some (.ref f))(hk:Sk X.K (.ref f)=true)(hb:Binds X.K fd ps ds)(hd:Vals dvs ds)(hx:Passes CX X E)
  (ha:PA X (e :: es) t) (ZA:(x == ("__debug__" : Str))=false:=by decide) (he:So (e :: es) X.env=(false,eval e X.env) :: So es X.env:=by rfl) (u!:(backTo pos (So es X.env)).any (·.1)=false:=by rfl) :
  PE X (.Call (.Name x p) (e :: es) [] pos) (kN sp dvs E t):=by
 f_are;refine UY (nv I hg hm ?_ ZA);refine Vz (h₀:=X.base) I.ok.mod.kin hk (thn (ha pos Za s σ H _ I h) λus s1 ⟨vs,H1,I1,r,q⟩=>⟨I1.kIn,?_⟩) he u!;exact uA F hr hb hd hx I1 r q
theorem Ln(he:PE X o ta)(c:Cls X.K C)(hm:Meth X.K C m f)(F:aH X.prog X.w X.K X.mg X.base CX k f fd ps sp)(hr:bQ k X.A)(hb:Binds X.K fd ps ds)(hd:Vals dvs ds)(hx:Passes CX X E)(ha:PA X (e :: es) t)
  (Zp:So (e :: es) X.env=(false,eval e X.env) :: So es X.env:=by rfl) (u!:(backTo pos (So es X.env)).any (·.1)=false:=by rfl)
  (ht:eval (.Call (.Attribute o m apos) (e :: es) [] pos) X.env=(do
   let ov <- eval o X.env
   standAt apos.atName
   let (f,first) <- holding [ov] (getMethod ov m pl)
   callWith pos f first (backTo pos (So (e :: es) X.env)) (backToKw pos (keywordEach [] X.env))):=by rfl) :
  PE X (.Call (.Attribute o m apos) (e :: es) [] pos) (Ef C m sp dvs E ta t):=by
 f_are;refine XH (pl:=pl) (thn (he Za s σ H _ I h) λu s1 ⟨x,H1,I1,rx,a,dx,fs,ex,ea,l,q⟩=>?_) ht;subst ex;obtain rfl:u=RN a:=rx;refine Fb I1 ea c hm l ?_;refine Vz (first:=[.ref a]) (h₀:=X.base) I.ok.mod.kin hm.kp (thn (ha pos Za s1 σ H1 _ I1 q) λus s2 ⟨vs,H2,I2,r,q2⟩=>⟨I2.kIn,?_⟩) Zp u!;exact uA (us:=.ref a :: us) (vs:=.ref a :: vs) F hr hb hd hx I2 (.cons rfl r) q2
structure Mk(K:Q7)(C f:Addr):Prop where
 makes:XG K C=true
 init:SX K (.ref C) "__init__" = some (some (.ref f))
 fn:WB K (.ref f)=true
 kp:Sk K (.ref C)=true
theorem Jh{Q:VK}(M:Mk X.K C f)(F:aH X.prog X.w X.K X.mg X.base CX k f fd ps sp)(hr:bQ (k+1) X.A)(hb:Binds X.K fd ps ds)(hd:Vals dvs ds)
  (hx:Passes CX X E) (I:Inv X Za σ H s) (r:Vals vs us)
  (h:∀x dx,H x=none->H dx=none->dx≠x->sp (.ref x :: (vs++dvs)) (upd (upd H dx (.own x)) x (.ins C dx [])) (λv H2=>v=.non/\Q (.ref x) H2) E) :
  wpAny (model X.prog X.w) X.A (call (.ref C) us) (EP X Za σ Q) X.xe s:=by
 have hq:=h (s.heap.objs.size+1) s.heap.objs.size (I.hok.fresh (S6 _)) (I.hok.fresh (Ru _)) (Ry (Tt _));have I2:=Inv.made (C:=C) I;have r2:Vals (V.ref (s.heap.objs.size+1) :: (vs++dvs)) (RN (s.heap.objs.size+1) :: (us++ds)):=.cons rfl (r.append hd);have hl:(RN (s.heap.objs.size+1) :: us++ds).length=ps.length:=by
  have e:=r2.length;rw[F.len _ _ _ _ hq]at e;exact e.symm
 refine wpAny_call (Hr (f:=f) I.kIn M.makes M.init (beq_iff_eq.mp M.fn) (V0 (F.run _ X.stack _ _ ⟨RN (s.heap.objs.size+1) :: us,[]⟩ (RN (s.heap.objs.size+1) :: (us++ds)) _ _ E (hr.make C us [])
  (I2.MN.make C us []) (hb _ (RN (s.heap.objs.size+1) :: us) I2.kIn hl) r2 hq) λr s' a!=>?_))
 cases r with
 | error e=>exact hx Za σ _ _ e s' I2 a!
 | ok fl =>
  cases fl with
  | ret u =>
   obtain⟨v,H',I3,rv,ev,q3⟩:=I2.after a!;subst ev;exact⟨rv,⟨V.ref (s.heap.objs.size+1),H',I3,rfl,q3⟩⟩
  | next=>exact Uo a!
  | brk=>exact Uo a!
  | cont=>exact Uo a!
theorem Kw(M:Mk X.K C f)(F:aH X.prog X.w X.K X.mg X.base CX k f fd ps sp)(hr:bQ (k+1) X.A)(hg:Gl X x)(hm:X.mg x=some (.ref C))(hb:Binds X.K fd ps ds)(hd:Vals dvs ds)(hx:Passes CX X E)
  (ha:PA X (e :: es) t) (ZA:(x == ("__debug__" : Str))=false:=by decide) (he:So (e :: es) X.env=(false,eval e X.env) :: So es X.env:=by rfl) (u!:(backTo pos (So es X.env)).any (·.1)=false:=by rfl) :
  PE X (.Call (.Name x p) (e :: es) [] pos) (DV C sp dvs E t):=by
 f_are;refine UY (nv I hg hm ?_ ZA);refine Vz (h₀:=X.base) I.ok.mod.kin M.kp (thn (ha pos Za s σ H _ I h) λus s1 ⟨vs,H1,I1,r,q⟩=>⟨I1.kIn,?_⟩) he u!;exact Jh M F hr hb hd hx I1 r q
end
section
variable {CX:CXT}{f:Addr}{ks:Z0}{sp:Sp}{E:XK}{p R!:Pos}{o:Expr}{tk:TA} 
structure n6(K:Q7)(fd:SO)(ps ks:Z0)(g:List Value->List Value->List Value)(gV:List V->List V->List V):Prop where
 to:∀ (s:Rg) (us ws:Y7),K.In s.heap->(g us ws).length=ps.length->WM s fd ⟨us,ks.zip ws⟩ (ps.zip (g us ws))
 rel:∀ {vs:Y6} {us:Y7} {zs:Y6} {ws:Y7},Vals vs us->Vals zs ws->Vals (gV vs zs) (g us ws)
end
structure aw(N P:Z0)(sc:Scope):Prop where
 kind:sc.kind=.function
 co:sc.isCoroutine=false
 gen:sc.isGenerator=false
 nd:N.Nodup
 pre:N.take P.length=P
 par:∀x∈P,sc.names.lookup x=some .local\/sc.names.lookup x=some .cell
 Mm:∀y∈sc.names,y.2≠.free
theorem xO{kindOf:Str->Option UZ}{x:Str}:∀ {binds:List (Str×Value)} {m:Y5},(∀v,(x,v)∉binds)->bindL kindOf binds m x=m x
 | [],_,_=>rfl
 | (n,v) :: r,m,h=>by
  unfold bindL;rw[xO λw hw=>h w (Rp _ hw)]
  split
  .have:x≠n:=by rintro rfl;exact h v Rr
   simp[this]
  .rfl
theorem xE{kindOf:Str->Option UZ}{x:Str}:∀ {binds:List (Str×Value)} {m:Y5},(∀v,(x,v)∉binds)->bindC kindOf binds m x=m x
 | [],_,_=>rfl
 | (n,v) :: r,m,h=>by
  unfold bindC;rw[xE λw hw=>h w (Rp _ hw)]
  split
  .rfl
  .have:x≠n:=by rintro rfl;exact h v Rr
   simp[this]
theorem xl{kindOf:Str->Option UZ}{x:Str}{v:Value}:∀ {P:Z0} {vs:Y7} {i:Nat} {m:Y5},P.Nodup->P[i]?=some x->vs[i]?=some v->kindOf x=some .local ->
  bindL kindOf (P.zip vs) m x=some v
 | [],_,_,_,_,h,_,_=>by simp at h
 | _ :: _,[],_,_,_,_,h,_=>by simp at h
 | p :: P,w :: vs,0,m,nd,h1,h2,hk=>by
  simp at h1 h2;subst h1;subst h2;show bindL kindOf ((p,w) :: P.zip vs) m p=_;unfold bindL;rw[xO λv hv=>(R8.mp nd).1 (XJ hv).1,if_pos hk];simp
 | p :: P,w :: vs,i+1,m,nd,h1,h2,hk=>by
  show bindL kindOf ((p,w) :: P.zip vs) m x=_;unfold bindL;exact xl (i:=i) (R8.mp nd).2 (by simpa using h1) (by simpa using h2) hk
theorem yg{kindOf:Str->Option UZ}{x:Str}{v:Value}:∀ {P:Z0} {vs:Y7} {i:Nat} {m:Y5},P.Nodup->P[i]?=some x->vs[i]?=some v->kindOf x≠some .local ->
  bindC kindOf (P.zip vs) m x=some v
 | [],_,_,_,_,h,_,_=>by simp at h
 | _ :: _,[],_,_,_,_,h,_=>by simp at h
 | p :: P,w :: vs,0,m,nd,h1,h2,hk=>by
  simp at h1 h2;subst h1;subst h2;show bindC kindOf ((p,w) :: P.zip vs) m p=_;unfold bindC;rw[xE λv hv=>(R8.mp nd).1 (XJ hv).1,if_neg hk];simp
 | p :: P,w :: vs,i+1,m,nd,h1,h2,hk=>by
  show bindC kindOf ((p,w) :: P.zip vs) m x=_;unfold bindC;exact yg (i:=i) (R8.mp nd).2 (by simpa using h1) (by simpa using h2) hk
noncomputable def start(N:Z0)(vs:Y6):St:=vs.map some++Rn (N.length - vs.length) none
noncomputable def pC(CX:CXT)(P:RB)(w:World)(K:Q7)(mg:Y5)(base:Heap)(N:Z0)(qual:Str)(scope:Scope)(f:Addr)(cd:Value)(A:Sj)(outer:List Env)(s:Rg)(H:Hp)(E:XK):Cx where
 prog:=P
 w:=w
 K:=K
 mg:=mg
 base:=base
 A:=A.deeper (envOfC qual scope s.heap.objs.size f cd)
 N:=N
 s₀:=s
 H₀:=H
 env:=envOfC qual scope s.heap.objs.size f cd
 outer:=outer
 stack:=envOfC qual scope s.heap.objs.size f cd :: outer
 ex:=[]
 calm:=true
 fn:=λ_=>true
 pn:=[]
 xe:=λe s'=>wpAny (model P w) (A.deeper (envOfC qual scope s.heap.objs.size f cd)) (leaving (envOfC qual scope s.heap.objs.size f cd) e) (λ_ S!=>CX outer H s E e S!) (λe' S!=>CX outer H s E e' S!) s'
theorem Bj{sc:Scope}{n:Nat}(h:sc.names.lookup x=some .cell):∃c,(cellsFrom n sc.names []).lookup x=some c:=by
 have q:=Xu sc.names n [] (.inl h);exact WW.mp q
theorem Hk{CX:CXT}{N:Z0}{f:Addr}{cd:Value}{s1:Rg}{E:XK} 
  (S:aw N ps scope) (hd:A.handled=none) (e0:tE P w K mg base A outer s H) (hl:vs.length=ps.length) (r:Vals vs us)
  (x:InCallC s s.heap.objs.size (bindL (envOfC qual scope s.heap.objs.size f cd).kindOf (ps.zip us) λ_=>none) (cellsFrom (s.heap.objs.size+1) scope.names []) (bindC (envOfC qual scope s.heap.objs.size f cd).kindOf (ps.zip us) λ_=>none) s1) :
  Inv (pC CX P w K mg base N qual scope f cd A outer s H E) [] (start N vs) H s1:=by
 have u!:ps.length<=N.length:=by have:=congrArg Vq S.pre;rw[RG]at this;lia
 obtain⟨h1,tk,rfl,hk⟩:=x.done;have noA:∀b:Addr,b∉(pC CX P w K mg base N qual scope f cd A outer s H E).ex:=λb z=>absurd (show b∈([]:Y9) from z) (by simp)
 refine⟨⟨e0.mod,S.kind,rfl,rfl,Ru _,λy z c h1 h2=>?_,λy hy=>?_,λy c _ h=>?_,λ_=>hd,Around.frames_deeper e0.frames,.inr ⟨rfl,rfl⟩,λb z=>absurd z (noA b),e0.bs,e0.bsz,λb _ _=>noA b,λb z=>absurd z (noA b),e0.jd,e0.frf⟩,
  rfl,e0.bare,Un.kept hk,⟨_,x.toInCall.ns,λi y v h1 h2 h3=>?_⟩,λy c h=>⟨_,x.cell y c h⟩,e0.hok.fresh (Ru _),λy c h=>?_,λp hp=>absurd (show p∈([]:Y0) from hp) (by simp),e0.hok.kept hk,?_⟩
 .exact name_of_addr x.apart (SH h1) (SH h2)
 .have hy:scope.names.lookup y=some .cell\/scope.names.lookup y=some .free:=hy;rcases hy with hy|hy
  .exact Bj hy
  .exact absurd rfl (S.Mm _ (SH hy))
 .exact TL (x.above y c (SH h))
 .have hi:i<vs.length:=by
   unfold start at h2
   by_cases hi:i<vs.length
   .exact hi
   .rw[RK (by simpa using hi)]at h2
    rw[UN]at h2
    split at h2 <;> cases h2
  have ha:vs[i]?=some v:=by
   unfold start at h2;rw[RI (by simpa using hi),Ro]at h2
   cases e:vs[i]? with
   | none=>rw[e]at h2;cases h2
   | some a=>rw[e]at h2;cases h2;rfl
  obtain⟨u,hu,rv⟩:=r.get ha;have hp:ps[i]?=some y:=by
   rw[<- S.pre,SK (by lia)];exact h1
  have ndP:ps.Nodup:=by rw[<- S.pre];exact S.nd.sublist (List.take_sublist _ _)
  refine⟨u,rv,?_⟩;rcases S.par y (Rb hp) with k|k
  .exact .inl ⟨k,xl ndP hp hu k⟩
  .obtain⟨c,e⟩:=Bj (n:=s.heap.objs.size+1) k;refine .inr ⟨.inl k,c,e,?_⟩;have q:=x.cell y c e;rw[yg ndP hp hu (by show scope.names.lookup y≠_;rw[k];decide)]at q
   exact q
 .exact e0.hok.fresh (TL (x.above y c (SH h)))
 .unfold start;show _=N.length;rw[Rt,Rc,U3];lia
theorem JV{CX:CXT}{f:Addr}{dV kV doc pm cdv ct oc:Value}{an od:Z5}
  {v!:Array (Z6)} {N ps:Z0} {sp:Sp} (lk:K.lookup f=some ⟨oc,od,.func (Sa name qual params body scope dV kV doc pm an cdv ct),v!⟩) (B!:SR K cdv qual=true) (S:aw N ps scope)
  (len:∀vs H Q E,sp vs H Q E->vs.length=ps.length)
  (Zy:∀ (A:Sj) (outer:List Env) (s:Rg) (H:Hp) (vs:Y6) (Q:VK) (E:XK),bQ k (A.deeper (envOfC qual scope s.heap.objs.size f cdv))->sp vs H Q E ->
   ∃t,PSs (pC CX P w K mg base N qual scope f cdv A outer s H E) body t/\t { nx:=λ_ H'=>Q .non H',rt:=Q } (start N vs) H) :
  aH P w K mg base CX (k+1) f (Sa name qual params body scope dV kV doc pm an cdv ct) ps sp:=by
 refine⟨len,λA outer s H args us vs Q E hr e0 hb r hsp=>?_⟩;have hl:=len _ _ _ _ hsp;have KX:K.In s.heap:=e0.mod.kin.keeps λb o e=>(e0.bs b o e).1;have lim:s.heap.NoLimit:=e0.mod.nolimit.keeps λb o e=>(e0.bs b o e).1;have w!:∀y∈ps.zip us,scope.names.lookup y.1=some .local\/(scope.names.lookup y.1=some .cell/\((cellsFrom (s.heap.objs.size+1) scope.names []).lookup y.1).isSome=true):=λ⟨n,v⟩ hy=>by
  rcases S.par n (XJ hy).1 with q|q
  .exact .inl q
  .exact .inr ⟨q,Xu _ _ _ (.inl q)⟩
 refine codeAny_call_function hr.depth (KX _ _ lk) rfl S.co S.gen rfl (PySem.W.codeRec_of KX B!) (hb _ _ _ _ ?_);refine wpAny_newFunctionEnv_cells S.kind w! λenv he s1 x=>?_;subst he;refine⟨lim.keeps x.toInCall.keep,codeAny_func ?_⟩;obtain⟨t,ht,hq⟩:=Zy A outer s H vs Q E (hr.deeper _) hsp;have I:Inv (pC CX P w K mg base N qual scope f cdv A outer s H E) [] (start N vs) H s1:=Hk S hr.hd e0 hl r x;refine TX (ht [] s1 (start N vs) H _ I hq) (λfl s' hs=>?_) λe s' hs=>hs;have fin:∀ {σ':St} {H':Hp} {v:V} {u:Value},Inv (pC CX P w K mg base N qual scope f cdv A outer s H E) [] σ' H' s'->RelV v u->Q v H'->CE outer P w H s Q u s' :=
  λ{σ' H' v u} J rv q=>⟨v,H',J.os,J.bare,J.base,J.hok,rv,q⟩
 cases fl with
 | ret u =>
  obtain⟨v,σ',H',J,rv,q⟩:=hs;exact fin J rv q
 | next =>
  obtain⟨σ',H',J,q⟩:=hs;exact fin (v:=V.non) (u:=SF) J rfl q
 | brk =>
  obtain⟨_,_,_,q⟩:=hs;exact Uo q
 | cont =>
  obtain⟨_,_,_,q⟩:=hs;exact Uo q
section
variable {p:Pos}{id T:String} 
noncomputable def tCB(r:List V->Hp->VK->Prop)(t:TA):TE:=λσ H Q=>t σ H λvs H1=>r vs H1 Q
theorem IE(hc:cz X (.builtin id) r)(hg:Gl X x)(hm:X.mg x=none)(hv:bootBuiltins x=some (.builtin id))(ha:PA X (e :: es) t)(hn:x ≠ "__name__":=by decide)(ZA:(x == ("__debug__" : Str))=false:=by decide)
  (he:So (e :: es) X.env=(false,eval e X.env) :: So es X.env:=by rfl) (u!:(backTo pos (So es X.env)).any (·.1)=false:=by rfl):PE X (.Call (.Name x p) (e :: es) [] pos) (tCB r t):=by
 f_are;refine UY (fZ I hg hm hv ?_ hn ZA);exact PyProof.Rows.callWith_builtin1 (thn (ha pos Za s σ H _ I h) λus s1 ⟨vs,H1,I1,r1,q1⟩=>hc Za s1 σ H1 vs us Q I1 r1 q1) he u!
theorem Gu(hc:cz X (.type T) r)(hg:Gl X x)(hm:X.mg x=none)(hv:bootBuiltins x=some (.type T))(ha:PA X (e :: es) t)(hn:x ≠ "__name__":=by decide)(ZA:(x == ("__debug__" : Str))=false:=by decide)
  (he:So (e :: es) X.env=(false,eval e X.env) :: So es X.env:=by rfl) (u!:(backTo pos (So es X.env)).any (·.1)=false:=by rfl):PE X (.Call (.Name x p) (e :: es) [] pos) (tCB r t):=by
 f_are;refine UY (fZ I hg hm hv ?_ hn ZA);exact SG (thn (ha pos Za s σ H _ I h) λus s1 ⟨vs,H1,I1,r1,q1⟩=>hc Za s1 σ H1 vs us Q I1 r1 q1) he u!
end
end L2
namespace HT
open PySem PyProof.Rows
section
open PySem.SeqAt
open PySem.AutoSeq1 (wpAny_loadPart')
open PySem.MeetsSeq PySem.MeetsSeq2 PySem.MeetsSeq3
end
section
variable {prog:RB}{w:World}{A:Sj}{E:Value->Rg->Prop}{s:Rg}
noncomputable def sIx(n d:Nat):Option Int->Nat
 | none=>d
 | some v=>if v<0 then (v+(n:Int)).toNat else min v.toNat n
theorem IM(n d:Nat):sIx n d none=d:=rfl
theorem LO(n d k:Nat):sIx n d (some (k:Int))=min k n:=by
 show (if (k:Int)<0 then ((k:Int)+(n:Int)).toNat else min (k:Int).toNat n)=min k n;rw[if_neg (by lia),S1]
end
end HT
namespace L2
open PySem PySem.Spec PyProof.Rows
variable {p:Addr}{f:Array Value->Array Value}{X:Cx}{e:Expr}{H:Hp}{i:Int}{Za:Y0}{es:Y8}{xs ys:Y6}{Zb its' us:Y7}{j n t':Nat}{pos:Pos}{s:Rg}{A:Sj}{σ:St}{T:String}{x:V}{r:V->Option Int->Option Int->Hp->VK->Prop}{u v:Value}{E:Value->Rg->Prop}
noncomputable abbrev TO:=St->Hp->(Option Int->Hp->Prop)->Prop
noncomputable def PO(X:Cx)(e:Option Expr)(t:TO):Prop :=
 ∀ (Za:Y0) (s:Rg) (σ:St) (H:Hp) (Q:Option Int->Hp->Prop),Inv X Za σ H s->t σ H Q ->
  wpAny (model X.prog X.w) X.A (evalPart e X.env) (λu s'=>∃o H',Inv X Za σ H' s'/\IsPart u o/\Q o H') X.xe s
noncomputable def Dd:TO:=λ_ H Q=>Q none H
noncomputable def Kj(t:TE):TO:=λσ H Q=>t σ H λx H1=>∃i,x=.int i/\Q (some i) H1
section
variable {te:TE}{lo hi:Option Expr}{tl th:TO}{p2:Pos}
theorem Lz:PO X none Dd:=by
 f_are;rw[evalPart_none];exact Rm ⟨none,H,I,.none,h⟩
theorem Kv(h:PE X e te):PO X (some e) (Kj te):=by
 intro Za s σ H Q I hw;rw[evalPart_some];refine thn (h Za s σ H _ I hw) λu s1 ⟨x,H1,I1,r1,q1⟩=>?_;obtain⟨i,rfl,q⟩:=q1;obtain⟨t,rfl⟩:=r1;exact⟨some i,H1,I1,.int i t,q⟩
noncomputable def SlR(X:Cx)(r:V->Option Int->Option Int->Hp->VK->Prop):Prop :=
 ∀ (Za:Y0) (s:Rg) (σ:St) (H:Hp) (x:V) (v vl vu:Value) (lo hi:Option Int) (sl:Addr) (Q:VK),Inv X Za σ H s->RelV x v->s.heap.IsSliceOf sl vl vu .none->IsPart vl lo->IsPart vu hi->r x lo hi H Q ->
  ∃T id,typeLookup (.type T) "__getitem__" = pure (some (.builtin id))/\s.TypeIs v T/\wpAny (model X.prog X.w) X.A (getItem v (.ref sl)) (EP X Za σ Q) X.xe s
noncomputable def tSl(r:V->Option Int->Option Int->Hp->VK->Prop)(te:TE)(tl th:TO):TE:=λσ H Q=>te σ H λx H1=>tl σ H1 λl H2=>th σ H2 λu H3=>r x l u H3 Q
theorem Jb(hr:SlR X r)(he:PE X e te)(hl:PO X lo tl)(hu:PO X hi th):PE X (.Subscript e (.Slice lo hi none p2) pos) (tSl r te tl th):=by
 f_are;refine Subscript_ (thn (he Za s σ H _ I h) λv s1 ⟨x,H1,I1,r1,q1⟩=>?_);refine wpAny_Slice (thn (hl Za s1 σ H1 _ I1 q1) λvl s2 ⟨l,H2,I2,pl,q2⟩=>thn (hu Za s2 σ H2 _ I2 q2) λvu s3 ⟨u,H3,I3,pu,q3⟩=>?_);rw[evalPart_none];refine Rm ?_;have I4:Inv X Za σ H3 { s3 with heap:=s3.heap.push { cls:=.type "slice",data:=.fields #[vl,vu,.none] } }:=I3.kept (t':=s3.toks) λb ob q=>Rl _ q;obtain⟨T,id,hT,ht,hg⟩:=hr Za { s3 with heap:=s3.heap.push { cls:=.type "slice",data:=.fields #[vl,vu,.none] } } σ H3 x v vl vu l u s3.heap.objs.size Q I4 r1 (Heap.IsSliceOf.new ..) pl pu q3;show wpAny (model X.prog X.w) X.A (subscriptTail e (.Slice lo hi none p2) v (.ref s3.heap.objs.size)) (EP X Za σ Q) X.xe { s3 with heap:=s3.heap.push { cls:=.type "slice",data:=.fields #[vl,vu,.none] } };exact tail_any (ops:=[.ref s3.heap.objs.size,v]) ht hT hg (by with_unfolding_all rfl)
noncomputable def Ak(xs:Y6)(lo hi:Option Int):Y6:=(xs.drop (HT.sIx xs.length 0 lo)).take (HT.sIx xs.length xs.length hi - HT.sIx xs.length 0 lo)
theorem B9(xs:Y6)(lo hi:Option Int):(Ak xs lo hi).length<=xs.length:=by
 unfold Ak;rw[RG,Xo];lia
end
noncomputable def ixN(n:Nat)(i:Int):Option Nat:=if 0<=i then (if i<n then some i.toNat else none) else if -(n:Int)<=i then some (i+n).toNat else none
noncomputable def atI{α:Type}(xs:List α)(i:Int):Option α:=(ixN xs.length i).bind λj=>xs[j]?
theorem C9(h:ixN n i=some j):seqIndex? i n=some j/\j<n/\-(n:Int)<=i/\i<n:=by
 unfold ixN at h
 by_cases h0:0<=i
 .rw[if_pos h0]at h
  by_cases h1:i<n
  .rw[if_pos h1]at h;have e:i.toNat=j:=RW h;exact⟨by rw[YN h0 h1,e],by lia,by lia,h1⟩
  .rw[if_neg h1]at h;cases h
 .rw[if_neg h0]at h
  by_cases h1:-(n:Int)<=i
  .rw[if_pos h1]at h;have e:(i+n).toNat=j:=RW h;exact⟨by rw[YE (by lia) h1,e],by lia,h1,by lia⟩
  .rw[if_neg h1]at h;cases h
theorem DD{α:Type}{xs:List α}{v:α}(h:atI xs i=some v):∃j,seqIndex? i xs.length=some j/\xs[j]?=some v/\j<xs.length/\-(xs.length:Int)<=i/\i<xs.length:=by
 unfold atI at h;cases e:ixN xs.length i with
 | none=>rw[e]at h;cases h
 | some j =>
  rw[e]at h;obtain⟨h1,h2,h3,h4⟩:=C9 e;exact⟨j,h1,h,h2,h3,h4⟩
theorem eS{α:Type}{xs:List α}{v:α}(h:xs[j]?=some v):atI xs (j:Int)=some v:=by
 have hj:j<xs.length:=(Q9.mp h).1;have e:ixN xs.length (j:Int)=some j:=by
  unfold ixN;rw[if_pos (by lia),if_pos (by lia)];simp
 unfold atI;rw[e];exact h
noncomputable def Dz(b:Expr):Prop:=∀o i,subscripted b false o i=operate [o,i] (getItem o i)
noncomputable def IxR(X:Cx)(r:R2):Prop :=
 ∀ (value slice:Expr) (Za:Y0) (s:Rg) (σ:St) (H:Hp) (x y:V) (v u:Value) (Q:VK),Inv X Za σ H s->RelV x v->RelV y u->r x y H Q ->
  subscripted slice false v u=operate [v,u] (getItem v u)->wpAny (model X.prog X.w) X.A (subscriptTail value slice v u) (EP X Za σ Q) X.xe s
noncomputable def MtR(X:Cx)(id:String)(r:Z8):Prop :=
 ∀ (Za:Y0) (s:Rg) (σ:St) (H:Hp) (x:V) (xs:Y6) (v:Value) (us:Y7) (Q:VK),Inv X Za σ H s->RelV x v->Vals xs us->r x xs H Q ->
  wpAny (model X.prog X.w) X.A (call (.builtin id) (v :: us)) (EP X Za σ Q) X.xe s
section
variable {a b:Expr}{ta tb:TE} 
theorem d8{r:R2}(hr:IxR X r)(ha:PE X a ta)(hb:PE X b tb)(hs:Dz b):PE X (.Subscript a b pos) (tOp r ta tb):=by
 f_are;exact Subscript_ (IQ ha hb I h λv u s2 x y H2 I2 rx ry q=>hr a b Za s2 σ H2 x y v u Q I2 rx ry q (hs _ _))
noncomputable def lF(K:Q7):R2:=λx y H Q=>∃p xs i v,x=.ref p/\y=.int i/\SqL K H p xs/\atI xs i=some v/\Q v H
noncomputable def Ia(K:Q7):R2:=λx y H Q=>∃p xs i v,x=.ref p/\y=.int i/\SqT K H p xs/\atI xs i=some v/\Q v H
theorem LM:IxR X (lF X.K):=by
 intro value slice Za s σ H x y v u Q I rx ry h hs;obtain⟨p,xs,i,z,rfl,rfl,hq,he,q⟩:=h;cases rx;obtain⟨t,rfl⟩:=ry;obtain⟨Zb,r,pl,hz⟩:=I.list hq;obtain⟨j,h1,h2,h3,h4,h5⟩:=DD he;obtain⟨w,ew,C!⟩:=r.get h2;have hl:=r.length;have hn:=uz;have fin:EP X Za σ Q w s:=⟨z,H,I,C!,q⟩
 by_cases h0:0<=i
 .have hj:i.toNat=j:=by
   rw[YN h0 h5]at h1;exact RW h1
  exact item_listR pl.isList h0 (by lia) (by rw[hj];simpa using ew) fin hs
 .have hj:(i+(Zb.toArray.size:Int)).toNat=j:=by
   rw[YE (by lia) h4]at h1
   rw[Rx,<- hl];exact RW h1
  exact Xv (x:=w) pl.isList.typeIs slot_list_getitem.lookup
   (wpAny_getItem_list_neg (Q:=λr s'=>r=w/\EP X Za σ Q r s') pl.isList (by lia) (by rw[Rx] <;> lia) (by lia) (by rw[hj];simpa using ew) ⟨rfl,fin⟩) hs
theorem Mv:IxR X (Ia X.K):=by
 intro value slice Za s σ H x y v u Q I rx ry h hs;obtain⟨p,xs,i,z,rfl,rfl,hq,he,q⟩:=h;cases rx;obtain⟨t,rfl⟩:=ry;obtain⟨Zb,r,pl,hz⟩:=I.tuple hq;obtain⟨j,h1,h2,h3,h4,h5⟩:=DD he;obtain⟨w,ew,C!⟩:=r.get h2;have hl:=r.length;have hn:=uz;have fin:EP X Za σ Q w s:=⟨z,H,I,C!,q⟩;exact Xv (x:=w) pl.typeIs slot_tuple_getitem.lookup
  (getItem_tuple (j:=j) (Q:=λr s'=>r=w/\EP X Za σ Q r s') pl (by lia) (by lia) (by rw[Rx,<- hl];exact h1) (by simpa using ew) ⟨rfl,fin⟩) hs
theorem E9(Zb:Y7)(n j:Nat)(u:Value):RY (·.setIfInBounds j u) { cls:=.type "list",data:=.seq Zb.toArray n }={ cls:=.type "list",data:=.seq (Zb.set j u).toArray n }:=by
 simp[RY]
theorem Inv.lst(I:Inv X Za σ H s)(h:H p=some (.lst xs)) :
  ∃ (Zb:Y7) (n:Nat),Vals xs Zb/\s.heap.get? p=some { cls:=.type "list",data:=.seq Zb.toArray n }/\xs.length<=RV:=by
 obtain⟨z,Zb,n,r,e⟩:=I.hok p _ h;exact⟨Zb,n,r,e,z⟩
theorem Inv.M5{n':Nat}{f:Obj->Obj}(I:Inv X Za σ H s)(h:H p=some (.lst xs))
  (ho:s.heap.get? p=some { cls:=.type "list",data:=.seq Zb.toArray n }) (hf:f { cls:=.type "list",data:=.seq Zb.toArray n }={ cls:=.type "list",data:=.seq its'.toArray n' }) (r:Vals ys its') (hz:ys.length<=RV) (t:Nat) :
  Inv X Za σ (upd H p (.lst ys)) { s with heap:=s.heap.update p f,toks:=t }:=by
 have e:(s.heap.update p f).get? p=some { cls:=.type "list",data:=.seq its'.toArray n' }:=by
  rw[S7 f ho (by rw[hf] <;> rfl),hf]
 refine I.write (x:=p) (e:=p) (by rw[h];trivial) (.inl rfl) (λb u hb q=>(SI _ _ (TR hb)).trans q) ⟨_,e⟩ ?_
 exact⟨hz,its',n',r,e⟩
noncomputable def JG:V->V->V->Hp->(Hp->Prop)->Prop:=λo i v H Q=>∃p xs k j,o=.ref p/\i=.int k/\H p=some (.lst xs)/\ixN xs.length k=some j/\Q (upd H p (.lst (xs.set j v)))
theorem set_list:Mc X JG:=by
 intro Za s σ H o i v ov iv u Q I ro ri rv h;obtain⟨p,xs,k,j,rfl,rfl,hp,hj,q⟩:=h;cases ro;obtain⟨t,rfl⟩:=ri;obtain⟨Zb,n,r,ho,hz⟩:=I.lst hp;obtain⟨h1,h2,h3,h4⟩:=C9 hj;have hl:=r.length;have hn:=uz;have I':Inv X Za σ (upd H p (.lst (xs.set j v))) { s with heap:=s.heap.update p (RY (·.setIfInBounds j u)) } :=
  I.M5 hp ho (E9 Zb n j u) (r.set rv j) (by rw[U4];exact hz) s.toks
 by_cases h0:0<=k
 .have hk:k.toNat=j:=by
   rw[YN h0 h4]at h1;exact RW h1
  exact PySem.W.ki_setAt ho h0 (by lia) (by rw[Rx,<- hl];exact h4) (by rw[hk];exact⟨_,I',q⟩)
 .have hk:(k+(Zb.toArray.size:Int)).toNat=j:=by
   rw[YE (by lia) h3]at h1
   rw[Rx,<- hl];exact RW h1
  exact PySem.W.ki_setBack ho (by lia) (by rw[Rx,<- hl];exact h3) (by lia) (by rw[hk];exact⟨_,I',q⟩)
theorem AF(lo hi:Option Int)(n:Nat):(sliceBounds lo hi none n).1=((HT.sIx n 0 lo:Nat):Int)/\(sliceBounds lo hi none n).2.1=((HT.sIx n n hi:Nat):Int)/\(sliceBounds lo hi none n).2.2=1:=by
 refine⟨?_,?_,rfl⟩
 .cases lo with
  | none=>simp[sliceBounds,HT.sIx]
  | some i =>
   simp only[sliceBounds,HT.sIx,Option.getD_none,show (1:Int) > 0 by decide,if_true]
   by_cases h:i<0
   .simp only[h,if_true] <;> lia
   .simp only[h,if_false] <;> lia
 .cases hi with
  | none=>simp[sliceBounds,HT.sIx]
  | some i =>
   simp only[sliceBounds,HT.sIx,Option.getD_none,show (1:Int) > 0 by decide,if_true]
   by_cases h:i<0
   .simp only[h,if_true] <;> lia
   .simp only[h,if_false] <;> lia
theorem yB(Zb:Y7)(lo hi:Option Int):slicePick Zb.toArray lo hi none=((Zb.drop (HT.sIx Zb.length 0 lo)).take (HT.sIx Zb.length Zb.length hi - HT.sIx Zb.length 0 lo)).toArray:=by
 obtain⟨h1,h2,h3⟩:=AF lo hi Zb.toArray.size;unfold slicePick;rw[h1,h2,h3];simp only[sliceRange_one,pick_run,Rx] <;> rfl
noncomputable def Hs(K:Q7):V->Option Int->Option Int->Hp->VK->Prop:=λx lo hi H Q=>∃a xs,x=.ref a/\SqL K H a xs/\∀p,H p=none->Q (.ref p) (upd H p (.lst (Ak xs lo hi)))
theorem Kr:SlR X (Hs X.K):=by
 intro Za s σ H x v vl vu lo hi sl Q I rx hs pl pu h;obtain⟨a,xs,rfl,hx,q⟩:=h;cases rx;obtain⟨Zb,r,ht,hz⟩:=I.list hx;have hlen:=r.length;refine⟨"list",_,slot_list_getitem.lookup,ht.isList.typeIs,?_⟩;refine wpAny_getItem_list_slice ht.isList hs pl pu .none (by simp) ?_ (by rw[Rx] <;> lia)
 rw[yB,<- hlen];refine⟨.ref s.heap.objs.size,_,I.laid (t':=s.toks) (o:=.lst (Ak xs lo hi)) (λb ob q=>Rl _ q) (Ru _) ?_,rfl,q _ (I.hok.fresh (Ru _))⟩;exact⟨RU (B9 xs lo hi) hz,_,0,(r.drop (HT.sIx xs.length 0 lo)).take (HT.sIx xs.length xs.length hi - HT.sIx xs.length 0 lo),RC _ rfl⟩
noncomputable def lh:V->Bool
 | .non=>true
 | .bl _=>true
 | .int _=>true
 | .str _=>true
 | _=>false
noncomputable def eqV:V->V->Bool
 | .non,.non=>true
 | .bl a,.bl b=>a == b
 | .bl a,.int b=>(if a then 1 else 0) == b
 | .int a,.bl b=>a == (if b then 1 else 0)
 | .int a,.int b=>a == b
 | .str a,.str b=>a == b
 | _,_=>false
theorem Bx{y:V}(ry:RelV y u)(rx:RelV x v)(fy:lh y=true)(fx:lh x=true):Yx A s u v (eqV y x):=by
 cases y with
 | non =>
  cases ry;cases x with
  | non=>cases rx;exact XM _
  | bl b=>cases rx;exact SeqAt.EqAt.none_bool b
  | int b=>obtain⟨t,rfl⟩:=rx;exact SeqAt.EqAt.none_int b t
  | str b=>obtain⟨t,rfl⟩:=rx;exact SeqAt.EqAt.none_str b t
  | _=>exact absurd (show false=true from fx) RE
 | bl a =>
  cases ry;cases x with
  | non=>cases rx;exact SeqAt.EqAt.bool_none a
  | bl b=>cases rx;exact SeqAt.EqAt.bool_bool a b
  | int b=>obtain⟨t,rfl⟩:=rx;exact SeqAt.EqAt.bool_int a b t
  | str b=>obtain⟨t,rfl⟩:=rx;exact SeqAt.EqAt.bool_str a b t
  | _=>exact absurd (show false=true from fx) RE
 | int a =>
  obtain⟨t',rfl⟩:=ry;cases x with
  | non=>cases rx;exact SeqAt.EqAt.int_none a t'
  | bl b=>cases rx;exact SeqAt.EqAt.int_bool a t' b
  | int b=>obtain⟨t,rfl⟩:=rx;exact SeqAt.EqAt.int_int a t' b t
  | str b=>obtain⟨t,rfl⟩:=rx;exact SeqAt.EqAt.int_str a t' b t
  | _=>exact absurd (show false=true from fx) RE
 | str a =>
  obtain⟨t',rfl⟩:=ry;cases x with
  | non=>cases rx;exact SeqAt.EqAt.str_none a t'
  | bl b=>cases rx;exact SeqAt.EqAt.str_bool a t' b
  | int b=>obtain⟨t,rfl⟩:=rx;exact SeqAt.EqAt.str_int a t' b t
  | str b=>obtain⟨t,rfl⟩:=rx;exact SeqAt.EqAt.str_str a t' b t
  | _=>exact absurd (show false=true from fx) RE
 | _=>exact absurd (show false=true from fy) RE
noncomputable def eqU(x:V)(u:Value):Bool:=match u with
 | .none=>eqV .non x
 | .bool b=>eqV (.bl b) x
 | .int i _=>eqV (.int i) x
 | .str z _=>eqV (.str z) x
 | _=>false
theorem Gi{y:V}(r:RelV y u)(f:lh y=true):eqU x u=eqV y x:=by
 cases y with
 | non=>cases r;rfl
 | bl b=>cases r;rfl
 | int i=>obtain⟨t,rfl⟩:=r;rfl
 | str z=>obtain⟨t,rfl⟩:=r;rfl
 | _=>exact absurd (show false=true from f) RE
theorem we{x:V}:∀ {xs:Y6} {us:Y7},Vals xs us->xs.all lh=true->us.any (eqU x)=xs.any λy=>eqV y x
 | _,_,.nil,_=>rfl
 | y :: xs,u :: us,.cons r t,f=>by
  rw[Xe,Tu]at f;rw[VA,VA,Gi r f.1,we t f.2]
theorem tR{A:Sj}{s:Rg}{x:V}{v:Value}(rx:RelV x v)(fx:lh x=true):∀ {xs:Y6} {us:Y7},Vals xs us->xs.all lh=true->∀u∈us,Yx A s u v (eqU x u)
 | _,_,.nil,_=>λu hu=>by cases hu
 | y :: xs,u :: us,.cons r t,f=>λu' hu=>by
  rw[Xe,Tu]at f;rcases RA.mp hu with rfl|hu
  .rw[Gi r f.1];exact Bx r rx f.1 fx
  .exact tR rx fx t f.2 u' hu
noncomputable def inV(x:V)(xs:Y6):Bool:=xs.any λy=>eqV y x
noncomputable def rIn(K:Q7)(neg:Bool):R2:=λx y H Q=>∃p xs,y=.ref p/\(SqL K H p xs\/SqT K H p xs)/\lh x=true/\xs.all lh=true/\Q (.bl (if neg then !inV x xs else inV x xs)) H
theorem AG:OpR X (compareOp .NotIn) (rIn X.K true):=by
 k_sub;obtain⟨p,xs,rfl,hq,fx,fs,q⟩:=h;cases ry;rcases hq with hq|hq
 .obtain⟨Zb,r,pl,hz⟩:=I.list hq;refine SeqAt.notIn_listAt (eqU x) pl.isList (λw hw=>tR rx fx r fs w (by simpa using hw)) ⟨.bl _,H,I,rfl,?_⟩
  rw[show Zb.toArray.any (eqU x)=Zb.any (eqU x) by simp,we r fs]
  exact q
 .obtain⟨Zb,r,pl,hz⟩:=I.tuple hq;refine SeqAt.notIn_tupleAt (eqU x) pl (λw hw=>tR rx fx r fs w (by simpa using hw)) ⟨.bl _,H,I,rfl,?_⟩
  rw[show Zb.toArray.any (eqU x)=Zb.any (eqU x) by simp,we r fs]
  exact q
theorem Aw:cz X (.builtin "len") (λxs H Q=>∃p ys,xs=[.ref p]/\(SqL X.K H p ys\/SqT X.K H p ys)/\Q (.int ys.length) H):=by
 k_asm;obtain⟨p,ys,rfl,hq,q⟩:=h;obtain⟨u,rfl,rx⟩:=vals1 r;cases rx;have hn:=uz;rcases hq with hq|hq
 .obtain⟨Zb,r',pl,hz⟩:=I.list hq;have hlen:=r'.length;exact Calls.call_len_list pl.isList (by simp only[Rx] <;> lia) ⟨.int ys.length,H,I.tok _,⟨s.toks+1,by rw[Rx,hlen]⟩,q⟩
 .obtain⟨Zb,r',pl,hz⟩:=I.tuple hq;have hlen:=r'.length;exact len_tuple pl (by simp only[Rx] <;> lia) ⟨.int ys.length,H,I.tok _,⟨s.toks+1,by rw[Rx,hlen]⟩,q⟩
theorem Aq:cz X (.type "list") (λxs H Q=>∃p ys,xs=[.ref p]/\(SqL X.K H p ys\/SqT X.K H p ys)/\∀l,H l=none->Q (.ref l) (upd H l (.lst ys))):=by
 k_asm;obtain⟨p,ys,rfl,hq,q⟩:=h;obtain⟨u,rfl,rx⟩:=vals1 r;cases rx;have fin:∀ (Zb:Y7),Vals ys Zb->ys.length<=RV->∀ (h':Heap) (c':Nat),(∀b o',s.heap.get? b=some o'->h'.get? b=some o') ->
   h'.get? s.heap.objs.size=some { cls:=.type "list",dict:=none,data:=.seq Zb.toArray c',slots:=#[] }->EP X Za σ Q (.ref s.heap.objs.size) { s with heap:=h' }:=λZb r' hz h' c' kp e =>
  ⟨.ref s.heap.objs.size,_,I.laid (t':=s.toks) kp (Ru _) (show bR X.prog X.w _ h' _ (.lst ys) from ⟨hz,Zb,c',r',e⟩),rfl,q _ (I.hok.fresh (Ru _))⟩
 rcases hq with hq|hq
 .obtain⟨Zb,r',pl,hz⟩:=I.list hq;have hlen:=r'.length;obtain⟨o,ho,hc,n,hd⟩:=pl.isList;exact call_list_seq p (.inl rfl) ho hc hd (λh' c' kp e=>fin Zb r' hz h' c' kp e) (by simp only[Rx] <;> lia)
 .obtain⟨Zb,r',pl,hz⟩:=I.tuple hq;have hlen:=r'.length;obtain⟨o,ho,hc,n,hd⟩:=pl;exact call_list_seq p (.inr rfl) ho hc hd (λh' c' kp e=>fin Zb r' hz h' c' kp e) (by simp only[Rx] <;> lia)
noncomputable def tyV(K:Q7)(T:String)(x:V)(H:Hp):Prop:=match x with
 | .str _=>T = "str"
 | .int _=>T = "int"
 | .ref p=>(T = "list" /\ ∃xs,SqL K H p xs)\/(T = "tuple" /\ ∃o,K.lookup p=some o/\o.cls=.type "tuple" /\ o.dict=none) \/
   (T = "dict" /\ ((∃kvs,H p=some (.dK kvs))\/∃kvs,H p=some (.dT kvs)))\/(T = "set" /\ ∃S n,H p=some (.set S n))
 | _=>False
theorem GH(I:Inv X Za σ H s)(r:RelV x v)(ty:tyV X.K T x H) :
  s.TypeIs v T/\∀a,v=.ref a->∃ob,s.heap.get? a=some ob/\ob.dict=none:=by
 cases x with
 | str z =>
  obtain⟨t,rfl⟩:=r;cases(show T = "str" from ty);exact⟨typeIs_str s z t,λ_ e=>nomatch e⟩
 | int i =>
  obtain⟨t,rfl⟩:=r;cases(show T = "int" from ty);exact⟨VQ s i t,λ_ e=>nomatch e⟩
 | ref p =>
  cases r;rcases ty with ⟨rfl,xs,hq⟩|⟨rfl,o,hk,hc,hd⟩|⟨rfl,hk⟩|⟨rfl,S,n,hk⟩
  .obtain⟨Zb,_,pl,_⟩:=I.list hq;refine⟨pl.isList.typeIs,λa e=>?_⟩;cases e;obtain⟨o,n,e,c,hd,_⟩:=pl;exact⟨o,e,hd⟩
  .refine⟨⟨o,I.kIn p o hk,hc⟩,λa e=>?_⟩;cases e;exact⟨o,I.kIn _ o hk,hd⟩
  .have z:∃o,s.heap.get? p=some o/\o.ExactDict:=by
    rcases hk with ⟨kvs,hk⟩|⟨kvs,hk⟩
    .obtain⟨_,_,_,_,o,_,_,e,ex,_⟩:=I.hok p _ hk;exact⟨o,e,ex⟩
    .obtain⟨_,_,_,_,o,_,_,e,ex,_⟩:=I.hok p _ hk;exact⟨o,e,ex⟩
   obtain⟨o,e,ex⟩:=z;refine⟨⟨o,e,ex.1⟩,λa e2=>?_⟩;cases e2;exact⟨o,e,ex.2.1⟩
  .obtain⟨o,_,_,_,e,ex,_⟩:=I.hok p _ hk;refine⟨⟨o,e,ex.1⟩,λa e2=>?_⟩;cases e2;exact⟨o,e,ex.2.1⟩
 | _=>exact Uo ty
noncomputable def Ie(K:Q7)(T:String)(r:Z8)(to:TE):TE:=λσ H Q=>to σ H λx H1=>tyV K T x H1/\r x [] H1 Q
noncomputable def tBM(K:Q7)(T:String)(r:Z8)(to:TE)(t:TA):TE:=λσ H Q=>to σ H λx H1=>tyV K T x H1/\t σ H1 λxs H2=>r x xs H2 Q
variable {o:Expr}{to:TE}{t:TA}{name:Str}{apos Zg:Pos}{id:String}{r:Z8}
theorem M6(pa:X8 T)(slot:Slot T name id)(hty:typeOf (.builtin id)=pure (.type "method_descriptor"))(hm:MtR X id r)(ho:PE X o to)
  (Zq:attributeBase o name X.env (eval o X.env)=eval o X.env:=by rfl) (Zr:(apos.endLine == Zg.line)=true:=by rfl):PE X (.Call (.Attribute o name apos) [] [] Zg) (Ie X.K T r to):=by
 f_are;refine wpAny_Call_method0_late Zq Zr (thn (ho Za s σ H _ I h) λv s1 ⟨x,H1,I1,r1,ty,q1⟩=>?_);obtain⟨h1,h2⟩:=GH I1 r1 ty;exact⟨T,id,pa,slot,hty,h1,h2,Xw rfl (PySem.evalArgs_none (hm Za s1 σ H1 x [] v [] Q I1 r1 .nil q1))⟩
theorem O7(pa:X8 T)(slot:Slot T name id)(hty:typeOf (.builtin id)=pure (.type "method_descriptor"))(hm:MtR X id r)(ho:PE X o to)(ha:PA X (e :: es) t)
  (Zq:attributeBase o name X.env (eval o X.env)=eval o X.env:=by rfl)
  (hfew:((backTo Zg (So (e :: es) X.env)).all (λx=>!x.1) && (backToKw Zg (keywordEach [] X.env)).all (λx=>x.1.isSome)
   && decide ((e :: es).length+([]:List XI).length+(if ([]:List XI).isEmpty then 0 else 1)<30))=true:=by rfl)
  (Zr:(apos.endLine == Zg.line)=true:=by rfl) (hs:So (e :: es) X.env=(false,eval e X.env) :: So es X.env:=by rfl) (i!:(backTo Zg (So es X.env)).any (·.1)=false:=by rfl) :
  PE X (.Call (.Attribute o name apos) (e :: es) [] Zg) (tBM X.K T r to t):=by
 f_are;refine wpAny_Call_method_late Zq hfew Zr rfl (thn (ho Za s σ H _ I h) λv s1 ⟨x,H1,I1,r1,ty,q1⟩=>?_);obtain⟨h1,h2⟩:=GH I1 r1 ty;refine⟨T,id,pa,slot,hty,h1,h2,?_⟩;have hA:=ha Zg Za s1 σ H1 _ I1 q1;rw[hs]at hA ⊢;refine Xw (by show (false || (backTo Zg (So es X.env)).any (·.1))=false;rw[i!] <;> rfl) (Calls.evalArgs_plain ?_)
 exact thn hA λus s2 ⟨vs,H2,I2,r2,q2⟩=>hm Za s2 σ H2 x vs v us Q I2 r1 r2 q2
/- xs.append(e),list.index on a module's tuple .. are MtR facts of 06m -/
end
noncomputable def MtM(X:Cx)(id:String)(r:Z8):Prop :=
 ∀ (Za:Y0) (s:Rg) (σ:St) (H:Hp) (x:V) (xs:Y6) (v:Value) (us:Y7) (Q:VK),Inv X Za σ H s->RelV x v->Vals xs us->r x xs H Q ->
  wpAny (model X.prog X.w) X.A (call (.builtin id) (v :: us)) (EP X Za σ Q) X.xe s
theorem Vals.one(h:Vals [x] us):∃u,us=[u]/\RelV x u:=by
 cases h with
 | cons r t=>cases t;exact⟨_,rfl,r⟩
theorem Vals.two{y:V}(h:Vals [x,y] us):∃u v,us=[u,v]/\RelV x u/\RelV y v:=by
 cases h with
 | cons r t =>
  cases t with
  | cons q e=>cases e;exact⟨_,_,rfl,r,q⟩
theorem Vals.zero:∀ {us:Y7},Vals [] us->us=[]
 | _,.nil=>rfl
theorem Vals.dropLast(h:Vals xs us):Vals xs.dropLast us.dropLast:=by
 induction h with
 | nil=>exact .nil
 | cons r t ih =>
  cases t with
  | nil=>exact .nil
  | cons q t'=>exact .cons r ih
theorem Vals.rep{xs:Y6}{us:Y7}(h:Vals xs us):∀k:Nat,Vals (Rn k xs).flatten (Rn k us).flatten
 | 0=>.nil
 | k+1=>by
  rw[SS,SS,TZ,TZ];exact Vals.append h (Vals.rep h k)
theorem DT{α:Type}(l:List α):l.eraseIdx (l.length - 1)=l.dropLast:=by
 induction l with
 | nil=>rfl
 | cons a r ih =>
  cases r with
  | nil=>rfl
  | cons b r =>
   have e:(a :: b :: r).length - 1=((b :: r).length - 1)+1:=by
    have h1:(a :: b :: r).length=r.length+2:=rfl;have h2:(b :: r).length=r.length+1:=rfl;lia
   rw[e,List.eraseIdx_cons_succ,ih]
   all_goals rfl
theorem foldl_rep(Zb:Y7):∀ (k:Nat) (acc:Y7),
  List.foldl (λx1 x2=>x1++x2) acc.toArray (Rn k Zb.toArray)=(acc++(Rn k Zb).flatten).toArray
 | 0,acc=>by simp
 | k+1,acc=>by
  have e:acc.toArray++Zb.toArray=(acc++Zb).toArray:=by simp
  have e2:(acc++Zb)++(Rn k Zb).flatten=acc++(Rn (k+1) Zb).flatten:=by
   rw[SS,TZ,Uw]
  rw[<- e2,<- foldl_rep Zb k (acc++Zb),<- e,SS,XN]
section
variable {l b:Addr}{zs:Y6}
theorem Inv.Ec(I:Inv X Za σ H s)(hH:H l=some (.lst xs))
  (e:s.heap.get? l=some { cls:=.type "list",data:=.seq Zb.toArray n }) (hf:f Zb.toArray=its'.toArray) (hv:Vals ys its') (hz:ys.length<=RV) :
  Inv X Za σ (upd H l (.lst ys)) { s with heap:=s.heap.update l (RY f),toks:=t' }:=by
 have q:=PySem.IsL.update e f;rw[hf]at q;refine I.write (x:=l) (e:=l) (by rw[hH];exact trivial) (.inl rfl) (λb' u hb hu=>(SI s.heap (RY f) (TR hb)).trans hu) ⟨_,q⟩ ?_
 exact⟨hz,its',_,hv,q⟩
theorem Inv.Me(I:Inv X Za σ H s)(hv:Vals ys Zb)(hz:ys.length<=RV) :
  Inv X Za σ (upd H s.heap.objs.size (.lst ys)) { s with heap:=s.heap.push { cls:=.type "list",data:=.seq Zb.toArray },toks:=t' } :=
 I.laid (λ_ _ q=>Rl _ q) (Ru _) ⟨hz,Zb,0,hv,RC _ rfl⟩
theorem Inv.fresh(I:Inv X Za σ H s):H s.heap.objs.size=none:=I.hok.fresh (Ru _)
theorem Inv.oe(I:Inv X Za σ H s)(hH:H l=some (.lst xs)):xs.length<=RV/\∃ (Zb:Y7) (n:Nat),Vals xs Zb/\xs.length=Zb.length/\s.heap.get? l=some { cls:=.type "list",data:=.seq Zb.toArray n }:=by
 obtain⟨z,Zb,n,r,e⟩:=I.hok l _ hH;exact⟨z,Zb,n,r,r.length,e⟩
theorem z8(h:n<=RV):Ux n=false:=by
 unfold Ux;exact decide_eq_false (by lia)
end
noncomputable def jB:V->List V->Hp->VK->Prop:=λx vs H Q=>∃l xs y,x=.ref l/\vs=[y]/\H l=some (.lst xs)/\xs.length<RV/\Q .non (upd H l (.lst (xs++[y])))
theorem xh:MtM X "list.append" jB:=by
 walk_at "129";obtain⟨l,xs,y,rfl,rfl,hH,hz,q⟩:=h;cases rx;obtain⟨u,rfl,ru⟩:=rv.one;walk_at "133";refine Vs F.slot_list_append ⟨_,e,rfl⟩ F.entry_list_append (F.args_list_append_2 _ _) (PySem.list_append l Zb.toArray n u (by rw[Rx];lia)) ⟨e,?_⟩
 refine⟨.non,_,I.Ec (its':=Zb++[u]) hH e (by simp) (r.append (.cons ru .nil)) ?_,rfl,q⟩
 rw[Rt,Uq];lia
noncomputable def Dx:V->List V->Hp->VK->Prop:=λx vs H Q=>∃l b xs zs,x=.ref l/\vs=[.ref b]/\H l=some (.lst xs)/\H b=some (.lst zs)/\xs.length+zs.length<=RV/\Q .non (upd H l (.lst (xs++zs)))
theorem xD:MtM X "list.extend" Dx:=by
 walk_at "129";obtain⟨l,b,xs,zs,rfl,rfl,hH,hB,hz,q⟩:=h;cases rx;obtain⟨u,rfl,ru⟩:=rv.one;cases ru;walk_at "133";obtain⟨z2,Ze,n2,r2,hl2,e2⟩:=I.oe hB;have hsz:Zb.toArray.size+Ze.toArray.size<=RV:=by rw[Rx,Rx];lia
 have T!:¬ (!Zb.toArray.isEmpty && Ux (Zb.toArray.size+Ze.toArray.size))=true:=by
  rw[z8 hsz,Bool.and_false];exact RE
 refine Vs F.slot_list_extend ⟨_,e,rfl⟩ F.entry_list_extend (F.args_list_extend_2 _ _)
  (AutoSeq1.list_extend_list_list_0 l Zb.toArray n b Ze.toArray n2 T! (by rw[Rx];lia) (by lia)) ⟨e,e2,?_⟩
 refine⟨.non,_,I.Ec (its':=Zb++Ze) hH e (by simp) (r.append r2) ?_,rfl,q⟩
 rw[Rt];lia
noncomputable def Qo:V->List V->Hp->VK->Prop:=λx vs H Q=>∃l xs y,x=.ref l/\vs=[]/\H l=some (.lst xs)/\xs[xs.length - 1]?=some y/\Q y (upd H l (.lst xs.dropLast))
theorem MC:MtM X "list.pop" Qo:=by
 walk_at "129";obtain⟨l,xs,y,rfl,rfl,hH,hy,q⟩:=h;cases rx;have hus:=rv.zero;subst hus;walk_at "133";obtain⟨u,hu,ru⟩:=r.get hy;have C':Zb.toArray[Zb.toArray.size - 1]?=some u:=by
  show Zb.toArray[Zb.length - 1]?=some u;rw[<- Sy,<- hl];exact hu
 refine Vs F.slot_list_pop ⟨_,e,rfl⟩ F.entry_list_pop (F.args_list_pop_1 _) (MeetsSeq.list_pop_last l Zb.toArray n u C' (by rw[Rx];lia)) ⟨e,?_⟩
 refine⟨y,_,I.Ec (its':=Zb.dropLast) hH e ?_ r.dropLast ?_,ru,q⟩
 .show Zb.toArray.eraseIdxIfInBounds (Zb.toArray.size - 1)=Zb.dropLast.toArray;rw[Rx,List.eraseIdxIfInBounds_toArray,DT]
 .rw[Vg];lia
noncomputable def Je:R2:=λx y H Q=>∃l b xs zs,x=.ref l/\y=.ref b/\H l=some (.lst xs)/\H b=some (.lst zs)/\xs.length+zs.length<=RV/\∀p,H p=none->Q (.ref p) (upd H p (.lst (xs++zs)))
theorem nC:OpR X (binaryOp .Add) Je:=by
 k_sub;obtain⟨l,b,xs,zs,rfl,rfl,hH,hB,hz,q⟩:=h;cases rx;cases ry;walk_at "133";obtain⟨z2,Ze,n2,r2,hl2,e2⟩:=I.oe hB;refine PySem.P.add_list e e2 ?_ (by rw[Rx,Rx];lia)
 have ea:Zb.toArray++Ze.toArray=(Zb++Ze).toArray:=by simp
 rw[ea];exact⟨.ref _,_,I.Me (t':=s.toks) (r.append r2) (by rw[Rt];lia),rfl,q _ I.fresh⟩
noncomputable def Qz:R2:=λx y H Q=>∃l k xs,x=.ref l/\y=.int k/\H l=some (.lst xs)/\-(2 ^ 63)<=k/\k<2 ^ 63/\xs.length * k.toNat<=RV /\
 ∀p,H p=none->Q (.ref p) (upd H p (.lst (Rn k.toNat xs).flatten))
theorem len_rep{α:Type}(xs:List α)(k:Nat):(Rn k xs).flatten.length=k * xs.length:=by
 induction k with
 | zero=>simp
 | succ k ih=>rw[SS,TZ,Rt,ih,U5,Ue]
theorem rA:OpR X (binaryOp .Mult) Qz:=by
 k_sub;obtain⟨l,k,xs,rfl,rfl,hH,h1,h2,hz,q⟩:=h;cases rx;obtain⟨t,rfl⟩:=ry;walk_at "133";have hlen:Zb.toArray.size * k.toNat<=RV:=by rw[Rx,<- hl];exact hz
 have hcap:¬ Zb.toArray.size * k.toNat > (2 ^ 63 - 1) / 8:=by
  have:(RV:Nat)<=(2 ^ 63 - 1) / 8:=by decide
  lia
 have hfit:¬ (!Builtin.List.listFitsIndex k)=true:=by
  rw[fitsIndex_both h1 h2];exact RE
 have T!:¬ Ux (Zb.toArray.size * k.toNat)=true:=by
  rw[z8 hlen];exact RE
 have hnew:List.foldl (λx1 x2=>x1++x2) #[] (Rn (if Zb.toArray.isEmpty=true then 0 else k.toNat) Zb.toArray)=(Rn k.toNat Zb).flatten.toArray:=by
  have f0:∀m:Nat,List.foldl (λx1 x2=>x1++x2) #[] (Rn m Zb.toArray)=(Rn m Zb).flatten.toArray:=λm=>by
   have:=foldl_rep Zb m [];rw[List.nil_append]at this;o_rec
  rw[f0];cases Zb with
  | nil=>simp
  | cons a r'=>rw[if_neg (by simp)]
 refine wpAny_binaryOp_repeat_ref (T:="list") (U:="int") (by decide) ⟨_,e,rfl⟩ (λs'=>VQ s' k t) noFill_list_mul F.fills_int_mul F.slot_int_rmul repeat_list F.slot_int_index.lookup
  (Vs F.slot_int_rmul (VQ s k t) F.entry_int_rmul (F.args_int_rmul_2 _ _) (int___rmul___int_list k t l Zb.toArray n)
   ⟨e,rfl,⟨_,e,rfl⟩,Vs F.slot_list_mul ⟨_,e,rfl⟩ F.entry_list_mul (F.args_list_mul_2 _ _) (AutoListH.list___mul___list_int_3 l Zb.toArray n k t hfit hcap T!) ⟨e,?_⟩⟩)
 rw[hnew];exact⟨.ref _,_,I.Me (t':=s.toks) (r.rep k.toNat) (by rw[len_rep,Ug];exact hz),rfl,q _ I.fresh⟩
section
variable {prog:RB}{w:World} 
end
end L2
namespace Att
open PySem PySem.W PySem.Calls PyProof.Rows
theorem uI{P:Params}{h:Heap}:∀ (ns:List Int) (vs:List Value),WellAll P h vs (ns.map WData.int)->V3 vs ns:=by
 intro ns
 induction ns with
 | nil =>
  intro vs w;rw[YF]at w;cases w;exact .nil
 | cons n ns ih =>
  intro vs w;rw[Si]at w;cases w with
  | cons a b =>
   cases a;exact .cons _ _ (ih _ b)
theorem GJ{l:OpenLaw}{n:Nat}(hn:l.most=some n){P:Params}{h:Heap}{args:List WData}{vals:List Value}
  (hpre:l.row.toRowW.claim.pre args=true) (hwl:WellAll P h vals args) :
  ∃a vs ns,vals=[RN a]/\args=[WData.list (ns.map WData.int)]/\h.get? a=some { cls:=.type "list",data:=.seq vs.toArray }/\V3 vs ns/\ns.length<=n:=by
 have hsh:WShape.hasAll [] args [.list .int]=true:=(pre_splitW hpre).1;have hc:l.pre.holds [] { args:=args }=true:=(pre_splitW hpre).2;obtain⟨d,r,rfl,h1,h2⟩:=hasAllW_cons hsh;obtain rfl:=hasAllW_nil h2;obtain⟨xs,rfl,h3⟩:=hasW_list h1;obtain⟨ns,rfl⟩:=items_int h3;have hlen:ns.length<=n:=by
  unfold OpenLaw.pre at hc;have h4:(WTm.not (.lt (.lit (.int n)) (.len (.arg 0)))).holds [] { args:=[.list (ns.map .int)] }=true:=by
   have h4:=(holds_andW hc).1;rw[hn]at h4;exact h4
  have h5:=condW_of h4 (w_not (w_lt w_lit (w_len_list (w_arg rfl))));rw[Rc]at h5;refine Xp λq=>?_;have q':(n:Int)<((ns.length:Nat):Int):=by lia
  first
   | (rw[decide_eq_true q']at h5;exact absurd h5 (by decide))
   | (simp at h5;lia)
 cases hwl with
 | cons w1 w2 =>
  cases w2;cases w1 with
  | list ho Zh=>exact⟨_,_,ns,rfl,rfl,ho,uI ns _ Zh,hlen⟩
theorem FK(l:OpenLaw)(args:List WData):l.row.toRowW.claim.post args (.bool true) args=true :=
 postW_of (r:=l.row.toRowW) (X:=(true == true))
  (show WShape.has [] (.bool true) .bool=true by first|rfl|decide|simp[WShape.has,WShape.arms,WShape.armsAll])
  (show (WTm.eq .res (.lit (.bool true))).value [] { args:=args,res:=some (.bool true),after:=args }=some (.bool (true == true)) from w_eq_bool (w_res rfl) w_lit) rfl
theorem Ct{l:OpenLaw}{n:Nat}{q:RB}{loose:List Str}{XP:(Str->Option Value)->Heap->Prop}{YP:World->Heap->Prop}{d:DefRec}
  (hn:l.most=some n) (ZW:d.params.defaults=[])
  (call:∀ (w:World) (s₀ s₁:Rg) (mg mb:Str->Option Value) (fa:Addr) (o:Obj) (pm cd doc:Value) (a:Addr) (vs:List Value) (ns:List Int),
   Ground q loose [] XP w s₀ mg mb s₁.heap->YP w s₁.heap ->
   s₁.heap.get? fa=some o->o.data=.func (docDef d.name d.params d.body d.scope pm cd doc)->s₁.heap.CodeRec cd d.name->mg d.name=some (.ref fa) ->
   s₁.heap.get? a=some { cls:=.type "list",data:=.seq vs.toArray }->V3 vs ns->ns.length<=n->s₁.gens=#[] ->
   codeAny (model l.prog w) callerA (.call (.ref fa) ⟨[.ref a],[]⟩) (λr s'=>r=.ok (.ret (.bool true))/\OldK s₁.heap s'.heap/\s'.os=s₁.os/\XC s'.gens) s₁) :
  WalkO q loose XP YP l.row.toRowW d [] (λf vs=>PySem.call f vs):=by
 intro w s₀ s₁ mg mb G Y fa o pm cd doc dV kV ho hd B! hD hmg hg args vals as hpre hlay hrd hwl hlo;obtain rfl:dV=.none:=Dflts.none hD ZW;obtain rfl:kV=.none:=Dflts.noKw hD;obtain⟨a,vs,ns,rfl,rfl,hobj,hints,hlen⟩:=GJ hn hpre hwl;refine enter_call (V0 (call w s₀ s₁ mg mb fa o pm cd doc a vs ns G Y ho (fd_plain hd) B! hmg hobj hints hlen hg) λr s' hq=>?_);obtain⟨rfl,h2,h3,h4⟩:=hq;exact⟨.inl ⟨.bool true,.bool true,[],rfl,λ_=>rfl,.bool true,FK l _,λ_=>⟨WX,λ_ hm=>(nomatch hm)⟩⟩,h2,h3,h4⟩
section
variable {prog:RB}{w:World}{A:Sj}{E:Value->Rg->Prop}{s:Rg}{K:Frag}
end
end Att
namespace L2
open PySem PySem.Spec PyProof.Rows
variable {XP:(Y5)->Heap->Prop}{a d p:Addr}{v!:Array (Z6)}{QB:Bool->Hp->Prop}{X:Cx}{env:Env}{base:Heap}{H H':Hp}{C:Int->Int->Prop}{Za:Y0}{fp:Y9}{es ifs:Y8}{ns:YZ}{fr:AT}{N loose own ps:Z0}{dvs xs:Y6}{QA:List V->Hp->Prop}{vs:Y7}{i k n:Nat}{QO:Option Int->Hp->Prop}{pos:Pos}{B:Prop}{K:Q7}{P:RB}{s:Rg}{scope:Scope}{A:Sj}{sp:Sp}{σ:St}{QS:Y4}{st:Stmt}{qual x:Str}{m mb mg:Y5}{g:TG}{wi:TI}{tt:TT}{v:V}{r:V->Option Int->Option Int->Hp->VK->Prop}{w:World}{CX:World->CXT}{YP:World->Heap->Prop}{R:XF->Rg->Prop}
theorem xb:∀ {vs:Y7} {ns:YZ},V3 vs ns->Vals (ns.map V.int) vs
 | _,_,.nil=>.nil
 | _,_,.cons n t h=>.cons ⟨t,rfl⟩ (xb h)
noncomputable def IA(H:Hp):Prop:=∀b,H b=none\/∃o xs,H b=some (.frz o (.lst xs))
theorem Ib{CX:CXT}{fa:Addr}{fd:SO}{s₁:Rg} 
  (KX:K.In s₁.heap) (hns:s₁.heap.Ns Se mg) (hb:s₁.heap.Ns builtinsNs mb) (hbb:∀x:Str,x ≠ "__name__" -> mb x=bootBuiltins x) (hlim:s₁.heap.NoLimit) (hg:s₁.gens=#[])
  (ha:s₁.heap.get? a=some { cls:=.type "list",data:=.seq vs.toArray }) (hi:V3 vs ns) (hl:ns.length<=RV) (hr:bQ k callerA)
  (F:∀base:Heap,K.In base->base.Ns Se mg->aH P w K mg base CX k fa fd [x] sp) (hbind:∀ (s:Rg) (u:Value),WM s fd ⟨[u],[]⟩ [(x,u)])
  (hsp:∀H:Hp,IA H->SqL K H a (ns.map V.int)->sp [.ref a] H (λv _=>v=.bl true) λ_ _ _=>False)
  (hCX:∀H e s',CX [] H s₁ (λ_ _ _=>False) e s'->False) :
  codeAny (model P w) callerA (.call (.ref fa) ⟨[.ref a],[]⟩) (λr s'=>r=.ok (.ret (.bool true))/\OldK s₁.heap s'.heap/\s'.os=s₁.os/\XC s'.gens) s₁:=by
 have rv:=xb hi;have lenV:=hi.length;have core:∀H:Hp,IA H->SqL K H a (ns.map V.int)->HOk P w H s₁.heap->(∀b,H b≠none->b=a)->(H a≠none->K.lookup a=none) ->
   codeAny (model P w) callerA (.call (.ref fa) ⟨[.ref a],[]⟩) (λr s'=>r=.ok (.ret (.bool true))/\OldK s₁.heap s'.heap/\s'.os=s₁.os/\XC s'.gens) s₁:=by
  intro H hO hS hok hA hK;have base_of:∀ {b:Addr} {o:Obj},s₁.heap.get? b=some o->H b=none->(oU s₁.heap H).get? b=some o:=λe n=>Hy e n;have noA:∀ {b:Addr} {o:Obj} {es:Array DictEntry} {ep:Nat},s₁.heap.get? b=some o->o.data=.dict es ep->H b=none:=λ{b o es ep} e d=>by
   cases q:H b with
   | none=>rfl
   | some u =>
    have e':b=a:=hA b (by rw[q];simp)
    subst e';rw[ha]at e;cases e;have d':Data.seq vs.toArray _=Data.dict es ep:=d;cases d'
  have nsK:∀ {b:Addr} {m:Y5},s₁.heap.Ns b m->(oU s₁.heap H).Ns b m:=λ{b m} ⟨o,es,ep,e,d,r⟩=>⟨o,es,ep,base_of e (noA e d),d,r⟩;have hKb:K.In (oU s₁.heap H):=λb o e=>base_of (KX b o e) (by
   cases q:H b with
   | none=>rfl
   | some u =>
    have e':b=a:=hA b (by rw[q];simp)
    subst e';rw[hK (by rw[q];simp)]at e;cases e)
  have hM:Mod K mg (oU s₁.heap H):=⟨hKb,nsK hns,⟨mb,nsK hb,hbb⟩,let ⟨mc,h1,h2⟩:=hlim;⟨mc,nsK h1,h2⟩⟩;have e0:tE P w K mg (oU s₁.heap H) callerA [] s₁ H:=⟨rfl,hM,λb o e=>LD e,U2 (G2 _ _),trivial,λb hb=>absurd (show b∈([]:Y9) from hb) (by simp),hok,.of_eq hg⟩
  refine V0 ((F _ hKb (nsK hns)).run callerA [] s₁ H ⟨[.ref a],[]⟩ [.ref a] [.ref a] _ _ hr e0 (hbind s₁ (.ref a)) (.cons rfl .nil) (hsp H hO hS)) λr s' h=>?_;cases r with
  | error e=>exact(hCX H e s' h).elim
  | ok fl =>
   cases fl with
   | next=>exact Uo h
   | brk=>exact Uo h
   | cont=>exact Uo h
   | ret u =>
    obtain⟨v,H',os,bare,un,hok',r',q⟩:=h;have q':v=.bl true:=q;subst q';obtain rfl:u=WT true:=r';refine⟨rfl,OldK.of_keep λb o e=>?_,os,bare⟩;cases q:H b with
    | none=>exact un.keep b o e q (by intro z;exact absurd (show b∈([]:Y9) from z) (by simp)) (by simp)
    | some u =>
     rcases hO b with z|⟨ob,xs,z⟩
     .rw[q]at z;cases z
     .have z2:=un.m9 b ob _ z;obtain⟨e1,_⟩:=hok b _ z;obtain⟨e2,_⟩:=hok' b _ z2;rw[e]at e1;cases e1;exact e2
 cases hk:K.lookup a with
 | some o =>
  have e:=KX a o hk;rw[ha]at e;cases e;refine core (λ_=>none) (λ_=>.inl rfl) (.inr ⟨_,vs.toArray,_,hk,rfl,rfl,rfl,by rw[Rx,lenV];exact hl,by simpa using rv⟩) (λb u z=>by have z':(none:Option HO)=some u:=z;cases z') (λb z=>absurd rfl z) λz=>absurd rfl z
 | none =>
  refine core (λb=>if b=a then some (.frz { cls:=.type "list",data:=.seq vs.toArray } (.lst (ns.map V.int))) else none) (λb=>?_) (.inl (.inr ⟨{ cls:=.type "list",data:=.seq vs.toArray },if_pos rfl⟩)) (λb u z=>?_) (λb z=>?_) λ_=>hk
  .by_cases hb:b=a
   .exact .inr ⟨_,_,if_pos hb⟩
   .exact .inl (if_neg hb)
  .by_cases hb:b=a
   .have z':=(if_pos hb).symm.trans z;cases z';subst hb;exact⟨ha,by rw[Rc];exact hl,vs,_,rv,ha⟩
   .have z':=(if_neg hb).symm.trans z;cases z'
  .by_cases hb:b=a
   .exact hb
   .exact absurd (if_neg hb) z
theorem LA{l:XO}{q:RB}{d:DefRec}{K:Params->Q7}{sp:World->Sp} 
  (hn:l.most=some n) (hn2:n<=RV) (ZW:d.params.defaults=[]) (hr:bQ k callerA)
  (hY:∀ (w:World) (h:Heap),YP w h->(K w.params).In h)
  (F:∀ (w:World) (mg:Y5) (fa:Addr) (h:Heap),(K w.params).In h->h.Ns Se mg->mg d.name=some (.ref fa) ->
   ∃fd:SO,(∀ (s:Rg) (u:Value),WM s fd ⟨[u],[]⟩ [(x,u)]) /\
    ∀base:Heap,(K w.params).In base->base.Ns Se mg->aH l.prog w (K w.params) mg base (CX w) k fa fd [x] (sp w))
  (hsp:∀ (w:World) (H:Hp) (a:Addr) (ns:YZ),ns.length<=n->IA H->SqL (K w.params) H a (ns.map V.int)->sp w [.ref a] H (λv _=>v=.bl true) λ_ _ _=>False)
  (hCX:∀ (w:World) (H:Hp) (s:Rg) (e:Value) (s':Rg),CX w [] H s (λ_ _ _=>False) e s'->False) :
  PySem.W.WalkO q loose XP YP l.row.toRowW d [] (λf vs=>PySem.call f vs):=by
 refine Att.Ct hn ZW λw s₀ s₁ mg mb fa o pm cd doc a vs ns G Y ho hd B! hmg hobj hints hlen hg=>?_;have KX:=hY w _ Y;obtain⟨fd,hb,hF⟩:=F w mg fa _ KX G.T.g hmg;exact Ib KX G.T.g G.T.b G.T.builtins G.T.nolimit hg hobj hints (RU hlen hn2) hr hF hb (λH hO hS=>hsp w H a ns hlen hO hS) λH e s'=>hCX w H s₁ e s'
noncomputable def inClass(s:Stmt)(j:Nat):Stmt:=match s with
 | .ClassDef _ _ _ body _ _ _ _ _ _ _=>body.getD j (.Pass ⟨0,0,0,0⟩)
 | _=>.Pass ⟨0,0,0,0⟩
noncomputable def bB(s:Stmt):Arguments:=match s with
 | .FunctionDef _ a _ _ _ _ _ _ _ _=>a
 | _=>{ posonlyargs:=[],args:=[],vararg:=none,kwonlyargs:=[],kw_defaults:=[],kwarg:=none,defaults:=[] }
noncomputable def bj(s:Stmt):List Stmt:=match s with
 | .FunctionDef _ _ b _ _ _ _ _ _ _=>b
 | _=>[]
noncomputable def ah(s:Stmt):Scope:=match s with
 | .FunctionDef _ _ _ _ _ _ sc _ _ _=>sc
 | _=>{ kind:=.function,names:=[],isGenerator:=false,isCoroutine:=false }
noncomputable abbrev CX0:CXT:=λ_ _ _ _ _ _=>False
noncomputable abbrev E0:XK:=λ_ _ _=>False
theorem jL :Passes CX0 X E0:=λ_ _ _ _ _ _ _ h=>h.elim
structure Fun(K:Q7)(x qual:Str)(st:Stmt)(f:Addr)(fd:SO):Prop where
 ex:∃ (oc:Value) (od:Z5) (kV doc pm:Value) (an:Z5) (cdv ct:Value) (v!:Array (Z6)),
  fd=Sa x qual (bB st) (bj st) (ah st) .none kV doc pm an cdv ct/\K.lookup f=some ⟨oc,od,.func fd,v!⟩/\SR K cdv qual=true
 kp:Sk K (.ref f)=true
theorem Fun.ok{f:Addr}{fd:SO}(F:Fun K x qual st f fd)(S:aw N ps (ah st))(len:∀vs H Q E,sp vs H Q E->vs.length=ps.length)
  (Zy:∀ (cdv:Value) (A:Sj) (outer:List Env) (s:Rg) (H:Hp) (vs:Y6) (Q:VK) (E:XK),bQ k (A.deeper (envOfC qual (ah st) s.heap.objs.size f cdv))->sp vs H Q E ->
   ∃t,PSs (pC CX0 P w K mg base N qual (ah st) f cdv A outer s H E).nox (bj st) t/\t { nx:=λ_ H'=>Q .non H',rt:=Q } (start N vs) H):aH P w K mg base CX0 (k+1) f fd ps sp:=by
 obtain⟨oc,od,kV,doc,pm,an,cdv,ct,v!,rfl,lk,B!⟩:=F.ex;refine JV lk B! S len λA outer s H vs Q E hr hsp=>?_;obtain⟨t,h,q⟩:=Zy cdv A outer s H vs Q E hr hsp;exact⟨t,h.nox,q⟩
theorem nQ{f:Addr}{oc:Value}{od an:Z5}{kV doc pm cdv ct:Value}(l:K.lookup f=some ⟨oc,od,.func (Sa x qual (bB st) (bj st) (ah st) .none kV doc pm an cdv ct),v!⟩)
  (c:SR K cdv qual=true) (k:Sk K (.ref f)=true):Fun K x qual st f (Sa x qual (bB st) (bj st) (ah st) .none kV doc pm an cdv ct):=⟨⟨oc,od,kV,doc,pm,an,cdv,ct,v!,rfl,l,c⟩,k⟩
theorem bY(hr:bQ k A):A.units+1<cLine:=Sf (Nat.add_le_add_left (by decide:1<=64) _) hr.units
theorem G6(h:n<=1000):n<RV:=Sf h (by decide)
theorem pv(i:Nat)(hN:X.N[i]?=some x:=by rfl)(hv:Vis X.env.scope x:=by first|exact V7 rfl|exact Or.inr (V7 rfl)|exact Or.inr (Or.inr rfl))(hd:(x == ("__debug__" : Str))=false:=by decide)
  (B!:(x == ("__classdict__" : Str))=false:=by decide):PE X (.Name x pos) (Eb i):=M7 hN hv hd B!
theorem de{A:Prop}(h:B):if false=true then A else B:=by
 rw[if_neg RE];exact h
theorem vX{A:Prop}(h:A):if true=true then A else B:=by
 rw[if_pos rfl];exact h
noncomputable def ag(H H':Hp):Prop:=∀b o,H b=some o->H' b=some o
theorem ag.refl(H:Hp):ag H H:=λ_ _ h=>h
theorem ag.trans{H1 H2:Hp}(a:ag H H1)(b:ag H1 H2):ag H H2:=λc o h=>b c o (a c o h)
theorem ag.free(e:ag H H'){l:Addr}(h:H' l=Option.none):H l=Option.none:=by
 cases q:H l with
 | none=>rfl
 | some o =>
  rw[e l o q]at h;cases h
theorem ag.seq(e:ag H H')(h:SqL K H a xs):SqL K H' a xs:=by
 rcases h with (h|⟨o,h⟩)|h
 .exact .inl (.inl (e _ _ h))
 .exact .inl (.inr ⟨o,e _ _ h⟩)
 .exact .inr h
noncomputable def eX(env:Env):List (Str×UZ)->List (Str×Addr)->List (Str×Addr)
 | [],acc=>acc
 | (n,k) :: r,acc=>eX env r (if k == .free then (n,(env.cells.lookup n).getD 0) :: acc else acc)
theorem zC(env:Env):∀ (l:List (Str×UZ)) (acc:List (Str×Addr)),(∀x∈l,x.2=.free->∃c,env.cells.lookup x.1=some c) ->
  (forIn l acc (λx r=>if (x.snd == Te)=true then (do let c <- cellOf env x.fst;pure (U6 ((x.fst,c) :: r))) else pure (U6 r)):Sem (List (Str×Addr)))=pure (eX env l acc)
 | [],acc,_=>rfl
 | (n,k) :: r,acc,h=>by
  rw[XQ];have ih:=zC env r;unfold eX
  by_cases hk:(k == Te)=true
  .obtain⟨c,hc⟩:=h (n,k) Rr (by simpa using hk)
   have e:cellOf env n=pure c:=by unfold cellOf;rw[hc]
   have ZH:env.cells.lookup n=some c:=hc;dsimp only;rw[if_pos hk,if_pos hk,e,ZH];exact ih _ λx hx=>h x (Rp _ hx)
  .dsimp only;rw[if_neg hk,if_neg hk];exact ih _ λx hx=>h x (Rp _ hx)
theorem C7(h:∀x∈scope.names,x.2=.free->∃c,env.cells.lookup x.1=some c):closureFor scope env=pure (eX env scope.names []):=by
 simp only[closureFor];rw[zC env scope.names [] h];rfl
theorem Az{env:Env}:∀ (l:List (Str×UZ)) (acc:List (Str×Addr)),(∀x∈l,x.2=.free->∃c,env.cells.lookup x.1=some c)->(∀x c,acc.lookup x=some c->env.cells.lookup x=some c) ->
  ∀x c,(eX env l acc).lookup x=some c->env.cells.lookup x=some c
 | [],acc,_,ha=>ha
 | (n,k) :: r,acc,h,ha=>by
  unfold eX;refine Az r _ (λx hx=>h x (Rp _ hx)) λx c e=>?_
  by_cases hk:(k == Te)=true
  .rw[if_pos hk]at e;obtain⟨c',hc⟩:=h (n,k) Rr (by simpa using hk)
   have ZH:env.cells.lookup n=some c':=hc;rw[SY]at e
   split at e
   .rename_i q
    have q':x=n:=by simpa using q
    subst q';rw[ZH]at e ⊢
    simpa using e
   .exact ha x c e
  .rw[if_neg hk]at e;exact ha x c e
theorem ye{env:Env}:∀ (l:List (Str×UZ)) (acc:List (Str×Addr)) (x:Str),(∃c,acc.lookup x=some c)->∃c,(eX env l acc).lookup x=some c
 | [],_,_,h=>h
 | (n,k) :: r,acc,x,h=>by
  unfold eX;refine ye r _ x ?_
  by_cases hk:(k == Te)=true
  .rw[if_pos hk,SY]
   split
   .exact⟨_,rfl⟩
   .exact h
  .rw[if_neg hk];exact h
theorem sU{env:Env}:∀ (l:List (Str×UZ)) (acc:List (Str×Addr)) (x:Str),(x,Te)∈l->∃c,(eX env l acc).lookup x=some c
 | (n,k) :: r,acc,x,h=>by
  unfold eX;rcases RA.mp h with e|h
  .cases e;refine ye r _ _ ?_;rw[if_pos (by rfl),SY]
   simp
  .exact sU r _ x h
theorem qz{env:Env}:∀ {names:List (Str×UZ)} {x:Str},names.lookup x=some .free ->
  (names.map λ(n,k)=>if (k == Te && env.scope.kind == .function && env.kindOf n == some .cell) then (n,Tf) else (n,k)).lookup x=some .cell \/
  (names.map λ(n,k)=>if (k == Te && env.scope.kind == .function && env.kindOf n == some .cell) then (n,Tf) else (n,k)).lookup x=some .free
 | [],_,h=>by simp at h
 | (n,k) :: r,x,h=>by
  rw[Si]
  by_cases hx:(x == n)=true
  .rw[SY,hx]at h;dsimp only at h ⊢;cases h
   split
   .rw[SY,hx];exact .inl rfl
   .rw[SY,hx];exact .inr rfl
  .have ZO:(x == n)=false:=by simpa using hx
   rw[SY,ZO]at h;have ih:=qz (env:=env) (names:=r) (x:=x) h;dsimp only at h ⊢
   split
   .rw[SY,ZO];exact ih
   .rw[SY,ZO];exact ih
theorem pG{env:Env}:∀ {names:List (Str×UZ)} {x:Str},
  ((names.map λ(n,k)=>if (k == Te && env.scope.kind == .function && env.kindOf n == some .cell) then (n,Tf) else (n,k)).lookup x=some .cell \/
  (names.map λ(n,k)=>if (k == Te && env.scope.kind == .function && env.kindOf n == some .cell) then (n,Tf) else (n,k)).lookup x=some .free) ->
  (x,Te)∈names\/(x,Tf)∈names
 | [],_,h=>by simp at h
 | (n,k) :: r,x,h=>by
  rw[Si]at h
  by_cases hx:(x == n)=true
  .have q':x=n:=by simpa using hx
   dsimp only at h
   split at h
   .rename_i hc
    have:k=Te:=by
     cases k <;> simp_all
    subst this q';exact .inl Rr
   .rw[SY,hx]at h;dsimp only at h;subst q';rcases h with h|h
    .cases h;exact .inr Rr
    .cases h;exact .inl Rr
  .have ZO:(x == n)=false:=by simpa using hx
   have ih:=pG (env:=env) (names:=r) (x:=x);dsimp only at h
   split at h
   .rw[SY,ZO]at h;exact(ih h).elim (λz=>.inl (Rp _ z)) λz=>.inr (Rp _ z)
   .rw[SY,ZO]at h;exact(ih h).elim (λz=>.inl (Rp _ z)) λz=>.inr (Rp _ z)
noncomputable def oI(own:Z0)(fr:AT)(N:Z0):Z0:=own++fr.map λi=>(N[i]?).getD ("" : Str)
noncomputable def cH(own:Z0)(fr:AT)(σ:St):St:=own.map (λ_=>none)++fr.map λi=>(σ[i]?).join
section
variable {H₂:Hp}{s₂:Rg}{C D:Addr}{h₁:Heap}{tk:Nat}
theorem DY(h:(cH own fr σ)[i]?=some (some v)):∃j,own.length<=i/\fr[i - own.length]?=some j/\σ[j]?=some (some v):=by
 unfold cH at h
 by_cases hi:i<own.length
 .rw[RI (by simpa using hi),Ro]at h
  cases e:own[i]? with
  | none=>rw[e]at h;cases h
  | some a=>rw[e]at h;cases h
 .rw[RK (by simpa using hi),Ro,Rc]at h
  cases e:fr[i - own.length]? with
  | none=>rw[e]at h;cases h
  | some j =>
   rw[e]at h;refine⟨j,by lia,rfl,?_⟩
   have h':(σ[j]?).join=some v:=by simpa using h
   cases q:σ[j]? with
   | none=>rw[q]at h';cases h'
   | some o=>rw[q]at h';exact congrArg some h'
end
noncomputable def PIf(X:Cx)(ifs:Y8)(t:TT):Prop :=
 ∀ (Za:Y0) (s:Rg) (σ:St) (H:Hp) (Q:Bool->Hp->Prop),Inv X Za σ H s->t σ H Q ->
  wpAny (model X.prog X.w) X.A (forIn ifs true λc r=>if r=true then (do let ok <- isTrue c X.env (eval c X.env);pure (U6 ok)) else pure (U6 r)) (TP X Za σ Q) X.xe s
noncomputable def IS:TT:=λ_ H Q=>Q true H
theorem bz :PIf X [] IS:=λ_ _ _ H _ I h=>wpAny_tests_nil ⟨H,I,h⟩
theorem LX{c:Expr}{t:TT}(h:PT X c t):PIf X [c] t:=λZa s σ H Q I hw=>wpAny_tests_one (h Za s σ H Q I hw)
section
variable {prog:RB} 
theorem F5{elt target iter:Expr}{it acc:Value}(J:Nat->Rg->Prop)
  (turn:∀n s,J n s->wpAny (model prog w) A (pyNext it) (λr s₁=>match r with
   | none=>R (.ok .next) s₁
   | some v=>wpAny (model prog w) A (letOwnedTupleGo target it v) (λ_ s₂=>wpAny (model prog w) A (assign target env v) (λ_ s₃ =>
     wpAny (model prog w) A (forIn ifs true λc r=>if r=true then (do let ok <- isTrue c env (eval c env);pure (U6 ok)) else pure (U6 r)) (λok s₄ =>
      if ok=true then wpAny (model prog w) A (eval elt env) (λx s₅=>wpAny (model prog w) A (call (.builtin "list.append") [acc,x]) (λ_ s₆=>∃m,m<n/\J m s₆) (λ_ _=>False) s₅) (λ_ _=>False) s₄
      else ∃m,m<n/\J m s₄) (λ_ _=>False) s₃) (λ_ _=>False) s₂) (λ_ _=>False) s₁) (λ_ _=>False) s)
  (n:Nat) (h:J n s):codeAny (model prog w) A (.compLoop (.ListComp elt [⟨target,iter,ifs,0⟩] scope pos) 0 it acc env) R s:=by
 refine codeAny_loop rfl J (λn s hJ=>?_) n h;show wpAny _ A ((compTurn (.ListComp elt [⟨target,iter,ifs,0⟩] scope pos) 0 it acc env).onRaise (λx=>(do noteFrame x env;theTreesLotGoes x))) _ _ s;have nf:∀ {x:Value} {s':Rg},False->notedBy (model prog w) A env (λe s'=>R (.error e) s') x s':=λz=>z.elim;refine wpAny_noted ?_;rw[compTurn_list];refine Ra (Wa (Ra (TX (turn n s hJ) (λr s₁ h₁=>?_) λ_ _ z=>nf z)));cases r with
 | none=>exact Rm h₁
 | some v =>
  refine Ra (TX h₁ (λ_ s₂ h₂=>?_) λ_ _ z=>nf z);refine Ra (TX h₂ (λ_ s₃ h₃=>?_) λ_ _ z=>nf z);refine Ra (TX h₃ (λok s₄ h₄=>?_) λ_ _ z=>nf z);cases ok with
  | false=>exact Rm ⟨rfl,h₄⟩
  | true =>
   refine Ra (Ra (TX h₄ (λx s₅ h₅=>?_) λ_ _ z=>nf z));exact Ra (TX h₅ (λ_ s₆ h₆=>Rm (Rm ⟨rfl,h₆⟩)) λ_ _ z=>nf z)
end
noncomputable def zq(own:Z0)(fr:AT)(wi:TI)(g:TG)(tt:TT)(te:TE):TE:=λσ H Q=>wi σ H λJ H1=>∀D,H1 D=none ->
 ∃W:Nat->Nat->St->Hp->Prop,(∃m,W 0 m (cH own fr σ) (upd H1 D (.lst [])))/\∀i m σ' H',W i m σ' H' ->
  (J.stop i H'/\Q (.ref D) H')\/(J.go i H'/\∀x H2,J.yld i H' x H2->g x σ' H2 λσ2 H3=>tt σ2 H3 λok H4 =>
   if ok=true then te σ2 H4 λy H5=>∃ys,H5 D=some (.lst ys)/\ys.length<RV/\∃m',m' < m/\W (i+1) m' σ2 (upd H5 D (.lst (ys++[y]))) else ∃m',m' < m/\W (i+1) m' σ2 H4)
section
variable {elt tg iter:Expr}{te:TE}
end
class Rep(α:Type) where
 is:Q7->Hp->V->α->Prop
 mono:∀ {K:Q7} {H H':Hp} {v:V} {a:α},ag H H'->is K H v a->is K H' v a
noncomputable instance:Rep Int:=⟨λ_ _ v a=>v=.int a,λ_ h=>h⟩
noncomputable instance:Rep Nat:=⟨λ_ _ v a=>v=.int a,λ_ h=>h⟩
noncomputable instance:Rep Bool:=⟨λ_ _ v a=>v=.bl a,λ_ h=>h⟩
theorem Paired.get{α β:Type}{F:α->β->Prop}:∀ {l₁:List α} {l₂:List β} {i:Nat} {b:β},Sz F l₁ l₂->l₂[i]?=some b->∃a,l₁[i]?=some a/\F a b
 | _,_,_,_,.nil,e=>by simp at e
 | _,_,0,_,.cons r _,e=>by simp at e;subst e;exact⟨_,rfl,r⟩
 | _,_,i+1,b,.cons _ t,e=>by
  obtain⟨a,h1,h2⟩:=Paired.get (i:=i) (b:=b) t (by simpa using e)
  exact⟨a,by simpa using h1,h2⟩
theorem Paired.getL{α β:Type}{F:α->β->Prop}:∀ {l₁:List α} {l₂:List β} {i:Nat} {a:α},Sz F l₁ l₂->l₁[i]?=some a->∃b,l₂[i]?=some b/\F a b
 | _,_,_,_,.nil,e=>by simp at e
 | _,_,0,_,.cons r _,e=>by simp at e;subst e;exact⟨_,rfl,r⟩
 | _,_,i+1,b,.cons _ t,e=>by
  obtain⟨a,h1,h2⟩:=Paired.getL (i:=i) (a:=b) t (by simpa using e)
  exact⟨a,by simpa using h1,h2⟩
theorem Paired.app{α β:Type}{F:α->β->Prop}:∀ {l₁ l₃:List α} {l₂ l₄:List β},Sz F l₁ l₂->Sz F l₃ l₄->Sz F (l₁++l₃) (l₂++l₄)
 | _,_,_,_,.nil,s=>s
 | _,_,_,_,.cons r t,s=>.cons r (Paired.app t s)
theorem Paired.ER{α β:Type}{F:α->β->Prop}:∀ {l₁:List α} {l₂:List β} (n:Nat),Sz F l₁ l₂->Sz F (l₁.take n) (l₂.take n)
 | _,_,0,_=>.nil
 | _,_,_+1,.nil=>.nil
 | _,_,n+1,.cons r t=>.cons r (Paired.ER n t)
theorem Paired.E3{α β:Type}{F:α->β->Prop}:∀ {l₁:List α} {l₂:List β} (n:Nat),Sz F l₁ l₂->Sz F (l₁.drop n) (l₂.drop n)
 | _,_,0,r=>r
 | _,_,_+1,.nil=>.nil
 | _,_,n+1,.cons _ t=>Paired.E3 n t
theorem Paired.of_map{α β γ:Type}{F:α->β->Prop}{f:γ->α}{g:γ->β}(h:∀c,F (f c) (g c)):∀l:List γ,Sz F (l.map f) (l.map g)
 | []=>.nil
 | c :: r=>.cons (h c) (Paired.of_map h r)
noncomputable instance {α:Type}[Rep α]:Rep (List α) :=
 ⟨λK H v l=>∃p xs,v=.ref p/\SqL K H p xs/\Sz (Rep.is K H) xs l,λe ⟨p,xs,h1,h2,h3⟩=>⟨p,xs,h1,e.seq h2,Paired.b5 h3 λ_ _ q=>Rep.mono e q⟩⟩
theorem ag.tup(e:ag H H')(h:SqT K H a xs):SqT K H' a xs:=by
 rcases h with (h|⟨o,h⟩)|h
 .exact .inl (.inl (e _ _ h))
 .exact .inl (.inr ⟨o,e _ _ h⟩)
 .exact .inr h
noncomputable instance {α β:Type}[Rep α][Rep β]:Rep (α×β) :=
 ⟨λK H v l=>∃p x y,v=.ref p/\SqT K H p [x,y]/\Rep.is K H x l.1/\Rep.is K H y l.2,λe ⟨p,x,y,h1,h2,h3,h4⟩=>⟨p,x,y,h1,e.tup h2,Rep.mono e h3,Rep.mono e h4⟩⟩
noncomputable abbrev At{α:Type}[Rep α](K:Q7)(H:Hp)(v:V)(a:α):Prop:=Rep.is K H v a
theorem Ku(h:SqL K H p (ns.map V.int)):At K H (.ref p) ns:=⟨p,_,rfl,h,by
 have q:=Paired.of_map (F:=λ(v:V) (a:Int)=>v=.int a) (f:=V.int) (g:=id) (λ_=>rfl) ns;rw[Wg]at q;exact q⟩
theorem lz{ns:AT}(h:At K H v ns):∃p,v=.ref p/\SqL K H p (ns.map λ(n:Nat)=>V.int n):=by
 k_mem;refine⟨p,rfl,?_⟩;have e:xs=ns.map λ(n:Nat)=>V.int n:=by
  clear hS
  induction hP with
  | nil=>rfl
  | cons r _ ih=>rw[Si,<- ih];exact congrArg (· :: _) r
 rw[<- e];exact hS
theorem At.item{α:Type}[Rep α]{l:List α}{a:α}(h:At K H v l)(e:l[i]?=some a):∃p xs x,v=.ref p/\SqL K H p xs/\atI xs (i:Int)=some x/\At K H x a:=by
 k_mem;obtain⟨x,hx,r⟩:=Paired.get hP e;exact⟨p,xs,x,rfl,hS,eS hx,r⟩
theorem At.len{α:Type}[Rep α]{l:List α}(h:At K H v l):∃p xs,v=.ref p/\SqL K H p xs/\xs.length=l.length:=by
 k_mem;exact⟨p,xs,rfl,hS,hP.length⟩
class aJ(α:Type)[Rep α][DecidableEq α] where
 depth:Nat
 inj:∀ {X:Cx} {Za:Y0} {σ:St} {H:Hp} {s:Rg} {x:V} {a b:α},Inv X Za σ H s->At X.K H x a->At X.K H x b->a=b
 eq:∀ {X:Cx} {Za:Y0} {σ:St} {H:Hp} {s:Rg} {A:Sj} {x y:V} {u v:Value} {a b:α},Inv X Za σ H s->At X.K H x a->At X.K H y b->RelV x u->RelV y v->A.units+depth<cLine ->
  Yx A s u v (decide (a=b))
noncomputable instance:aJ Int where
 depth:=0
 inj:=λ_ h h'=>by cases h;cases h';rfl
 eq:=λ{X Za σ H s A x y u v a b} _ hx hy ru rv _=>by
  cases hx;cases hy;have q:=Bx (A:=A) (s:=s) ru rv rfl rfl;have e:eqV (.int a) (.int b)=decide (a=b):=rfl;rw[e]at q;exact q
noncomputable instance:aJ Nat where
 depth:=0
 inj:=λ_ h h'=>by
  have q:=(show _=V.int _ from h).symm.trans (show _=V.int _ from h');injection q with q;exact Yv q
 eq:=λ{X Za σ H s A x y u v a b} _ hx hy ru rv _=>by
  cases hx;cases hy;have q:=Bx (A:=A) (s:=s) ru rv rfl rfl;have e:eqV (.int a) (.int b)=decide (a=b):=by
   show decide ((a:Int)=(b:Int))=decide (a=b);exact decide_eq_decide.mpr Int.ofNat_inj
  rw[e]at q;exact q
theorem tD(h:A.units+(n+1)<cLine):A.in1.units+n<cLine:=by
 show A.units+1+n<cLine;lia
theorem o9{X:Cx}{Za:Y0}{σ:St}{H:Hp}{s:Rg}{α:Type}[Rep α][DecidableEq α][aJ α](I:Inv X Za σ H s) :
  ∀ {xs:Y6} {as bs:List α},Sz (Rep.is X.K H) xs as->Sz (Rep.is X.K H) xs bs->as=bs
 | _,_,_,.nil,.nil=>rfl
 | _,_,_,.cons r t,.cons r' t'=>by rw[aJ.inj I r r',o9 I t t']
theorem range_all{α:Type}[DecidableEq α]:∀ (as bs:List α),as.length=bs.length->((Rh as.length).all λj=>decide (as[j]?=bs[j]?))=decide (as=bs):=by
 intro as bs hl;rw[Tp];simp only[RS,Ri,decide_eq_true_eq];constructor
 .intro h;refine SV λi=>?_
  by_cases hi:i<as.length
  .exact h i hi
  .rw[RF (by lia),RF (by lia)]
 .intro h i _;rw[h]
theorem wK{α:Type}[Rep α][DecidableEq α][aJ α]{q:Addr}{ys:Y6}{as bs:List α}
  (I:Inv X Za σ H s) (h1:SqL X.K H p xs) (r1:Sz (Rep.is X.K H) xs as) (h2:SqL X.K H q ys) (r2:Sz (Rep.is X.K H) ys bs) (hu:A.units+(aJ.depth α+1)<cLine) (hl:as.length=bs.length) :
  ∃Zb Ze:Y7,s.heap.IsList p Zb.toArray/\s.heap.IsList q Ze.toArray/\Zb.toArray.size=Ze.toArray.size/\Zb.toArray.size=as.length /\
   ∀j (h1:j<Zb.toArray.size) (h2:j<Ze.toArray.size),Yx A.in1 s Zb.toArray[j] Ze.toArray[j] (decide (as[j]?=bs[j]?)):=by
 walk_at "122";refine⟨Zb,Ze,p1.isList,p2.isList,by simp;lia,by simp;lia,λj h1 h2=>?_⟩
 have h1':j<Zb.length:=by simpa using h1
 have h2':j<Ze.length:=by simpa using h2
 have hx:j<xs.length:=by lia
 have hy:j<ys.length:=by lia
 obtain⟨u,hu1,ru⟩:=v1.get (i:=j) (x:=xs[j]) (by simp[hx])
 obtain⟨v,hv1,rv⟩:=v2.get (i:=j) (x:=ys[j]) (by simp[hy])
 obtain⟨a,ha,ra⟩:=Paired.getL r1 (i:=j) (a:=xs[j]) (by simp[hx])
 obtain⟨b,hb,rb⟩:=Paired.getL r2 (i:=j) (a:=ys[j]) (by simp[hy])
 have eu:Zb.toArray[j]=u:=by
  have:Zb[j]?=some Zb[j]:=by simp[h1']
  rw[this]at hu1
  simpa using hu1
 have ev:Ze.toArray[j]=v:=by
  have:Ze[j]?=some Ze[j]:=by simp[h2']
  rw[this]at hv1
  simpa using hv1
 rw[eu,ev,ha,hb];have z:=aJ.eq (A:=A.in1) I ra rb ru rv (tD hu);have e:decide (some a=some b)=decide (a=b):=by simp
 rw[e];exact z
noncomputable instance {α:Type}[Rep α][DecidableEq α][aJ α]:aJ (List α) where
 depth:=aJ.depth α+1
 inj:=λ{X Za σ H s x a b} I h h'=>by
  obtain⟨p,xs,e,h1,r1⟩:=h;obtain⟨q,ys,e',h2,r2⟩:=h';subst e;cases e';have:=I.oM h1 h2;subst this;exact o9 I r1 r2
 eq:=λ{X Za σ H s A x y u v a b} I hx hy ru rv hu=>by
  walk_at "125"
  by_cases hpq:p=q
  .subst hpq;have:=I.oM h1 h2;subst this;have:=o9 I r1 r2;subst this;rw[decide_eq_true rfl];exact XM _
  .refine SeqAt.EqAt.of_refs hpq ?_;have hu0:A.units<cLine:=by lia
   by_cases hl:a.length=b.length
   .obtain⟨Zb,Ze,l1,l2,e1,e2,he⟩:=wK (A:=A) I h1 r1 h2 r2 hu hl;have z:=SeqAt.RcAt.lists l1 l2 e1 hu0 he;rw[e2,range_all a b hl]at z;exact z
   .walk_at "122";rw[decide_eq_false (λz=>hl (by rw[z]))]
    exact SeqAt.RcAt.lists_lengths p1.isList p2.isList (by simp;lia) hu0
theorem Mp(α:Type)[Rep α][DecidableEq α][aJ α](hu:X.A.units+64<cLine)(hd:aJ.depth α<=32:=by decide) :
  OpR X (compareOp .Eq) (λx y H Q=>∃as bs:List α,At X.K H x as/\At X.K H y bs/\Q (.bl (decide (as=bs))) H):=by
 intro Za s σ H x y u v Q I ru rv h;obtain⟨as,bs,⟨p,xs,e,h1,r1⟩,⟨q,ys,e',h2,r2⟩,hq⟩:=h;k_all;have hu0:X.A.units<cLine:=by lia
 by_cases hl:as.length=bs.length
 .obtain⟨Zb,Ze,l1,l2,e1,e2,he⟩:=wK (A:=X.A) I h1 r1 h2 r2 (by lia) hl
  refine SeqAt.eq_listAt l1 l2 e1 hu0 he ?_;rw[e2,range_all as bs hl];exact⟨.bl _,H,I,rfl,hq⟩
 .walk_at "122";rw[decide_eq_false (λz=>hl (by rw[z]))]at hq
  exact SeqAt.eq_list_lengthsAt p1.isList p2.isList (by simp;lia) hu0 ⟨.bl false,H,I,rfl,hq⟩
theorem MK(α:Type)[Rep α][DecidableEq α][aJ α](hu:X.A.units+64<cLine)(hd:aJ.depth α<=32:=by decide) :
  OpR X (compareOp .NotEq) (λx y H Q=>∃as bs:List α,At X.K H x as/\At X.K H y bs/\Q (.bl (!decide (as=bs))) H):=by
 intro Za s σ H x y u v Q I ru rv h;obtain⟨as,bs,⟨p,xs,e,h1,r1⟩,⟨q,ys,e',h2,r2⟩,hq⟩:=h;k_all;have hu0:X.A.units<cLine:=by lia
 have fin:∀k:Bool,Q (.bl k) H->WT k≠Yb/\EP X Za σ Q (.bool k) s:=λk z=>⟨(λz=>nomatch z),.bl k,H,I,rfl,z⟩
 by_cases hl:as.length=bs.length
 .obtain⟨Zb,Ze,l1,l2,e1,e2,he⟩:=wK (A:=X.A) I h1 r1 h2 r2 (by lia) hl
  obtain⟨⟨cls,dd,data,sl⟩,ho,hc,n,dh⟩:=id l1;obtain⟨⟨cls2,dd2,data2,J!⟩,J',N',n2,hd2⟩:=id l2;simp only at hc dh N' hd2;subst hc dh N' hd2;have a!:=fin _ hq;rw[<- range_all as bs hl,<- e2]at a!;exact VJ (op:=.NotEq) ⟨_,ho,rfl⟩ ⟨_,J',rfl⟩ F.slot_list_ne F.entry_list_ne (F.args_list_ne_2 _ _) (SeqAt.list_neAt p q _ _ n n2 dd dd2 sl J! e1 _) ⟨ho,J',he,a!⟩ hu0
 .walk_at "122";rw[decide_eq_false (λz=>hl (by rw[z]))]at hq
  obtain⟨⟨cls,dd,data,sl⟩,ho,hc,n,dh⟩:=id p1.isList;obtain⟨⟨cls2,dd2,data2,J!⟩,J',N',n2,hd2⟩:=id p2.isList;simp only at hc dh N' hd2;subst hc dh N' hd2;exact VJ (op:=.NotEq) ⟨_,ho,rfl⟩ ⟨_,J',rfl⟩ F.slot_list_ne F.entry_list_ne (F.args_list_ne_2 _ _) (SeqAt.list_ne_lengthsAt p q _ _ n n2 dd dd2 sl J! (by simp;lia)) ⟨ho,J',fin _ hq⟩ hu0
theorem Cp :cz X (.builtin "isinstance") (λxs H Q=>∃x n t b,xs=[x,.ty n]/\fU X.K H x t/\UT X.K t (.type n)=some b/\Q (.bl b) H):=by
 k_asm;obtain⟨x,n,t,b,rfl,ty,e,q⟩:=h;obtain⟨u,v,rfl,ru,rv⟩:=r.two;cases(show v=X6 n from rv);exact xF I ru ty e λtk=>⟨.bl b,H,I.tok tk,rfl,q⟩
structure Df(K:Q7)(mg:Y5)(x:Str)(st:Stmt)(ps:Z0) where
 f:Addr
 fd:SO
 fn:Fun K x x st f fd
 bd:Binds K fd ps []
 nm:mg x=some (.ref f)
section
variable {p:Pos}{e:Expr}{t:TA}
theorem OQ(d:Df X.K X.mg x st ps)(G:aH X.prog X.w X.K X.mg X.base CX0 k d.f d.fd ps sp)(hr:bQ k X.A)(hg:Gl X x)(ha:PA X (e :: es) t)(ZA:(x == ("__debug__" : Str))=false:=by decide)
  (he:So (e :: es) X.env=(false,eval e X.env) :: So es X.env:=by rfl) (u!:(backTo pos (So es X.env)).any (·.1)=false:=by rfl) :
  PE X (.Call (.Name x p) (e :: es) [] pos) (kN sp [] E0 t):=wF G hr hg d.nm d.fn.kp d.bd .nil jL ha ZA he u!
end
theorem Df.ok(d:Df K mg x st ps)(S:aw N ps (ah st))(len:∀vs H Q E,sp vs H Q E->vs.length=ps.length)
  (Zy:∀ (cdv:Value) (A:Sj) (outer:List Env) (s:Rg) (H:Hp) (vs:Y6) (Q:VK) (E:XK),bQ k (A.deeper (envOfC x (ah st) s.heap.objs.size d.f cdv))->sp vs H Q E ->
   ∃t,PSs (pC CX0 P w K mg base N x (ah st) d.f cdv A outer s H E).nox (bj st) t/\t { nx:=λ_ H'=>Q .non H',rt:=Q } (start N vs) H):aH P w K mg base CX0 (k+1) d.f d.fd ps sp :=
 d.fn.ok S len Zy
theorem ar(h:H p=none)(o:HO):ag H (upd H p o):=λb u q=>by rw[ak (av q h)];exact q
theorem small(h:n<=1000):n<=RV:=TL (G6 h)
theorem sB:0<=RV:=small (by show 0<=1000;decide)
theorem sK:1<=RV:=small (by show 1<=1000;decide)
theorem Sc:2<=RV:=small (by show 2<=1000;decide)
noncomputable def isB(x:V)(H:Hp)(QB:Bool->Hp->Prop):Prop:=∃k,x=.bl k/\QB k H
noncomputable abbrev isF(K:Q7)(f:Str)(x:V)(H1:Hp)(Q:VK):Prop:=∃a C dx fs v,x=.ref a/\H1 a=some (.ins C dx fs)/\Cls K C/\bE K C f/\fs.lookup f=some v/\Q v H1
noncomputable def isI(x:V)(H:Hp)(QO:Option Int->Hp->Prop):Prop:=∃i,x=.int i/\QO (some i) H
noncomputable def eI(g:TG)(t:TS)(D:Ends)(σ:St):It->Hp->Prop:=λJ H1=>∃W:Nat->Nat->St->Hp->Prop,(∃m,W 0 m σ H1)/\∀i m σ H,W i m σ H ->
  (J.stop i H/\D.nx σ H)\/(J.go i H/\∃N:St->Hp->Prop,(∀σ' H',N σ' H'->∃m',m' < m/\W (i+1) m' σ' H')/\∀x H',J.yld i H x H'->g x σ H' λσ2 H2=>t { D with nx:=N,ct:=N,bk:=D.nx } σ2 H2)
noncomputable def fK(own:Z0)(fr:AT)(g:TG)(tt:TT)(ta:TE)(σ:St)(Q:VK):It->Hp->Prop:=λJ H1=>∀d,H1 d=none->∃W:Nat->Nat->St->Hp->Prop,(∃m,W 0 m (cH own fr σ) (upd H1 d (.lst [])))/\∀i m σ' H',W i m σ' H' ->
  (J.stop i H'/\Q (.ref d) H')\/(J.go i H'/\∀x H2,J.yld i H' x H2->g x σ' H2 λσ2 H3=>tt σ2 H3 λok H4 =>
   if ok=true then ta σ2 H4 λy H5=>∃ys,H5 d=some (.lst ys)/\ys.length<RV/\∃m',m' < m/\W (i+1) m' σ2 (upd H5 d (.lst (ys++[y]))) else ∃m',m' < m/\W (i+1) m' σ2 H4)
noncomputable def gF(K:Q7)(x:V)(H:Hp)(R:It->Hp->Prop):Prop:=∃a,x=.ref a/\(∃xs,SqL K H a xs)/\R (Itl K a) H
noncomputable def tN(vs:Y6)(H:Hp)(R:It->Hp->Prop):Prop:=∃j:Int,vs=[.int j]/\-(2 ^ 62)<=j/\j<2 ^ 62/\R (Itr 0 j.toNat) H
section
variable {Q:VK}{D:Ends}{t u:TS}{ta tb tc:TE}{x y:V}{tu:TT}{tA:TA}{a b:Int}
theorem Gn(h:QS (σ.set i (some v)) H):eQ i v σ H QS:=h
theorem kK(J:Y4)(main:∀N:St->Hp->Prop,(∀σ' H',J σ' H'->N σ' H')->tt σ H λb H1=>if b=true then t { D with nx:=N } σ H1 else u { D with nx:=N } σ H1)
  (key:∀σ' H',J σ' H'->D.nx σ' H'):Ho tt t u D σ H:=main D.nx key
theorem OV(e:σ[i]?=some (some v))(h:Q v H):Eb i σ H Q:=⟨v,e,h⟩
theorem r_C(h:Q v H):tC v σ H Q:=h
theorem Kh{f:Int->Int->V}(h:Q (f a b) H):rI0 f (.int a) (.int b) H Q:=⟨a,b,rfl,rfl,h⟩
theorem wO{f:Int->Int->V}(c:C a b)(h:Q (f a b) H):rI C f (.int a) (.int b) H Q:=⟨a,b,rfl,rfl,c,h⟩
theorem DK(h:Q (.bl (decide (a=b))) H):rEq (.int a) (.int b) H Q:=⟨rfl,by
 have e:decide (V.int a=V.int b)=decide (a=b):=decide_eq_decide.mpr ⟨λz=>by injection z,λz=>by rw[z]⟩
 rw[e];exact h⟩
theorem Fh(h:Q (.bl (!decide (a=b))) H):rNe (.int a) (.int b) H Q:=⟨rfl,by
 have e:decide (V.int a=V.int b)=decide (a=b):=decide_eq_decide.mpr ⟨λz=>by injection z,λz=>by rw[z]⟩
 rw[e];exact h⟩
theorem QG{c:Bool}(h:QB c H):isB (.bl c) H QB:=⟨c,rfl,h⟩
theorem OP(h:tt σ H λc H1=>if c=true then tu σ H1 QB else QB false H1):Mr tt tu σ H QB:=h
theorem Qu(h:tt σ H λc H1=>if c=true then QB true H1 else tu σ H1 QB):tOr tt tu σ H QB:=h
theorem NU(h:ta σ H λx H1=>isB x H1 λc H1=>if c=true then tb σ H1 Q else Q (.bl false) H1):JS ta tb σ H Q:=h
theorem Om(h:ta σ H λx H1=>isB x H1 λc H1=>if c=true then Q (.bl true) H1 else tb σ H1 Q):NZ ta tb σ H Q:=h
theorem Ph(h:QA [] H):ng σ H QA:=h
theorem OW(h:ta σ H λx H1=>Q (.bl (decide (x=.non))) H1):Oa ta σ H Q:=h
theorem Mw(h:ta σ H λx H1=>Q (.bl (!decide (x=.non))) H1):JP ta σ H Q:=h
theorem OH(h:wi σ H (eI g t D σ)):JB wi g t D σ H:=h
theorem Mx(h:wi σ H (fK own fr g tt ta σ Q)):zq own fr wi g tt ta σ H Q:=h
theorem Q4{tl th:TO}(h:ta σ H λx H1=>tl σ H1 λl H2=>th σ H2 λu H3=>r x l u H3 Q):tSl r ta tl th σ H Q:=h
theorem HE(h:QO none H):Dd σ H QO:=h
theorem Oe(h:ta σ H λx H1=>isI x H1 QO):Kj ta σ H QO:=h
theorem Md(h:QO (some a) H):isI (.int a) H QO:=⟨a,rfl,h⟩
theorem L8{C:Addr}{E:XK}(h:tA σ H λvs H1=>∀x dx,H1 x=none->H1 dx=none->dx≠x->sp (.ref x :: (vs++dvs)) (upd (upd H1 dx (.own x)) x (.ins C dx [])) (λv H2=>v=.non/\Q (.ref x) H2) E):DV C sp dvs E tA σ H Q:=h
theorem Nk{f:Str}(h:tb σ H λy H1=>ta σ H1 λx H2=>∃a C dx fs,x=.ref a/\H2 a=some (.ins C dx fs)/\Cls K C/\bE K C f/\fs.length<1000/\D.nx σ (upd H2 a (.ins C dx (bD f y fs)))):IU K ta tb f D σ H:=h
theorem cM{α:Type}[Rep α]{l:List α}{c:α}(h:At K H v l)(e:a=(n:Int))(hn:l[n]?=some c)(q:∀w,At K H w c->Q w H):lF K v (.int a) H Q:=by
 obtain⟨p,xs,x,rfl,hS,hx,hc⟩:=h.item hn;subst e;exact⟨p,xs,_,x,rfl,rfl,hS,hx,q x hc⟩
theorem ik{l:AT}{c:Nat}(h:At K H v l)(e:a=(n:Int))(hn:l[n]?=some c)(q:Q (.int c) H):lF K v (.int a) H Q :=
 cM h e hn λw hw=>by cases(show w=V.int c from hw);exact q
theorem JW{l:YZ}{c:Int}(h:At K H v l)(e:a=(n:Int))(hn:l[n]?=some c)(q:Q (.int c) H):lF K v (.int a) H Q :=
 cM h e hn λw hw=>by cases(show w=V.int c from hw);exact q
theorem bf(e:a=(n:Int))(hn:n<=1000000)(Pv:Z7)(h0:Pv 0 σ H)
  (hs:∀i σ' H',i<n->Pv i σ' H'->g (.int i) σ' H' λσ2 H2=>t { D with nx:=Pv (i+1),ct:=Pv (i+1),bk:=D.nx } σ2 H2) (hd:∀σ' H',Pv n σ' H'->D.nx σ' H') :
  tN [.int a] H (eI g t D σ):=by
 subst e;refine⟨n,rfl,by lia,by lia,?_⟩
 have z:((n:Int)).toNat=n:=by lia
 show eI g t D σ (Itr 0 (n:Int).toNat) H;rw[z];exact GG Pv h0 (λi σ' H' hi p=>by rw[YG];exact hs i σ' H' hi p) hd
theorem dB{α:Type}[Rep α]{l:List α}(h:At K H v l)(Pv:Z7)(h0:Pv 0 σ H)(hl:∀i σ' H',Pv i σ' H'->ag H H')
  (hs:∀i c w σ' H',l[i]?=some c->At K H' w c->Pv i σ' H'->g w σ' H' λσ2 H2=>t { D with nx:=Pv (i+1),ct:=Pv (i+1),bk:=D.nx } σ2 H2) (hd:∀σ' H',Pv l.length σ' H'->D.nx σ' H') :
  gF K v H (eI g t D σ):=by
 k_mem;refine⟨p,rfl,⟨xs,hS⟩,n9 (K:=K) (a:=p) (xs:=xs) Pv h0 (λi σ' H' _ q=>(hl i σ' H' q).seq hS) (λi x σ' H' hx q=>?_) (λσ' H' q=>?_)⟩
 .obtain⟨c,hc,r⟩:=Paired.getL hP hx;exact hs i c x σ' H' hc (Rep.mono (hl i σ' H' q) r) q
 .rw[hP.length]at q;exact hd σ' H' q
noncomputable def del(H:Hp)(d:Addr):Hp:=λa=>if a=d then none else H a
theorem bS{b:Addr}(h:b≠d):del H d b=H b:=if_neg h
theorem gh(e:ag H H'):ag (del H d) (del H' d):=λb o h=>by
 by_cases hb:b=d
 .l_out
 .rw[bS hb]at h ⊢;exact e b o h
theorem eB{o:HO}:ag (del H d) (del (upd H d o) d):=λb u h=>by
 by_cases hb:b=d
 .l_out
 .rw[bS hb]at h ⊢;rw[ak hb];exact h
theorem dE :ag (del H d) H:=λb u h=>by
 by_cases hb:b=d
 .l_out
 .rw[bS hb]at h;exact h
theorem vC{β:Type}[Rep β]{J:It}(Src:Nat->V->Hp->Prop)(acc:Nat->List β)(Sh:St->Prop)
  (hgo:∀i H',i<n->ag H H'->J.go i H') (Zp:∀H',ag H H'->J.stop n H') (hy:∀i H' x H2,i<n->ag H H'->J.yld i H' x H2->H2=H'/\Src i x H')
  (hz:n<=100000) (U!:acc 0=[]) (ZZ:∀i,i<=n->(acc i).length<=i) (h0:Sh (cH own fr σ))
  (turn:∀i w σ' H' (d:Addr) (R:St->V->Hp->Prop) (R0:Y4),i<n->ag H H'->Src i w H'->Sh σ' ->
   (∀σ2 y b H5,Sh σ2->ag H' H5->At K (del H5 d) y b->acc (i+1)=acc i++[b]->R σ2 y H5)->(∀σ2 H5,Sh σ2->ag H' H5->acc (i+1)=acc i->R0 σ2 H5)->(∃ys,H' d=some (.lst ys)) ->
   g w σ' H' λσ2 H3=>tt σ2 H3 λok H4=>if ok=true then ta σ2 H4 (R σ2) else R0 σ2 H4)
  (fin:∀d H',H d=none->ag H H'->(∃ys,H' d=some (.lst ys)/\Sz (Rep.is K (del H' d)) ys (acc n))->Q (.ref d) H') (d:Addr) (hd:H d=none) :
  ∃W:Nat->Nat->St->Hp->Prop,(∃m,W 0 m (cH own fr σ) (upd H d (.lst [])))/\∀i m σ' H',W i m σ' H' ->
   (J.stop i H'/\Q (.ref d) H')\/(J.go i H'/\∀x H2,J.yld i H' x H2->g x σ' H2 λσ2 H3=>tt σ2 H3 λok H4 =>
    if ok=true then ta σ2 H4 λy H5=>∃ys,H5 d=some (.lst ys)/\ys.length<RV/\∃m',m' < m/\W (i+1) m' σ2 (upd H5 d (.lst (ys++[y]))) else ∃m',m' < m/\W (i+1) m' σ2 H4):=by
 refine⟨λi m σ' H'=>m=n - i/\i<=n/\Sh σ'/\ag H H'/\∃ys,H' d=some (.lst ys)/\Sz (Rep.is K (del H' d)) ys (acc i),⟨n,rfl,R5 _,h0,ar hd _,[],ai,by rw[U!];exact .nil⟩,?_⟩
 rintro i m σ' H' ⟨rfl,hi,hsh,hs,ys,Hx,hp⟩
 by_cases Zd:i<n
 .refine .inr ⟨hgo i H' Zd hs,λx H2 hx=>?_⟩;obtain⟨rfl,hsrc⟩:=hy i H' x H2 Zd hs hx;refine turn i x σ' H2 d _ _ Zd hs hsrc hsh (λσ2 y b H5 h1 h2 h3 h4=>?_) (λσ2 H5 h1 h2 h4=>?_) ⟨ys,Hx⟩
  .have hl:=hp.length;have hl2:=ZZ i hi;refine⟨ys,h2 _ _ Hx,Sf (show ys.length<=100000 by lia) (by rw[RO];decide),n - (i+1),by lia,rfl,Zd,h1,λb' o e=>?_,ys++[y],ai,?_⟩
   .rw[ak (av e hd)];exact h2 _ _ (hs _ _ e)
   .rw[h4];exact Paired.app (Paired.b5 hp λ_ _ q=>Rep.mono eB (Rep.mono (gh h2) q)) (.cons (Rep.mono eB h3) .nil)
  .refine⟨n - (i+1),by lia,rfl,Zd,h1,hs.trans h2,ys,h2 _ _ Hx,?_⟩
   rw[h4];exact Paired.b5 hp λ_ _ q=>Rep.mono (gh h2) q
 .have e:i=n:=by lia
  subst e;exact .inl ⟨Zp H' hs,fin d H' hd hs ⟨ys,Hx,hp⟩⟩
theorem j8{α β:Type}[Rep α][Rep β]{l:List α}(h:At K H v l)(hz:l.length<=100000)(acc:Nat->List β)(Sh:St->Prop)(U!:acc 0=[])(ZZ:∀i,i<=l.length->(acc i).length<=i)(h0:Sh (cH own fr σ))
  (turn:∀i c w σ' H' (d:Addr) (R:St->V->Hp->Prop) (R0:Y4),l[i]?=some c->ag H H'->At K H' w c->Sh σ' ->
   (∀σ2 y b H5,Sh σ2->ag H' H5->At K (del H5 d) y b->acc (i+1)=acc i++[b]->R σ2 y H5)->(∀σ2 H5,Sh σ2->ag H' H5->acc (i+1)=acc i->R0 σ2 H5)->(∃ys,H' d=some (.lst ys)) ->
   g w σ' H' λσ2 H3=>tt σ2 H3 λok H4=>if ok=true then ta σ2 H4 (R σ2) else R0 σ2 H4)
  (fin:∀d H',H d=none->ag H H'->(∃ys,H' d=some (.lst ys)/\Sz (Rep.is K (del H' d)) ys (acc l.length))->Q (.ref d) H') :
  gF K v H (fK own fr g tt ta σ Q):=by
 obtain⟨p,xs,rfl,hS,hP⟩:=h;have hl:=hP.length;refine⟨p,rfl,⟨xs,hS⟩,vC (J:=Itl K p) (n:=l.length) (λi w H'=>∃c,l[i]?=some c/\At K H' w c) acc Sh (λi H' hi e=>⟨xs,xs[i]'(by lia),e.seq hS,by simp[hl,hi]⟩) (λH' e=>⟨xs,e.seq hS,U2 hl⟩)
  (λi H' x H2 hi e hy=>?_) hz U! ZZ h0 (λi w σ' H' d R R0 hi e ⟨c,hc,hw⟩=>turn i c w σ' H' d R R0 hc e hw) fin⟩
 obtain⟨e1,e2⟩:=hy;have z:=e2 xs (e.seq hS);obtain⟨c,hc,r⟩:=Paired.getL hP z;exact⟨e1,c,hc,Rep.mono e r⟩
theorem kO(K:Q7){β:Type}[Rep β](e:a=(n:Int))(hz:n<=100000)(acc:Nat->List β)(Sh:St->Prop)(U!:acc 0=[])(ZZ:∀i,i<=n->(acc i).length<=i)(h0:Sh (cH own fr σ))
  (turn:∀i σ' H' (d:Addr) (R:St->V->Hp->Prop) (R0:Y4),i<n->ag H H'->Sh σ' ->
   (∀σ2 y b H5,Sh σ2->ag H' H5->At K (del H5 d) y b->acc (i+1)=acc i++[b]->R σ2 y H5)->(∀σ2 H5,Sh σ2->ag H' H5->acc (i+1)=acc i->R0 σ2 H5)->(∃ys,H' d=some (.lst ys)) ->
   g (.int i) σ' H' λσ2 H3=>tt σ2 H3 λok H4=>if ok=true then ta σ2 H4 (R σ2) else R0 σ2 H4)
  (fin:∀d H',H d=none->ag H H'->(∃ys,H' d=some (.lst ys)/\Sz (Rep.is K (del H' d)) ys (acc n))->Q (.ref d) H') :
  tN [.int a] H (fK own fr g tt ta σ Q):=by
 subst e;refine⟨n,rfl,by lia,by lia,?_⟩
 have z:((n:Int)).toNat=n:=by lia
 show fK own fr g tt ta σ Q (Itr 0 (n:Int).toNat) H;rw[z];refine vC (J:=Itr 0 n) (n:=n) (λi w _=>w=.int i) acc Sh (λi H' hi _=>hi) (λH' _=>Ru n) (λi H' x H2 hi e hy=>?_) hz U! ZZ h0 (λi w σ' H' d R R0 hi e hw=>?_) fin
 .obtain⟨e1,e2⟩:=hy;exact⟨e1,by rw[e2,YG]⟩
 .subst hw;exact turn i σ' H' d R R0 hi e
theorem oF{α β:Type}[Rep α][Rep β]{l:List α}(h:At K H v l)(hz:l.length<=100000)(acc:Nat->List β)(Sh:St->Prop)(U!:acc 0=[])(ZZ:∀i,i<=l.length->(acc i).length<=i)(h0:Sh (cH own fr σ))
  (turn:∀i c w σ' H' (d:Addr) (R:St->V->Hp->Prop) (R0:Y4),l[i]?=some c->ag H H'->At K H' w c->Sh σ' ->
   (∀σ2 y b H5,Sh σ2->ag H' H5->At K (del H5 d) y b->acc (i+1)=acc i++[b]->R σ2 y H5)->(∀σ2 H5,Sh σ2->ag H' H5->acc (i+1)=acc i->R0 σ2 H5)->(∃ys,H' d=some (.lst ys)) ->
   g w σ' H' λσ2 H3=>tt σ2 H3 λok H4=>if ok=true then ta σ2 H4 (R σ2) else R0 σ2 H4)
  (fin:∀d H',ag H H'->At K H' (.ref d) (acc l.length)->Q (.ref d) H') :
  gF K v H (fK own fr g tt ta σ Q) :=
 j8 h hz acc Sh U! ZZ h0 turn λd H' _ hs ⟨ys,Hx,hp⟩=>fin d H' hs ⟨d,ys,rfl,SqL.of Hx,Paired.b5 hp λ_ _ q=>Rep.mono dE q⟩
theorem qY(K:Q7){β:Type}[Rep β](e:a=(n:Int))(hz:n<=100000)(acc:Nat->List β)(Sh:St->Prop)(U!:acc 0=[])(ZZ:∀i,i<=n->(acc i).length<=i)(h0:Sh (cH own fr σ))
  (turn:∀i σ' H' (d:Addr) (R:St->V->Hp->Prop) (R0:Y4),i<n->ag H H'->Sh σ' ->
   (∀σ2 y b H5,Sh σ2->ag H' H5->At K (del H5 d) y b->acc (i+1)=acc i++[b]->R σ2 y H5)->(∀σ2 H5,Sh σ2->ag H' H5->acc (i+1)=acc i->R0 σ2 H5)->(∃ys,H' d=some (.lst ys)) ->
   g (.int i) σ' H' λσ2 H3=>tt σ2 H3 λok H4=>if ok=true then ta σ2 H4 (R σ2) else R0 σ2 H4)
  (fin:∀d H',ag H H'->At K H' (.ref d) (acc n)->Q (.ref d) H') :
  tN [.int a] H (fK own fr g tt ta σ Q) :=
 kO K e hz acc Sh U! ZZ h0 turn λd H' _ hs ⟨ys,Hx,hp⟩=>fin d H' hs ⟨d,ys,rfl,SqL.of Hx,Paired.b5 hp λ_ _ q=>Rep.mono dE q⟩
theorem Kg(h:QB true H):IS σ H QB:=h
theorem FN{A:Prop}(h:A):if true=true then A else B:=vX h
end
variable {d p:Addr}{R:Bool->Prop}{X:Cx}{D:Ends}{env:Env}{a e tg:Expr}{H H' H₀:Hp}{QH:Hp->Prop}{Za:Y0}{rows:AC}{fp ps:Y9}{bs:List Bool}{es tgs:Y8}{fr:AT}{own:Z0}{dvs:Y6}{ds:Y7}{i j k kk n:Nat}{apos Zg pos Q!:Pos}{K:Q7}{sp:Sp}{σ:St}{name x:Str}{T:String}{t tA ta:TA}{g:TG}{v y:V}{r:Z8}{Q:VK}
theorem aV{c A B:Prop}[Decidable c](h1:c->A)(h2:¬ c->B):if decide c=true then A else B:=by
 by_cases h:c
 .rw[decide_eq_true h];exact vX (h1 h)
 .rw[decide_eq_false h];exact de (h2 h)
theorem bJ{c A B:Prop}[Decidable c](h1:¬ c->A)(h2:c->B):if (!decide c)=true then A else B:=by
 by_cases h:c
 .rw[decide_eq_true h];exact de (h2 h)
 .rw[decide_eq_false h];exact vX (h1 h)
noncomputable def Gr{β:Type}[Rep β](K:Q7)(H:Hp)(d:Addr)(l:List β):Prop:=∃ys,H d=some (.lst ys)/\Sz (Rep.is K (del H d)) ys l
section
variable {β:Type}[Rep β]{l:List β}{b:β} 
theorem Gr.at(h:Gr K H d l):At K H (.ref d) l:=by
 obtain⟨ys,h1,h2⟩:=h;exact⟨d,ys,rfl,SqL.of h1,Paired.b5 h2 λ_ _ q=>Rep.mono dE q⟩
theorem Gr.mono(s:ag H H')(h:Gr K H d l):Gr K H' d l:=by
 obtain⟨ys,h1,h2⟩:=h;exact⟨ys,s _ _ h1,Paired.b5 h2 λ_ _ q=>Rep.mono (gh s) q⟩
theorem Gr.is(h:Gr K H d l):∃ys,H d=some (.lst ys):=let ⟨ys,h1,_⟩:=h;⟨ys,h1⟩
theorem Gr.ty(h:Gr K H d l):tyV K "list" (.ref d) H:=by
 obtain⟨ys,h1,_⟩:=h;exact .inl ⟨rfl,_,SqL.of h1⟩
theorem iC(h:Gr K H d l)(hl:l.length<=100000)(hy:At K (del H d) y b)(q:∀H',Gr K H' d (l++[b])->(∀a o,a≠d->H a=some o->H' a=some o)->(∀a,a≠d->H' a=H a)->Q .non H'):jB (.ref d) [y] H Q:=by
 obtain⟨ys,h1,h2⟩:=h;have e:=h2.length;refine⟨d,ys,y,rfl,rfl,h1,Sf (show ys.length<=100000 by lia) (by rw[RO];decide),?_⟩
 refine q _ ⟨_,ai,Paired.app (Paired.b5 h2 λ_ _ z=>Rep.mono eB z) (.cons (Rep.mono eB hy) .nil)⟩ (λa o ha z=>by rw[ak ha];exact z) λa ha=>ak ha
theorem ag.but(hd:H₀ d=none)(s:ag H₀ H)(k:∀a o,a≠d->H a=some o->H' a=some o):ag H₀ H':=λa o z=>k a o (av z hd) (s a o z)
end
noncomputable def cut{α:Type}(l:List α)(lo hi:Option Int):List α:=(l.drop (HT.sIx l.length 0 lo)).take (HT.sIx l.length l.length hi - HT.sIx l.length 0 lo)
theorem Ks{α:Type}[Rep α]{l:List α}{lo hi:Option Int}(h:At K H v l)(q:∀p H',ag H H'->H p=none->At K H' (.ref p) (cut l lo hi)->Q (.ref p) H'):Hs K v lo hi H Q:=by
 k_mem;refine⟨p,xs,rfl,hS,λd hd=>q d _ (ar hd _) hd ⟨d,_,rfl,SqL.of ai,?_⟩⟩;have e:=hP.length;unfold Ak cut;rw[e];exact Paired.ER _ (Paired.E3 _ (Paired.b5 hP λ_ _ z=>Rep.mono (ar hd _) z))
theorem F1(hd:∃ys,H d=some (.lst ys))(hp:H p=none):p≠d:=λe=>by
 obtain⟨ys,hd⟩:=hd;rw[e,hd]at hp;cases hp
noncomputable def EM(K:Q7):List V->Hp->VK->Prop:=λxs H Q=>∃p ys,xs=[.ref p]/\(SqL K H p ys\/SqT K H p ys)/\Q (.int ys.length) H
noncomputable def zd(K:Q7):List V->Hp->VK->Prop:=λxs H Q=>∃p ys,xs=[.ref p]/\(SqL K H p ys\/SqT K H p ys)/\∀l,H l=none->Q (.ref l) (upd H l (.lst ys))
noncomputable def J1(K:Q7):List V->Hp->VK->Prop:=λxs H Q=>∃x n t b,xs=[x,.ty n]/\fU K H x t/\UT K t (.type n)=some b/\Q (.bl b) H
noncomputable def Mh(α:Type)[Rep α][DecidableEq α](K:Q7):R2:=λx y H Q=>∃as bs:List α,At K H x as/\At K H y bs/\Q (.bl (decide (as=bs))) H
noncomputable def Mf(α:Type)[Rep α][DecidableEq α](K:Q7):R2:=λx y H Q=>∃as bs:List α,At K H x as/\At K H y bs/\Q (.bl (!decide (as=bs))) H
section
variable {x:V}{α:Type}[Rep α]{l:List α}
theorem cp(h:At K H v l)(q:Q (.int (l.length:Int)) H):EM K [v] H Q:=by
 obtain⟨p,xs,rfl,hS,e⟩:=h.len;exact⟨p,xs,rfl,.inl hS,by rw[e];exact q⟩
theorem qK{n:String}{t:Value}{b:Bool}(ty:fU K H x t)(e:UT K t (.type n)=some b)(q:Q (.bl b) H):J1 K [x,.ty n] H Q:=⟨x,n,t,b,rfl,ty,e,q⟩
theorem Qm[DecidableEq α]{as bs:List α}(ha:At K H x as)(hb:At K H y bs)(q:Q (.bl (decide (as=bs))) H):Mh α K x y H Q:=⟨as,bs,ha,hb,q⟩
theorem JT[DecidableEq α]{as bs:List α}(ha:At K H x as)(hb:At K H y bs)(q:Q (.bl (!decide (as=bs))) H):Mf α K x y H Q:=⟨as,bs,ha,hb,q⟩
end
section
variable {X:Cx}(K:Q7)(hK:X.K=K){e l o value:Expr}{ta tv tl:TE}{f:Str}{pos pos':Pos}
include hK
theorem Iq:IxR X (lF K):=by subst hK;exact LM
theorem cS:IxR X (Ia K):=by subst hK;exact Mv
theorem Lj(he:PE X e ta)(hb:attributeBase e f X.env (eval e X.env)=eval e X.env):PE X (.Attribute e f pos) (E2 K ta f):=by subst hK;exact MX he hb
theorem cG(ha:PE X o ta)(hv:PE X value tv)(hs:swapsWith value (some (.Attribute o f pos')) pos.line X.env=pure false):PS X (.Assign [.Attribute o f pos'] value pos) (IU K ta tv f):=by subst hK;exact Nh ha hv hs
theorem Iz{tg:Expr}(hl:PE X l tl):PI X tg l (zf K tl):=by subst hK;exact Lm hl
theorem Ij:SlR X (Hs K):=by subst hK;exact Kr
theorem FG:cz X (.builtin "len") (EM K):=by subst hK;exact Aw
theorem eK:cz X (.type "list") (zd K):=by subst hK;exact Aq
theorem f7:cz X (.builtin "isinstance") (J1 K):=by subst hK;exact Cp
theorem Kq(α:Type)[Rep α][DecidableEq α][aJ α](hu:X.A.units+64<cLine)(hd:aJ.depth α<=32:=by decide) :
  OpR X (compareOp .Eq) (Mh α K):=by subst hK;exact Mp α hu hd
theorem C0(α:Type)[Rep α][DecidableEq α][aJ α](hu:X.A.units+64<cLine)(hd:aJ.depth α<=32:=by decide) :
  OpR X (compareOp .NotEq) (Mf α K):=by subst hK;exact MK α hu hd
theorem MF{T id:String}{name:Str}{r:Z8}{to:TE}{t:TA}{e:Expr}{es:Y8}{apos Zg:Pos}(pa:X8 T)(slot:Slot T name id)(hty:typeOf (.builtin id)=pure (.type "method_descriptor"))(hm:MtR X id r)(ho:PE X o to)(ha:PA X (e :: es) t)
  (Zq:attributeBase o name X.env (eval o X.env)=eval o X.env:=by rfl)
  (hfew:((backTo Zg (So (e :: es) X.env)).all (λx=>!x.1) && (backToKw Zg (keywordEach [] X.env)).all (λx=>x.1.isSome)
   && decide ((e :: es).length+([]:List XI).length+(if ([]:List XI).isEmpty then 0 else 1)<30))=true:=by rfl)
  (Zr:(apos.endLine == Zg.line)=true:=by rfl) (hs:So (e :: es) X.env=(false,eval e X.env) :: So es X.env:=by rfl) (i!:(backTo Zg (So es X.env)).any (·.1)=false:=by rfl) :
  PE X (.Call (.Attribute o name apos) (e :: es) [] Zg) (tBM K T r to t):=by subst hK;exact O7 pa slot hty hm ho ha Zq hfew Zr hs i!
theorem L5{T id:String}{name:Str}{r:Z8}{to:TE}{apos Zg:Pos}(pa:X8 T)(slot:Slot T name id)(hty:typeOf (.builtin id)=pure (.type "method_descriptor"))(hm:MtR X id r)(ho:PE X o to)
  (Zq:attributeBase o name X.env (eval o X.env)=eval o X.env:=by rfl) (Zr:(apos.endLine == Zg.line)=true:=by rfl):PE X (.Call (.Attribute o name apos) [] [] Zg) (Ie K T r to):=by subst hK;exact M6 pa slot hty hm ho Zq Zr
end
section
variable {s:Rg}{h':Heap}{t':Nat}{o:HO}
theorem Inv.FW(I:Inv X Za σ H s)(hf:∀b∈fp,m8 X Za H b)(k:∀b ob,b∉fp->s.heap.get? b=some ob->h'.get? b=some ob)(hp:s.heap.objs.size<=p)(new:bR X.prog X.w (upd H p o) h' p o) :
  Inv X Za σ (upd H p o) { s with heap:=h',toks:=t' }:=by
 have hn:=I.hok.fresh hp;have lt:∀ {b:Addr} {ob:Obj},s.heap.get? b=some ob->b≠p:=λe=>Ry (RH (Rv e) hp);have nofp:∀b u,H b=some u->b∉fp:=λb u e hb=>by rw[(hf b hb).1]at e;cases e
 refine I.step (g':=s.gens) (d':=s.drawn) (ch:=fp) (λb hb=>let ⟨_,f1,_,f3,f4,f5⟩:=hf b hb;⟨f3,f1,f4,f5⟩) (λb ob _ _ hc e _=>k b ob hc e) (λb ob _ _ hc e _=>⟨ob.slots,k b ob hc e⟩)
  (λb ob _ e n=>by rw[ak (lt e)];exact n) (λb ob hc e=>⟨ob,k b ob hc e⟩) (λb xs e=>by rw[ak (av e hn)];exact e) (λb ob u e=>by rw[ak (av e hn)];exact e)
  (λb ps e=>⟨#[],by rw[ak (av e hn),e];simp⟩) (λm hm=>?_) (λb u e=>?_) I.bare
 .obtain⟨ob,es,ep,e,r⟩:=hm;exact⟨ob,es,ep,k _ ob (λhb=>(hf _ hb).2.1 rfl) e,r⟩
 .by_cases hb:b=p
  .subst hb;rw[ai]at e;cases e;exact new
  .rw[ak hb]at e;refine(I.hok b u e).tL (λc v hc q=>k c v ?_ q) (λc q=>by rw[ak (av q hn)];exact q) λc xs q=>by rw[ak (av q hn)];exact q
   rcases hc with z|z
   .rw[z];exact nofp b u e
   .exact nofp c _ z
end
noncomputable def Ite(K:Q7)(a:Addr):It :=
 ⟨λi H=>∃xs x,SqL K H a xs/\xs[i]?=some x,λi H v H'=>∃p x,v=.ref p/\H p=none/\H'=upd H p (.tup [.int i,x])/\∀xs,SqL K H a xs->xs[i]?=some x,λi H=>∃xs,SqL K H a xs/\xs.length<=i⟩
theorem Fq{P:RB}{w:World}(a e it:Addr)(hei:e≠it) :
  Turn P w K (.Tuple es kk Q!) (Ite K a) [e,it] e (λi h=>(∃old,IsEnum h e it i old)/\h.IsListIter it a i) where
 mem:=by simp
 obj:=λi h st b hb=>by
  obtain⟨⟨old,he⟩,o,e1,c,d⟩:=st;rcases RA.mp hb with z|hb
  .rw[z];exact⟨_,he,λv z=>by
    have z':Data.fields _=Data.cell v:=z;cases z'⟩
  .rw[Rj.mp hb];exact⟨o,e1,λv z=>by rw[d]at z;cases z⟩
 keep:=λi h h' st k=>⟨let ⟨old,he⟩:=st.1;⟨old,k e (by simp) _ he⟩,st.2.at λo e=>k it (by simp) o e⟩
 item:=by
  f_tup;obtain⟨xs,x,hq,hx⟩:=hg;obtain⟨Zb,rv,p,hz⟩:=I.list hq;obtain⟨u,hu,ru⟩:=rv.get hx;obtain⟨⟨old,he⟩,hit⟩:=st;refine wpAny_pyNext_enum_item he hit p.isList (x:=u) (by simpa using hu) hei λh' ho d5 hT hsz hk=>?_
  refine⟨_,rfl,?_⟩;have I1:Inv X Za σ (upd H s.heap.objs.size (.tup [.int i,x])) { s with heap:=h',toks:=s.toks+1 } :=
   I.FW hf (λb ob hb q=>hk b ob (λz=>hb (by simp[z])) (λz=>hb (by simp[z])) q) (Ru _) ⟨by show 2<=RV;decide,[.int i s.toks,u],.cons ⟨_,rfl⟩ (.cons ru .nil),⟨_,hT,rfl,_,rfl⟩⟩
  have fE:=hf e (by simp)
  have Zd:e<s.heap.objs.size:=Rv he;have V!:it<s.heap.objs.size:=by obtain⟨_,z,_⟩:=hit;exact Rv z
  refine wpAny_letOwnedTupleGo_enum ho λh2 he2 ZP=>?_;have nE:(upd H s.heap.objs.size (.tup [.int i,x])) e=none:=by rw[ak (Ry Zd)];exact fE.1
  refine⟨.ref s.heap.objs.size,_,I1.turned (t':=s.toks+1) (λb ob hb q=>(ZP.2 b hb).trans q) nE fE.2.1 fE.2.2.2.1 fE.2.2.2.2.1 fE.2.2.2.2.2,rfl,⟨_,x,rfl,I.hok.fresh (Ru _),rfl,λys hy=>by rw[I.oM hy hq];exact hx⟩,?_,λb hb=>?_⟩
  .refine⟨⟨u,?_⟩,d5.at λo q=>(ZP.2 it (TR hei)).trans q⟩;have e1:((i+1:Nat):Int)=(i:Int)+1:=by lia
   rw[e1];exact he2
  .have Zi:b<s.heap.objs.size:=by
    rcases RA.mp hb with z|hb
    .rw[z];exact Zd
    .rw[Rj.mp hb];exact V!
   rw[ak (Ry Zi)];exact(hf b hb).1
 done:=by
  f_tup;obtain⟨xs,hq,hx⟩:=hg;obtain⟨Zb,rv,p,hz⟩:=I.list hq;obtain⟨⟨old,he⟩,hit⟩:=st;have hl:=rv.length;k_go0
  exact wpAny_pyNext_enum_end (I.ok.hd hc) he hit p.isList (by simp;lia) λh' eb=>⟨rfl,I.turned (t':=s.toks) (λb o hb e=>eb b o hb e) f0 f1 f3 f4 f5⟩
 self:=λ_ _ _ _ _ st h=>by
  obtain⟨⟨old,he⟩,_⟩:=st;exact wpAny_pyIter_enum he h
noncomputable def vO(K:Q7)(vs:Y6)(H:Hp)(R:It->Hp->Prop):Prop:=∃a xs,vs=[.ref a]/\SqL K H a xs/\R (Ite K a) H
noncomputable def E5(K:Q7)(ta:TA):TI:=λσ H R=>ta σ H λvs H1=>vO K vs H1 R
theorem Hv(K:Q7)(hK:X.K=K){p:Pos}(hg:Gl X "enumerate")(hm:X.mg "enumerate" = none)(ha:PA X [a] ta)(hs:So [a] X.env=[(false,eval a X.env)]:=by rfl) :
  PI X (.Tuple tgs kk Q!) (.Call (.Name "enumerate" p) [a] [] pos) (E5 K ta):=by
 subst hK;intro Za s σ H R I h;refine Call_ (fZ I hg hm boot_enumerate (SG (thn (ha pos Za s σ H _ I h) λus s1 ⟨vs,H1,I1,r1,q1⟩=>?_) hs rfl));obtain⟨l,xs,e,hS,q⟩:=q1;subst e;cases r1 with
 | cons r rr =>
  cases rr;cases(show _=RN l from r);obtain⟨Zb,rv,pl,hz⟩:=I1.list hS;refine call_enumerate_list pl.isList λh' he hit hsz hk=>?_;refine wpAny_pyIter_enum he ?_;have I2:Inv X Za σ H1 { s1 with heap:=h' }:=I1.kept (t':=s1.toks) hk;refine⟨s1.heap.objs.size+1,[s1.heap.objs.size+1,s1.heap.objs.size],_,_,H1,rfl,I2,Fq l _ _ (Nat.succ_ne_self _),⟨⟨.none,he⟩,hit⟩,λb hb=>?_,q⟩;rcases RA.mp hb with z|hb
  .rw[z];exact I1.wV (S6 _) (I1.hok.fresh (S6 _))
  .rw[Rj.mp hb];walk_at "135"
noncomputable def Dv:V->List V->Hp->VK->Prop:=λx vs H Q=>∃ (l:Addr) (xs:Y6) (k:Int) (y:V),x=.ref l/\vs=[.int k,y]/\H l=some (.lst xs)/\0<=k/\k.toNat<=xs.length/\xs.length<1000000/\Q .non (upd H l (.lst (xs.take k.toNat++y :: xs.drop k.toNat)))
theorem Er(Zb:Y7)(u2:Value)(k:Int)(h0:0<=k)(hi:k.toNat<=Zb.length) :
  (λxs:Z2=>(xs.extract 0 (if k<0 then (k+(xs.size:Int)).toNat else min k.toNat xs.size)).push u2++xs.extract (if k<0 then (k+(xs.size:Int)).toNat else min k.toNat xs.size)) Zb.toArray=(Zb.take k.toNat++u2 :: Zb.drop k.toNat).toArray:=by
 have h1:¬ (k<0):=by lia
 have hm:min k.toNat Zb.toArray.size=k.toNat:=by rw[Rx];lia
 dsimp only;rw[if_neg h1,hm];simp;exact RQ (by simp)
theorem Hd :MtM X "list.insert" Dv:=by
 walk_at "129";obtain⟨l,xs,k,y,rfl,rfl,hH,h0,hi,hl,q⟩:=h;cases rx;obtain⟨u1,u2,rfl,r1,r2⟩:=rv.two;obtain⟨t,rfl⟩:=(show ∃t,u1=Ui k t from r1);obtain⟨z,Zb,n,r,hl',e⟩:=I.oe hH;have hz2:Zb.toArray.size<=RV:=by
  have e1:Zb.toArray.size=Zb.length:=Rx ..;lia
 have hfit:¬ (!Builtin.List.listFitsIndex k)=true:=by
  unfold Builtin.List.listFitsIndex;simp;lia
 have M3:=AutoSeq1.list_insert_list_int_val_1 l Zb.toArray n k t u2 hfit hz2;refine Vs F.slot_list_insert ⟨_,e,rfl⟩ F.entry_list_insert (F.args_list_insert_3 _ _ _) M3 ⟨e,?_⟩;have hv:Vals (xs.take k.toNat++y :: xs.drop k.toNat) (Zb.take k.toNat++u2 :: Zb.drop k.toNat):=(Vals.take k.toNat r).append (.cons r2 (Vals.drop k.toNat r));refine⟨.non,_,I.Ec (its':=Zb.take k.toNat++u2 :: Zb.drop k.toNat) hH e (Er Zb u2 k h0 (by lia)) hv ?_,rfl,q⟩
 rw[Rt,Sb,RG,Xo,RO];lia
noncomputable def F9:List V->Hp->VK->Prop:=λxs H Q=>∃j:Int,xs=[.int j]/\∀p,H p=none->Q (.ref p) (upd H p (.rng 0 j))
theorem sT :cz X (.type "range") F9:=by
 k_asm;obtain⟨j,rfl,q⟩:=h;obtain⟨u,rfl,ru⟩:=vals1 r;obtain⟨t,rfl⟩:=(show ∃t,u=Ui j t from ru);refine call_range_1 ?_;refine⟨.ref s.heap.objs.size,_,I.laid (λb u e=>Rl _ e) (Ru _) ?_,rfl,q _ (I.hok.fresh (Ru _))⟩;exact⟨_,_,_,RC _ rfl⟩
noncomputable def uY:List V->Hp->VK->Prop:=λxs H Q=>∃ (p:Addr) (n:Nat),xs=[.ref p]/\H p=some (.rng 0 (n:Int))/\n<=1000000/\∀l,H l=none->Q (.ref l) (upd H l (.lst ((Rh n).map λ(i:Nat)=>V.int i)))
theorem sN:∀ {xs:Y6} {us:Y7},xs.length=us.length->(∀ (i:Nat) (x:V) (u:Value),xs[i]?=some x->us[i]?=some u->RelV x u)->Vals xs us
 | [],[],_,_=>.nil
 | [],_ :: _,h,_=>by cases h
 | _ :: _,[],h,_=>by cases h
 | x :: xs,u :: us,h,g=>.cons (g 0 x u rfl rfl) (sN (by simpa using h) λi y v hy hv=>g (i+1) y v (by simpa using hy) (by simpa using hv))
theorem Gx(h:n<=1000000):n<=RV:=by rw[RO];lia
theorem n5(hc:X.calm=true):cz X (.type "list") uY:=by
 k_asm;obtain⟨p,n,rfl,hp,hn,q⟩:=h;obtain⟨u,rfl,ru⟩:=vals1 r;cases(show u=RN p from ru);obtain⟨t1,t2,t3,hr⟩:=(show bR X.prog X.w H s.heap p (.rng 0 (n:Int)) from I.hok p _ hp);have hs:Xd 0 (n:Int) 1=n:=by rw[rangeSize_one];split <;> lia
 refine call_list_range (n:=n) (I.ok.hd hc) hr (small_one (by lia) (by lia) (by lia) (by lia)) (by exact_mod_cast hs) (by lia) λh' tk acc c' hk hS ZC=>?_
 refine⟨.ref s.heap.objs.size,_,I.laid hk (Ru _) ?_,rfl,q _ (I.hok.fresh (Ru _))⟩;obtain⟨ha1,ha2⟩:=ZC;have hl:((Rh n).map λ(i:Nat)=>V.int i).length=acc.toList.length:=by simp;exact ha1.symm
 refine⟨by simp;exact Gx hn,acc.toList,c',sN hl λi x u hx hu=>?_,by simpa using hS⟩
 have hi:i<n:=by
  have:=(Q9.mp hx).1
  simpa using this
 obtain⟨t,e⟩:=ha2 i u (by simpa using hu)
 have ex:x=V.int i:=by
  rw[Ro,S8 hi]at hx;exact(RW hx).symm
 rw[ex];exact⟨t,by simpa using e⟩
section
variable {t:TS}{ta tb:TE}{w x:V}{a:Int}
theorem C1{n:Int}(q:∀p,H p=none->Q (.ref p) (upd H p (.rng 0 n))):F9 [.int n] H Q:=⟨n,rfl,q⟩
theorem dQ{l:AT}:Sz (Rep.is K H) (l.map λ(n:Nat)=>V.int n) l:=by
 have q:=Paired.of_map (F:=λ(v:V) (a:Nat)=>v=.int a) (f:=λ(n:Nat)=>V.int n) (g:=id) (λ_=>rfl) l;rw[Wg]at q;exact q
theorem sQ(hp:H p=some (.rng 0 (n:Int)))(hn:n<=1000000)(q:∀l H',H l=none->ag H H'->Gr K H' l (Rh n)->Q (.ref l) H'):uY [.ref p] H Q :=
 ⟨p,n,rfl,hp,hn,λl hl=>q l _ hl (ar hl _) ⟨_,ai,dQ⟩⟩
theorem uS{xs:Y6}(hp:H p=some (.lst xs))(e:a=(j:Int))(hj:j<xs.length)(q:QH (upd H p (.lst (xs.set j v)))):JG (.ref p) (.int a) v H QH:=by
 subst e;refine⟨p,xs,_,j,rfl,rfl,hp,?_,q⟩;unfold ixN;rw[if_pos (by lia),if_pos (by lia)]
 rfl
noncomputable def isP(vs:Y6)(H:Hp)(k:V->V->Hp->Prop):Prop:=∃v w,vs=[v,w]/\k v w H
theorem O4(h:tA σ H λvs H1=>isP vs H1 λv w H1=>D.nx ((σ.set i (some v)).set j (some w)) H1):NN i j tA D σ H:=h
theorem MS{k:V->V->Hp->Prop}(h:k x y H):isP [x,y] H k:=⟨x,y,rfl,h⟩
theorem iQ{α:Type}[Rep α]{l:List α}{ia ib:Nat}(h:At K H₀ v l)(Pv:Z7)(h0:Pv 0 σ H)(hl:∀i σ' H',Pv i σ' H'->ag H₀ H')
  (hs:∀i c w σ' H' Zn p,l[i]?=some c->At K H₀ w c->Pv i σ' H'->H' p=none->Zn=upd H' p (.tup [.int i,w])->ag H' Zn->t { D with nx:=Pv (i+1),ct:=Pv (i+1),bk:=D.nx } ((σ'.set ia (some (.int i))).set ib (some w)) Zn)
  (hd:∀σ' H',Pv l.length σ' H'->D.nx σ' H'):vO K [v] H (eI (AO K 2 (kU (eQ ia) (kU (eQ ib) AY))) t D σ):=by
 k_mem;have hlen:=hP.length;refine⟨p,xs,rfl,(hl 0 σ H h0).seq hS,λi m σ' H'=>m=xs.length - i/\i<=xs.length/\Pv i σ' H',⟨xs.length,by simp,R5 _,h0⟩,?_⟩
 rintro i m σ' H' ⟨rfl,hi,p0⟩;have q:=(hl i σ' H' p0).seq hS
 by_cases Zd:i<xs.length
 .refine .inr ⟨⟨xs,xs[i],q,by simp[Zd]⟩,Pv (i+1),λσ2 H2 p'=>⟨xs.length - (i+1),by lia,rfl,Zd,p'⟩,λz H2 yl=>?_⟩
  obtain⟨d,w,rfl,dh,rfl,hw⟩:=yl;have hx:=hw xs q;obtain⟨c,hc,r⟩:=Paired.getL hP hx;refine⟨d,[.int i,w],rfl,SqT.of ai,rfl,⟨_,_,rfl,⟨_,_,rfl,⟨rfl,?_⟩⟩⟩⟩;exact hs i c w σ' H' _ d hc r p0 dh rfl (ar dh _)
 .have e:i=xs.length:=by lia
  subst e;exact .inl ⟨⟨xs,q,Ru _⟩,hd σ' H' (by rw[hlen]at p0;exact p0)⟩
end
noncomputable def au(r:AT):Y6:=r.map λ(n:Nat)=>V.int n
structure Tbl(H:Hp)(d:Addr)(rows:AC)(ps:Y9):Prop where
 top:H d=some (.lst (ps.map V.ref))
 nd:ps.Nodup
 ap:d∉ps
 len:ps.length=rows.length
 row:∀ (i:Nat) (p:Addr) (r:AT),ps[i]?=some p->rows[i]?=some r->H p=some (.lst (au r))
theorem Tbl.mono(s:ag H H')(h:Tbl H d rows ps):Tbl H' d rows ps:=⟨s _ _ h.top,h.nd,h.ap,h.len,λi p r e1 e2=>s _ _ (h.row i p r e1 e2)⟩
theorem pU{α β:Type}{F:α->β->Prop}:∀ {xs:List α} {ys:List β},xs.length=ys.length->(∀ (i:Nat) (x:α) (y:β),xs[i]?=some x->ys[i]?=some y->F x y)->Sz F xs ys
 | [],[],_,_=>.nil
 | [],_ :: _,h,_=>by cases h
 | _ :: _,[],h,_=>by cases h
 | x :: xs,y :: ys,h,g=>.cons (g 0 x y rfl rfl) (pU (by simpa using h) λi u v hu hv=>g (i+1) u v (by simpa using hu) (by simpa using hv))
theorem Tbl.at(h:Tbl H d rows ps):At K H (.ref d) rows:=by
 refine⟨d,_,rfl,SqL.of h.top,pU (by rw[Rc,h.len]) λi x r hx hr=>?_⟩
 rw[Ro]at hx;cases e:ps[i]? with
 | none=>rw[e]at hx;cases hx
 | some p =>
  rw[e]at hx;have ZO:x=V.ref p:=(RW hx).symm;rw[ZO];exact⟨p,_,rfl,SqL.of (h.row i p r e hr),dQ⟩
theorem Tbl.get(h:Tbl H d rows ps){r:AT}(e:rows[i]?=some r):∃p,ps[i]?=some p/\H p=some (.lst (au r)):=by
 have hi:i<ps.length:=by rw[h.len];exact(Q9.mp e).1
 exact⟨ps[i],by simp[hi],h.row i _ r (by simp[hi]) e⟩
theorem Tbl.set(h:Tbl H d rows ps){r:AT}(e:rows[i]?=some r)(hp:ps[i]?=some p):Tbl (upd H p (.lst ((au r).set j (.int n)))) d (rows.set i (r.set j n)) ps:=by
 have hi:i<ps.length:=(Q9.mp hp).1;have mem:p∈ps:=Rb hp;refine⟨by rw[ak (λz=>h.ap (by rw[z];exact mem))];exact h.top,h.nd,h.ap,by rw[U4];exact h.len,λk q r' hq hr=>?_⟩
 by_cases hk:k=i
 .subst hk;rw[hp]at hq;cases hq;rw[TU (by rw[<- h.len];exact hi)]at hr
  cases hr;rw[ai];unfold au;rw[XR]
 .rw[T9 (TR hk)]at hr;have Zj:q≠p:=λz=>hk (by
   subst z;have h1:=(Q9.mp hq);have h2:=(Q9.mp hp);exact(V2 h.nd).mp (h1.2.trans h2.2.symm))
  rw[ak Zj];exact h.row k q r' hq hr
theorem oV(h:At K H v rows)(hz:rows.length<=100000)(fin:∀d H' ps,ag H H'->H d=none->(∀p∈ps,H p=none)->Tbl H' d rows ps->Q (.ref d) H') :
  gF K v H (fK [x] [] (eQ 0) IS (tCB (zd K) (iZ (Eb 0) ng)) σ Q):=by
 k_mem;have hl:=hP.length;refine⟨p,rfl,⟨xs,hS⟩,λd hd=>?_⟩;refine⟨λi m σ' H'=>m=xs.length - i/\i<=xs.length/\(∃y,σ'=[y])/\ag H H'/\∃ps,(∀p∈ps,H p=none)/\Tbl H' d (rows.take i) ps,⟨xs.length,rfl,R5 _,⟨_,rfl⟩,ar hd _,[],by simp,⟨ai,Vj,by simp,by simp,λi p r e _=>by simp at e⟩⟩,?_⟩
 rintro i m σ' H' ⟨rfl,hi,⟨y,rfl⟩,hs,ps,hps,T⟩
 by_cases Zd:i<xs.length
 .refine .inr ⟨⟨xs,xs[i],hs.seq hS,by simp[Zd]⟩,λz H2 yl=>?_⟩
  obtain⟨rfl,hz'⟩:=yl;have hx:=hz' xs (hs.seq hS);obtain⟨c,hc,r⟩:=Paired.getL hP hx;obtain⟨q,e,hq⟩:=lz (Rep.mono hs r);subst e;have tl:=T.len;have hci:i<rows.length:=(Q9.mp hc).1;rw[RG,Nat.min_eq_left (by lia)]at tl
  refine Gn ?_;refine Kg ?_;refine vX ?_;refine⟨_,rfl,q,_,rfl,.inl hq,λl hl'=>?_⟩;have nld:l≠d:=λe=>by rw[e,T.top]at hl';cases hl'
  have hHl:H l=none:=hs.free hl';refine⟨_,(by rw[ak nld.symm];exact T.top),?_,xs.length - (i+1),by lia,rfl,Zd,⟨_,rfl⟩,λb o eb=>?_,ps++[l],λp' hp'=>?_,?_⟩
  .rw[Rc,tl,RO];lia
  .rw[ak (av eb hd),ak (av eb hHl)];exact hs b o eb
  .rcases Rq.mp hp' with z|z
   .exact hps p' z
   .rw[Rj.mp z];exact hHl
  .have nlp:l∉ps:=λz=>by
    obtain⟨k,hk⟩:=RD z;have Zv:k<i:=by have:=(Q9.mp hk).1;lia
    have hr:(rows.take i)[k]?=some (rows[k]'(by lia)):=by rw[SK Zv];simp
    have z1:=T.row k l _ hk hr;rw[z1]at hl';cases hl'
   refine⟨by rw[ai,R3];rfl,?_,?_,?_,λk p' r' hk hr=>?_⟩
   .rw[Uy];exact⟨T.nd,by simp,λa ha b hb=>by rw[Rj.mp hb];exact λz=>nlp (z ▸ ha)⟩
   .intro z;rcases Rq.mp z with z|z
    .exact T.ap z
    .exact nld (Rj.mp z).symm
   .rw[Rt,RG,Nat.min_eq_left (by lia)];simp;lia
   .have nd':p'≠d:=λz=>by
     rw[z]at hk;rcases Rq.mp (Rb hk) with z' | z'
     .exact T.ap z'
     .exact nld (Rj.mp z').symm
    rw[ak nd']
    by_cases hki:k<i
    .rw[RI (by lia)]at hk
     have hr2:(rows.take i)[k]?=some r':=by
      rw[SK (by lia)]at hr ⊢;exact hr
     have np:p'≠l:=λz=>nlp (by rw[<- z];exact Rb hk)
     rw[ak np];exact T.row k p' r' hk hr2
    .have hk2:k<i+1:=by
      have:=(Q9.mp hr).1;rw[RG]at this;lia
     have ek:k=i:=by lia
     subst ek;rw[RK (by lia),tl,WC]at hk
     have e1:l=p':=by simpa using hk
     subst e1;rw[SK (by lia),hc]at hr
     cases hr;rw[ai];unfold au;rfl
 .have e:i=xs.length:=by lia
  subst e;refine .inl ⟨⟨xs,hs.seq hS,Ru _⟩,?_⟩;rw[hl,Sr]at T;exact fin d H' ps hs hd hps T
noncomputable def Wr(K:Q7){α:Type}[Rep α](t:TE)(a:α):Prop:=∀σ H Q,(∀v H',ag H H'->At K H' v a->Q v H')->t σ H Q
noncomputable def WrA(K:Q7){α:Type}[Rep α](t:TA)(l:List α):Prop:=∀σ H Q,(∀vs H',ag H H'->Sz (Rep.is K H') vs l->Q vs H')->t σ H Q
section
variable {α:Type}[Rep α]{t:TE}{a:α}{l:List α}
theorem Gs{i:Int}(e:i=(n:Int)):Wr K (tC (.int i)) n:=λ_ H _ q=>q _ H (ag.refl _) (by rw[e];rfl)
theorem jb:WrA K ng ([]:List α):=λ_ H _ q=>q [] H (ag.refl _) .nil
theorem wD(h:Wr K t a)(hr:WrA K tA l):WrA K (iZ t tA) (a :: l):=λσ H Q q=>h σ H _ λv H1 s1 a1=>hr σ H1 _ λvs H2 s2 a2=>q _ H2 (s1.trans s2) (.cons (Rep.mono s2 a1) a2)
theorem G1(h:WrA K tA l)(hz:l.length<=1000):Wr K (Bf tA) l:=λσ H Q q=>h σ H _ λvs H1 s1 a1=>⟨by have:=a1.length;exact small (by lia),λp hp=>q _ _ (s1.trans (ar hp _)) ⟨p,vs,rfl,SqL.of ai,Paired.b5 a1 λ_ _ z=>Rep.mono (ar hp _) z⟩⟩
end
theorem Pk{α:Type}[Rep α]{x:V}{l r:List α}(hx:∃p xs,x=.ref p/\H p=some (.lst xs)/\Sz (Rep.is K H) xs l)(hy:∃p xs,y=.ref p/\H p=some (.lst xs)/\Sz (Rep.is K H) xs r)(hz:l.length+r.length<=100000)
  (q:∀d H',H d=none->ag H H'->At K H' (.ref d) (l++r)->Q (.ref d) H'):Je x y H Q:=by
 obtain⟨p,xs,rfl,h1,r1⟩:=hx;obtain⟨p',ys,rfl,h2,r2⟩:=hy;have e1:=r1.length;have e2:=r2.length;refine⟨p,p',xs,ys,rfl,rfl,h1,h2,by rw[RO];lia,λd hd=>q d _ hd (ar hd _) ⟨d,_,rfl,SqL.of ai,Paired.app (Paired.b5 r1 λ_ _ z=>Rep.mono (ar hd _) z) (Paired.b5 r2 λ_ _ z=>Rep.mono (ar hd _) z)⟩⟩
noncomputable def isStar:Expr->Bool
 | .Starred ..=>true
 | _=>false
theorem a7(h:isStar e=false):So (e :: es) env=(false,eval e env) :: So es env:=by
 cases e <;> first|rfl|cases h
theorem cD{env:Env}{pos:Pos}:∀ {es:Y8},es.all (λe=>!isStar e)=true->(backTo pos (So es env)).any (·.1)=false
 | [],_=>rfl
 | e :: es,h=>by
  rw[Xe,Tu]at h;rw[a7 (by simpa using h.1)]
  have ih:=cD (env:=env) (pos:=pos) h.2;show (backTo pos ((false,eval e env) :: So es env)).any (·.1)=false;unfold backTo at ih ⊢
  simpa using ih
theorem HX(h:es.all (λe=>!isStar e)=true)(hl:es.length<30):((backTo pos (So es env)).all (λx=>!x.1) && (backToKw pos (keywordEach [] env)).all (λx=>x.1.isSome)
   && decide (es.length+([]:List XI).length+(if ([]:List XI).isEmpty then 0 else 1)<30))=true:=by
 have h1:=cD (env:=env) (pos:=pos) h;have h2:(backTo pos (So es env)).all (λx=>!x.1)=true:=by
  rw[VL]at h1;rw[RS];intro x hx;have:=h1 x hx
  simpa using this
 rw[h2];show (true && true && decide (es.length+0+0<30))=true
 simpa using hl
section
variable {o:Expr}{te:TE}{st:Stmt}{ps:Z0}{p:Pos}
theorem paF(ha:PE X e te)(hr:PA X es t)(hn:isStar e=false:=by rfl):PA X (e :: es) (iZ te t):=wb ha hr (a7 hn)
theorem NG(d:Df X.K X.mg x st ps)(G:aH X.prog X.w X.K X.mg X.base CX0 k d.f d.fd ps sp)(hr:bQ k X.A)(hg:Gl X x)(ha:PA X (e :: es) t)(hn:isStar e=false:=by rfl)(Zh:es.all (λe=>!isStar e)=true:=by rfl)(ZA:(x == ("__debug__" : Str))=false:=by decide) :
  PE X (.Call (.Name x p) (e :: es) [] pos) (kN sp [] E0 t):=OQ d G hr hg ha ZA (a7 hn) (cD Zh)
theorem bK{id:String}{r:List V->Hp->VK->Prop}(hc:cz X (.builtin id) r)(hg:Gl X x)(hm:X.mg x=none)(hv:bootBuiltins x=some (.builtin id))(ha:PA X (e :: es) t)(Z':isStar e=false:=by rfl)(Zh:es.all (λe=>!isStar e)=true:=by rfl)(hn:x ≠ "__name__":=by decide)(ZA:(x == ("__debug__" : Str))=false:=by decide) :
  PE X (.Call (.Name x p) (e :: es) [] pos) (tCB r t):=IE hc hg hm hv ha hn ZA (a7 Z') (cD Zh)
theorem cb{r:List V->Hp->VK->Prop}(hc:cz X (.type T) r)(hg:Gl X x)(hm:X.mg x=none)(hv:bootBuiltins x=some (.type T))(ha:PA X (e :: es) t)(Z':isStar e=false:=by rfl)(Zh:es.all (λe=>!isStar e)=true:=by rfl)(hn:x ≠ "__name__":=by decide)(ZA:(x == ("__debug__" : Str))=false:=by decide) :
  PE X (.Call (.Name x p) (e :: es) [] pos) (tCB r t):=Gu hc hg hm hv ha hn ZA (a7 Z') (cD Zh)
theorem qR(K:Q7)(hK:X.K=K){id:String}{to:TE}(pa:X8 T)(slot:Slot T name id)(hty:typeOf (.builtin id)=pure (.type "method_descriptor"))(hm:MtR X id r)(ho:PE X o to)(ha:PA X (e :: es) t)
  (Zq:attributeBase o name X.env (eval o X.env)=eval o X.env:=by rfl) (hn:isStar e=false:=by rfl) (Zh:es.all (λe=>!isStar e)=true:=by rfl) (hl:(e :: es).length<30:=by decide) (Zr:(apos.endLine == Zg.line)=true:=by rfl) :
  PE X (.Call (.Attribute o name apos) (e :: es) [] Zg) (tBM K T r to t) :=
 MF K hK pa slot hty hm ho ha Zq (HX (by rw[Xe,hn,Zh];rfl) hl) Zr (a7 hn) (cD Zh)
theorem EU(hg:Gl X "range")(hm:X.mg "range" = none)(ha:PA X [a] ta)(hn:isStar a=false:=by rfl):PI X tg (.Call (.Name "range" p) [a] [] pos) (ze ta):=G9 hg hm ha (a7 hn)
theorem iE(K:Q7)(hK:X.K=K)(hg:Gl X "enumerate")(hm:X.mg "enumerate" = none)(ha:PA X [a] ta)(hn:isStar a=false:=by rfl) :
  PI X (.Tuple tgs kk Q!) (.Call (.Name "enumerate" p) [a] [] pos) (E5 K ta):=Hv K hK hg hm ha (a7 hn)
end
section
variable {CX:CXT}{f C:Addr}{fd:SO}{ps:Z0}{E:XK}{p:Pos} 
theorem oz(M:Mk X.K C f)(F:aH X.prog X.w X.K X.mg X.base CX k f fd ps sp)(hr:bQ (k+1) X.A)(hg:Gl X x)(hm:X.mg x=some (.ref C))(hb:Binds X.K fd ps ds)(hd:Vals dvs ds)(hx:Passes CX X E)
  (ha:PA X (e :: es) t) (hn:isStar e=false:=by rfl) (Zh:es.all (λe=>!isStar e)=true:=by rfl) (ZA:(x == ("__debug__" : Str))=false:=by decide):PE X (.Call (.Name x p) (e :: es) [] pos) (DV C sp dvs E t) :=
 Kw M F hr hg hm hb hd hx ha ZA (a7 hn) (cD Zh)
end
section
variable {a b:Nat}
theorem Qy(h:Q (.int ((@OfNat.ofNat Nat n (instOfNatNat n):Nat):Int)) H):tC (.int (@OfNat.ofNat Int n instOfNat)) σ H Q:=h
theorem L7(q:Q (.int ((a+b:Nat):Int)) H):rI0 (λi j=>.int (i+j)) (.int a) (.int b) H Q:=⟨a,b,rfl,rfl,by
 have e:(a:Int)+(b:Int)=((a+b:Nat):Int):=by lia
 dsimp only;rw[e];exact q⟩
theorem NC(h:a<18446744073709551616\/b<18446744073709551616)(q:Q (.int ((a * b:Nat):Int)) H):rI DM (λi j=>.int (i * j)) (.int a) (.int b) H Q:=⟨a,b,rfl,rfl,by
 rcases h with h|h
 .exact .inl ⟨by lia,by lia⟩
 .exact .inr ⟨by lia,by lia⟩,by
 have e:(a:Int) * (b:Int)=((a * b:Nat):Int):=by push_cast;rfl
 dsimp only;rw[e];exact q⟩
theorem zw(h:0<b)(q:Q (.int ((a % b:Nat):Int)) H):rI (λ_ j=>0<j) (λi j=>.int (i % j)) (.int a) (.int b) H Q:=⟨a,b,rfl,rfl,by lia,by
 have e:(a:Int) % (b:Int)=((a % b:Nat):Int):=by push_cast;rfl
 dsimp only;rw[e];exact q⟩
theorem Gv(h:0<b)(h2:b<1073741824)(q:Q (.int ((a / b:Nat):Int)) H):rI NL (λi j=>.int (i / j)) (.int a) (.int b) H Q:=⟨a,b,rfl,rfl,⟨by lia,by lia⟩,by
 have e:(a:Int) / (b:Int)=((a / b:Nat):Int):=by push_cast;rfl
 dsimp only;rw[e];exact q⟩
theorem lP{p q:Prop}[Decidable p][Decidable q](h:p↔q)(z:R (decide q)):R (decide p):=by
 rw[decide_eq_decide.mpr h];exact z
theorem OJ(q:Q (.bl (decide (a=b))) H):rEq (.int a) (.int b) H Q:=DK (lP (R:=λk=>Q (.bl k) H) (by lia) q)
theorem Px(q:Q (.bl (!decide (a=b))) H):rNe (.int a) (.int b) H Q:=Fh (lP (R:=λk=>Q (.bl (!k)) H) (by lia) q)
theorem Pw(q:Q (.bl (decide (a<b))) H):rI0 (λi j=>.bl (decide (i<j))) (.int a) (.int b) H Q:=⟨a,b,rfl,rfl,lP (R:=λk=>Q (.bl k) H) (by lia) q⟩
theorem Pr(q:Q (.bl (decide (b<a))) H):rI0 (λi j=>.bl (decide (j<i))) (.int a) (.int b) H Q:=⟨a,b,rfl,rfl,lP (R:=λk=>Q (.bl k) H) (by lia) q⟩
theorem Oz(q:Q (.bl (decide (b<=a))) H):rI0 (λi j=>.bl (decide (j<=i))) (.int a) (.int b) H Q:=⟨a,b,rfl,rfl,lP (R:=λk=>Q (.bl k) H) (by lia) q⟩
theorem bh{l:AT}{c:Nat}(h:At K H v l)(hn:l[n]?=some c)(q:Q (.int c) H):lF K v (.int n) H Q:=ik h rfl hn q
end
section
variable {β:Type}[Rep β]{l:List β}{b:β} 
theorem Io(h:Gr K H d l)(hk:k<=l.length)(hl:l.length<=100000)(hy:At K (del H d) y b)(q:∀H',Gr K H' d (l.take k++b :: l.drop k)->(∀a o,a≠d->H a=some o->H' a=some o)->Q .non H'):Dv (.ref d) [.int k,y] H Q:=by
 obtain⟨ys,h1,h2⟩:=h;have e:=h2.length;refine⟨d,ys,k,y,rfl,rfl,h1,by lia,by lia,by lia,?_⟩
 refine q _ ⟨_,ai,?_⟩ (λa o ha z=>by rw[ak ha];exact z)
 rw[S1];exact Paired.app (Paired.ER k (Paired.b5 h2 λ_ _ z=>Rep.mono eB z)) (.cons (Rep.mono eB hy) (Paired.E3 k (Paired.b5 h2 λ_ _ z=>Rep.mono eB z)))
end
theorem Pp(k:∀a o,a≠d->H a=some o->H' a=some o):ag (del H d) (del H' d):=λb o h=>by
 by_cases hb:b=d
 .l_out
 .rw[bS hb]at h ⊢;exact k b o hb h
theorem pB{l:AT}(h:Gr K H p l)(Zj:p≠d):At K (del H d) (.ref p) l:=by
 obtain⟨ys,hy,hP⟩:=h;refine⟨p,ys,rfl,SqL.of (by rw[bS Zj];exact hy),?_⟩
 exact Paired.b5 hP λ_ _ z=>z
theorem OF(h:Tbl H d rows ps)(hp:ps[i]?=some p)(q:Q (.ref p) H):lF K (.ref d) (.int i) H Q :=
 ⟨d,_,_,_,rfl,rfl,SqL.of h.top,eS (by rw[Ro,hp];rfl),q⟩
theorem Hl{α:Type}(l:List α):cut l (some 1) none=l.drop 1:=by
 unfold cut;have e:HT.sIx l.length 0 (some 1)=min 1 l.length:=HT.LO l.length 0 1;rw[e,HT.IM];cases l with
 | nil=>rfl
 | cons x r =>
  have:min 1 (x :: r).length=1:=by simp
  rw[this];exact RQ (by simp)
theorem Gr.copy{α:Type}[Rep α]{l:List α}(h:Gr K H d l):∃p xs,V.ref d=.ref p/\H p=some (.lst xs)/\Sz (Rep.is K H) xs l:=by
 obtain⟨ys,h1,h2⟩:=h;exact⟨d,ys,rfl,h1,Paired.b5 h2 λ_ _ z=>Rep.mono dE z⟩
theorem eC{α:Type}[Rep α]{l:List α}(h:WrA K tA l)(hz:l.length<=1000)(q:∀d H',H d=none->ag H H'->Gr K H' d l->Q (.ref d) H'):Bf tA σ H Q :=
 h σ H _ λvs H1 s1 a1=>⟨by have:=a1.length;exact small (by lia),λp hp=>q p _ (s1.free hp) (s1.trans (ar hp _)) ⟨vs,ai,Paired.b5 a1 λ_ _ z=>Rep.mono (λb o e=>by
  have hb:b≠p:=av e hp;rw[bS hb,ak hb];exact e) z⟩⟩
noncomputable def since(H H':Hp):Hp:=λa=>match H a with
 | none=>H' a
 | some _=>none
section
variable {Zn:Hp}{a:Addr} 
theorem oE(h:H a=none):since H H' a=H' a:=by unfold since;rw[h]
theorem HA:ag (since H H') H':=λb o h=>by
 unfold since at h
 split at h
 .exact h
 .cases h
theorem Tbl.since(h:Tbl H' d rows ps)(fd:H d=none)(d6:∀p∈ps,H p=none):Tbl (since H H') d rows ps :=
 ⟨by rw[oE fd];exact h.top,h.nd,h.ap,h.len,λi p r e1 e2=>by rw[oE (d6 p (Rb e1))];exact h.row i p r e1 e2⟩
end
theorem dY{t:TS}{α:Type}[Rep α]{l:List α}(h:At K H₀ v l)(Pv:Z7)(h0:Pv 0 σ H)(hl:∀i σ' H',Pv i σ' H'->ag H₀ H')
  (hs:∀i c w σ' H',l[i]?=some c->At K H₀ w c->Pv i σ' H'->g w σ' H' λσ2 H2=>t { D with nx:=Pv (i+1),ct:=Pv (i+1),bk:=D.nx } σ2 H2) (hd:∀σ' H',Pv l.length σ' H'->D.nx σ' H') :
  gF K v H (eI g t D σ):=by
 k_mem;refine⟨p,rfl,⟨xs,(hl 0 σ H h0).seq hS⟩,n9 (K:=K) (a:=p) (xs:=xs) Pv h0 (λi σ' H' _ q=>(hl i σ' H' q).seq hS) (λi x σ' H' hx q=>?_) (λσ' H' q=>?_)⟩
 .obtain⟨c,hc,r⟩:=Paired.getL hP hx;exact hs i c x σ' H' hc r q
 .rw[hP.length]at q;exact hd σ' H' q
theorem jz{c:TT}{t:TS}(W:Z7)(m:Nat)(h0:W m σ H)
  (hs:∀m σ' H',W m σ' H'->c σ' H' λb H1=>if b=true then ∃N:St->Hp->Prop,(∀σ2 H2,N σ2 H2->∃m',m' < m/\W m' σ2 H2)/\t { D with nx:=N,ct:=N,bk:=D.nx } σ' H1 else D.nx σ' H1):FE c t D σ H:=⟨W,⟨m,h0⟩,hs⟩
noncomputable def IZ(K:Q7):List V->Hp->VK->Prop:=λxs H Q=>∃ (p:Addr) (bs:List Bool),xs=[.ref p]/\SqL K H p (bs.map V.bl)/\Q (.bl (bs.any id)) H
noncomputable def Jf(K:Q7):List V->Hp->VK->Prop:=λxs H Q=>∃ (p:Addr) (bs:List Bool),xs=[.ref p]/\SqL K H p (bs.map V.bl)/\Q (.bl (bs.all id)) H
theorem qp:∀ {bs:List Bool} {Zb:Y7},Vals (bs.map V.bl) Zb->∀ (i:Nat) (v:Value),Zb[i]?=some v->∃b,bs[i]?=some b/\v=.bool b
 | [],_,.nil,i,v,e=>by simp at e
 | b :: bs,_,.cons r t,0,v,e=>by
  simp at e;subst e;exact⟨b,rfl,r⟩
 | b :: bs,_,.cons r t,i+1,v,e=>by
  obtain⟨c,h1,h2⟩:=qp (bs:=bs) t i v (by simpa using e)
  exact⟨c,by simpa using h1,h2⟩
theorem Ew(bs:List Bool):((Rh bs.length).any λi=>(bs[i]?).getD false)=bs.any id:=by
 rw[Tp,V4,V4];constructor
 .rintro⟨i,hi,e⟩;have ZJ:=Ri.mp hi;simp only[Q8 ZJ,US]at e;exact⟨_,Sd ZJ,e⟩
 .rintro⟨b,hb,e⟩;obtain⟨i,hi,rfl⟩:=Wh hb;exact⟨i,Ri.mpr hi,by simp only[Q8 hi,US];exact e⟩
theorem E7(bs:List Bool):((Rh bs.length).all λi=>(bs[i]?).getD true)=bs.all id:=by
 rw[Tp,RS,RS];constructor
 .intro h b hb;obtain⟨i,hi,rfl⟩:=Wh hb;have:=h i (Ri.mpr hi);simp only[Q8 hi,US]at this;o_rec
 .intro h i hi;have ZJ:=Ri.mp hi;simp only[Q8 ZJ,US];exact h _ (Sd ZJ)
theorem FH(hc:X.calm=true):cz X (.builtin "any") (IZ X.K):=by
 k_asm;obtain⟨p,bs,rfl,hS,q⟩:=h;f_int;have hl:=pl.isList;have hlen:Zb.length=bs.length:=by have:=rv.length;simp at this;lia
 have Zd:p<s.heap.objs.size:=by obtain⟨_,e,_⟩:=hl;exact Rv e
 refine call_any_walk (Vc hl ?_);refine⟨s.heap.objs.size,[s.heap.objs.size,p],[s.heap.objs.size],Zb.toArray.size,_,_,λi=>(bs[i]?).getD false,rfl,X9 (A:=X.A.in1) (I.ok.hd hc) _ p (Ry Zd) Zb.toArray,
  ⟨⟨_,RC _ rfl,rfl,rfl⟩,hl.push _⟩,λi v s' Q' E' hP hQ=>?_,λh' tk hk=>?_⟩
 .obtain⟨b,e,rfl⟩:=qp rv i v (by simpa using hP)
  simp only[e,US]at hQ;exact Tx hQ
 .have e:((Rh Zb.toArray.size).any λi=>(bs[i]?).getD false)=bs.any id:=by
   rw[Rx,hlen];exact Ew bs
  rw[e];exact⟨.bl _,H,I.kept (t':=tk) (λb x e=>hk b x (λhm=>by rw[Rj.mp hm]at e;exact Td _ (Rv e)) (Rl _ e)),rfl,q⟩
theorem GN(hc:X.calm=true):cz X (.builtin "all") (Jf X.K):=by
 k_asm;obtain⟨p,bs,rfl,hS,q⟩:=h;f_int;have hl:=pl.isList;have hlen:Zb.length=bs.length:=by have:=rv.length;simp at this;lia
 have Zd:p<s.heap.objs.size:=by obtain⟨_,e,_⟩:=hl;exact Rv e
 refine call_all_walk (Vc hl ?_);refine⟨s.heap.objs.size,[s.heap.objs.size,p],[s.heap.objs.size],Zb.toArray.size,_,_,λi=>(bs[i]?).getD true,rfl,X9 (A:=X.A.in1) (I.ok.hd hc) _ p (Ry Zd) Zb.toArray,
  ⟨⟨_,RC _ rfl,rfl,rfl⟩,hl.push _⟩,λi v s' Q' E' hP hQ=>?_,λh' tk hk=>?_⟩
 .obtain⟨b,e,rfl⟩:=qp rv i v (by simpa using hP)
  simp only[e,US]at hQ;exact Tx hQ
 .have e:((Rh Zb.toArray.size).all λi=>(bs[i]?).getD true)=bs.all id:=by
   rw[Rx,hlen];exact E7 bs
  rw[e];exact⟨.bl _,H,I.kept (t':=tk) (λb x e=>hk b x (λhm=>by rw[Rj.mp hm]at e;exact Td _ (Rv e)) (Rl _ e)),rfl,q⟩
theorem xk(K:Q7)(hK:X.K=K)(hc:X.calm=true):cz X (.builtin "any") (IZ K):=by subst hK;exact FH hc
theorem xw(K:Q7)(hK:X.K=K)(hc:X.calm=true):cz X (.builtin "all") (Jf K):=by subst hK;exact GN hc
theorem zM(h:At K H v bs):∃p,v=.ref p/\SqL K H p (bs.map V.bl):=by
 k_mem;refine⟨p,rfl,?_⟩;have e:xs=bs.map V.bl:=by
  clear hS
  induction hP with
  | nil=>rfl
  | cons r _ ih=>rw[Si,<- ih];exact congrArg (· :: _) r
 rw[<- e];exact hS
theorem JE(h:At K H v bs)(q:Q (.bl (bs.any id)) H):IZ K [v] H Q:=by
 obtain⟨p,rfl,hS⟩:=zM h;exact⟨p,bs,rfl,hS,q⟩
theorem GQ(h:At K H v bs)(q:Q (.bl (bs.all id)) H):Jf K [v] H Q:=by
 obtain⟨p,rfl,hS⟩:=zM h;exact⟨p,bs,rfl,hS,q⟩
theorem Qt{f:Int->V}{a:Int}(h:Q (f a) H):rU f (.int a) H Q:=⟨a,rfl,h⟩
theorem pb:∀ {ns:YZ} {Zb:Y7},Vals (ns.map V.int) Zb->V3 Zb ns
 | [],_,.nil=>.nil
 | n :: ns,_,.cons r t=>by
  obtain⟨tk,e⟩:=(show ∃tk,_=Ui n tk from r);subst e;exact .cons n tk (pb t)
noncomputable def Gb:V->List V->Hp->VK->Prop:=λx vs H Q=>∃ (l:Addr) (ns:YZ) (k:Int),x=.ref l/\vs=[.int k]/\H l=some (.lst (ns.map V.int))/\k∈ns/\Q (.int (ns.idxOf k:Nat)) H
theorem HJ :MtM X "list.index" Gb:=by
 walk_at "129";obtain⟨l,ns,k,rfl,rfl,hH,hk,q⟩:=h;cases rx;obtain⟨u,rfl,ru⟩:=rv.one;obtain⟨t,rfl⟩:=(show ∃t,u=Ui k t from ru);obtain⟨z,Zb,n,r,hl',e⟩:=I.oe hH;have hi:=pb r;have hlen:=hi.length;have hj:ns.idxOf k<ns.length:=WY.mpr hk;have hz:ns.length<=RV:=by simpa using z
 rw[RO]at hz;refine Vs Xf ⟨_,e,rfl⟩ PySem.F.entry_list_index (PySem.F.args_list_index_2 _ _)
  (SeqAt.list_indexAt l Zb.toArray n none #[] (.int k t) (isInt k) (ns.idxOf k) (by simpa[hlen] using hj) (by lia) ?_ ?_) ⟨e,λy hy=>(eq_isInt k t hi y (by simpa using hy)).at _ _,⟨.int _,H,I.tok _,⟨_,rfl⟩,q⟩⟩
 .show isInt k Zb[ns.idxOf k]=true;rw[isInt_at k hi _ (by lia) hj]
  simpa using U0 hj
 .intro j hjs Zd;show isInt k Zb[j]=false;rw[isInt_at k hi j (by simpa using hjs) (by lia)]
  exact ne_of_lt_idxOf Zd _
theorem LI{r:AT}(h:H p=some (.lst (au r)))(hk:r[j]?=some k)(hf:∀i,i<j->r[i]?≠some k)(q:Q (.int j) H):Gb (.ref p) [.int k] H Q:=by
 have hj:j<r.length:=(Q9.mp hk).1;have e1:au r=(r.map λ(n:Nat)=>(n:Int)).map V.int:=by
  unfold au;rw[T4];rfl
 have e2:(r.map λ(n:Nat)=>(n:Int)).idxOf (k:Int)=j:=by
  have hm:(k:Int)∈r.map λ(n:Nat)=>(n:Int):=Rw.mpr ⟨k,Rb hk,rfl⟩;have Zd:=WY.mpr hm;have hat:=U0 Zd;rw[Rc]at Zd;have hat':r[(r.map λ(n:Nat)=>(n:Int)).idxOf (k:Int)]?=some k:=by
   rw[Q8 Zd];rw[List.getElem_map]at hat;exact congrArg some (Yv hat)
  rcases S2 ((r.map λ(n:Nat)=>(n:Int)).idxOf (k:Int)) j with z|z|z
  .exact absurd hat' (hf _ z)
  .exact z
  .exfalso
   have:=ne_of_lt_idxOf z (by rw[Rc];exact hj)
   rw[Q8 hj]at hk;have Zv:=RW hk;simp[Zv]at this
 refine⟨p,r.map λ(n:Nat)=>(n:Int),k,rfl,rfl,by rw[<- e1];exact h,Rw.mpr ⟨k,Rb hk,rfl⟩,?_⟩
 rw[e2];exact q
theorem L1{tt:TT}{ta:TE}{β:Type}[Rep β](h:Tbl H d rows ps)(hz:rows.length<=100000)(acc:Nat->List β)(Sh:St->Prop)(U!:acc 0=[])(ZZ:∀i,i<=rows.length->(acc i).length<=i)(h0:Sh (cH own fr σ))
  (turn:∀i c p σ' H' (d:Addr) (R:St->V->Hp->Prop) (R0:Y4),rows[i]?=some c->ag H H'->H' p=some (.lst (au c))->Sh σ' ->
   (∀σ2 y b H5,Sh σ2->ag H' H5->At K (del H5 d) y b->acc (i+1)=acc i++[b]->R σ2 y H5)->(∀σ2 H5,Sh σ2->ag H' H5->acc (i+1)=acc i->R0 σ2 H5)->(∃ys,H' d=some (.lst ys)) ->
   g (.ref p) σ' H' λσ2 H3=>tt σ2 H3 λok H4=>if ok=true then ta σ2 H4 (R σ2) else R0 σ2 H4)
  (fin:∀d H',H d=none->ag H H'->(∃ys,H' d=some (.lst ys)/\Sz (Rep.is K (del H' d)) ys (acc rows.length))->Q (.ref d) H') :
  gF K (.ref d) H (fK own fr g tt ta σ Q):=by
 have hl:(ps.map V.ref).length=rows.length:=by rw[Rc,h.len]
 refine⟨d,rfl,⟨_,SqL.of h.top⟩,vC (J:=Itl K d) (n:=rows.length) (λi w H'=>∃p c,w=.ref p/\rows[i]?=some c/\H' p=some (.lst (au c))) acc Sh (λi H' hi e=>⟨_,(ps.map V.ref)[i]'(by lia),e.seq (SqL.of h.top),Q8 (by lia)⟩) (λH' e=>⟨_,e.seq (SqL.of h.top),U2 hl⟩)
  (λi H' x H2 hi e hy=>?_) hz U! ZZ h0 (λi w σ' H' d' R R0 hi e ⟨p,c,hw,hc,hp⟩=>by subst hw;exact turn i c p σ' H' d' R R0 hc e hp) fin⟩
 obtain⟨e1,e2⟩:=hy;have z:=e2 _ (e.seq (SqL.of h.top));rw[Ro]at z;cases q:ps[i]? with
 | none=>rw[q]at z;cases z
 | some p =>
  rw[q]at z;refine⟨e1,p,rows[i],(RW z).symm,Q8 hi,e _ _ (h.row i p _ q (Q8 hi))⟩
noncomputable def Ed:Expr->Option Int
 | .Constant (.int i) _ _=>some i
 | _=>none
noncomputable def uB:List Expr->Option (YZ)
 | []=>some []
 | e :: es=>match Ed e,uB es with
  | some i,some l=>some (i :: l)
  | _,_=>none
noncomputable def MD:Expr->Option (YZ)
 | .List es _=>uB es
 | _=>none
noncomputable def zg:List Expr->Option (List (YZ))
 | []=>some []
 | e :: es=>match MD e,zg es with
  | some i,some l=>some (i :: l)
  | _,_=>none
noncomputable def rJ:List Int->TA
 | []=>ng
 | i :: l=>iZ (tC (.int i)) (rJ l)
variable {d p:Addr}{K! v!:Array (Z6)}{X:Cx}{base:Heap}{H:Hp}{Za:Y0}{bs:List (Str×Value)}{fp:Y9}{es:Y8}{U':YZ}{l:AT}{N ps:Z0}{dvs xs:Y6}{j k:Nat}{pos:Pos}{K:Q7}{P:RB}{s:Rg}{A:Sj}{sp:Sp}{σ:St}{st:Stmt}{x y:Str}{mg:Y5}{t:TA}{Q:VK}{E:Value->Rg->Prop}{w:World}
noncomputable def va:List (YZ)->TA
 | []=>ng
 | r :: l=>iZ (Bf (rJ r)) (va l)
theorem tj{X:Cx}:∀ {es:Y8} (ns:YZ),uB es=some ns->PA X es (rJ ns)
 | [],ns,h=>by cases h;exact bZ
 | e :: es,ns,h=>by
  unfold uB at h
  split at h
  .rename_i i l h1 h2
   cases h;cases e with
   | Constant c j pos =>
    cases c with
    | int k =>
     have hk:k=i:=by simpa[Ed] using h1
     subst hk;exact wb aj (tj l h2) (a7 rfl)
    | _=>simp[Ed]at h1
   | _=>simp[Ed]at h1
  .cases h
theorem zB{X:Cx}:∀ {es:Y8} (rs:List (YZ)),zg es=some rs->PA X es (va rs)
 | [],rs,h=>by cases h;exact bZ
 | e :: es,rs,h=>by
  unfold zg at h
  split at h
  .rename_i i l h1 h2
   cases h;cases e with
   | List ls pos=>exact wb (bg (tj i h1)) (zB l h2) (a7 rfl)
   | _=>simp[MD]at h1
  .cases h
@[irreducible] noncomputable def BM(es:Y8)(ns:YZ):Bool:=decide (uB es=some ns)
@[irreducible] noncomputable def Ad(es:Y8)(rs:List (YZ)):Bool:=decide (zg es=some rs)
theorem LS(ns:YZ)(h:BM es ns=true):PA X es (rJ ns):=tj ns (by unfold BM at h;exact of_decide_eq_true h)
theorem LL(rs:List (YZ))(h:Ad es rs=true):PA X es (va rs):=zB rs (by unfold Ad at h;exact of_decide_eq_true h)
structure IsP(p:Prop):Prop where
 out:p
theorem sY(ns:YZ)(h:BM es ns=true):IsP (PA X es (rJ ns)):=⟨LS ns h⟩
theorem zE(rs:List (YZ))(h:Ad es rs=true):IsP (PA X es (va rs)):=⟨LL rs h⟩
theorem nY:∀ (l:AT),WrA K (rJ (l.map λ(n:Nat)=>(n:Int))) l
 | []=>jb
 | n :: l=>wD (Gs rfl) (nY l)
theorem vF:∀ (rs:AC),(∀r∈rs,r.length<=1000)->WrA K (va (rs.map λr=>r.map λ(n:Nat)=>(n:Int))) rs
 | [],_=>jb
 | r :: rs,h=>wD (G1 (nY r) (h r Rr)) (vF rs λx hx=>h x (Rp _ hx))
theorem mn:∀ {Zb:Y7} {ns:YZ},V3 Zb ns->Vals (ns.map V.int) Zb
 | _,_,.nil=>.nil
 | _,_,.cons n t r=>.cons ⟨t,rfl⟩ (mn r)
noncomputable def wL(K:Q7):List V->Hp->VK->Prop:=λxs H Q=>∃ (p:Addr) (ns:YZ),xs=[.ref p]/\SqL K H p (ns.map V.int)/\ns.length<64 /\
 ∀ (d:Addr) (U':YZ),H d=none->U'.Perm ns->U'.Pairwise (·<=·)->Q (.ref d) (upd H d (.lst (U'.map V.int)))
theorem Bi :cz X (.builtin "sorted") (wL X.K):=by
 k_asm;obtain⟨p,ns,rfl,hS,Z9,q⟩:=h;f_int;have hi:=pb rv;have hlen:=hi.length;refine sorted_ints pl.isList hi (by lia) λout U' a1 a2 a3=>?_
 obtain⟨c,hc⟩:=sortedAll_at s.heap Zb out;have hn:H (s.heap.objs.size+1)=none:=I.hok.fresh (S6 _);have hl':U'.length=ns.length:=a2.length_eq;refine⟨.ref (s.heap.objs.size+1),_,I.laid (o:=.lst (U'.map V.int)) (λb o e=>sortedAll_old e) (S6 _) ⟨?_,out.toList,c,mn a1,?_⟩,rfl,q _ U' hn a2 a3⟩
 .rw[Rc];exact small (by lia)
 .simpa[seqObj] using hc
theorem qw(K:Q7)(hK:X.K=K):cz X (.builtin "sorted") (wL K):=by subst hK;exact Bi
section
variable {H':Hp}{v:V}
theorem qJ(h:U'.Perm (l.map λ(n:Nat)=>(n:Int))):∃l':AT,U'=l'.map (λ(n:Nat)=>(n:Int))/\l'.Perm l:=by
 refine⟨U'.map WZ,?_,?_⟩
 .rw[T4];have e:∀x∈U',((λ(n:Nat)=>(n:Int)) ∘ WZ) x=x:=λx hx=>by
   obtain⟨n,_,rfl⟩:=Rw.mp (h.mem_iff.mp hx);rfl
  have:U'.map ((λ(n:Nat)=>(n:Int)) ∘ WZ)=U'.map id:=UO e;rw[this,Wg]
 .have:=h.map WZ;rw[T4]at this;have e:(WZ ∘ λ(n:Nat)=>(n:Int))=id:=by funext n;rfl
  rw[e,Wg]at this;o_rec
theorem i7(l:AT):au l=(l.map λ(n:Nat)=>(n:Int)).map V.int:=by
 unfold au;rw[T4];rfl
theorem AH(h:At K H v l)(hl:l.length<64)(q:∀ (d:Addr) (l':AT) (H':Hp),H d=none->ag H H'->l'.Perm l->l'.Pairwise (·<=·)->Gr K H' d l'->Q (.ref d) H'):wL K [v] H Q:=by
 obtain⟨p,rfl,hS⟩:=lz h;have Zz:SqL K H p ((l.map λ(n:Nat)=>(n:Int)).map V.int):=by
  have e:=i7 l;unfold au at e;rw[<- e];exact hS
 refine⟨p,_,rfl,Zz,by rw[Rc];exact hl,λd U' hd hp hs=>?_⟩
 obtain⟨l',rfl,hp'⟩:=qJ hp;have ZQ:l'.Pairwise (·<=·):=by
  rw[Vd]at hs;exact hs.imp λz=>by lia
 rw[<- i7];exact q d l' _ hd (ar hd _) hp' ZQ ⟨_,ai,dQ⟩
theorem GV(l:AT):(l.map λ(n:Nat)=>V.int n).all lh=true:=by
 rw[RS];intro x hx;obtain⟨n,_,rfl⟩:=Rw.mp hx;rfl
theorem Ds(x:Nat):∀l:AT,inV (.int x) (l.map λ(n:Nat)=>V.int n)=decide (x∈l)
 | []=>rfl
 | a :: l=>by
  have ih:=Ds x l;rw[Si];simp only[inV]at ih ⊢;rw[VA,ih];have e1:eqV (V.int a) (V.int x)=decide (x=a):=by
   show ((a:Int) == (x:Int))=decide (x=a);rw[Tp];simp;lia
  rw[e1,Tp];simp
theorem r9{x:Nat}(h:At K H v l)(q:Q (.bl (!decide (x∈l))) H):rIn K true (.int x) v H Q:=by
 obtain⟨p,rfl,hS⟩:=lz h;refine⟨p,_,rfl,.inl hS,rfl,GV l,?_⟩;rw[Ds];exact q
end
theorem kg(K:Q7)(hK:X.K=K):OpR X (compareOp .NotIn) (rIn K true):=by subst hK;exact AG
theorem Ae{α:Type}[Rep α]{x y:V}{l r:List α}(hx:∃p xs,x=.ref p/\H p=some (.lst xs)/\Sz (Rep.is K H) xs l)(hy:∃p xs,y=.ref p/\H p=some (.lst xs)/\Sz (Rep.is K H) xs r)(hz:l.length+r.length<=100000)
  (q:∀d H',H d=none->ag H H'->Gr K H' d (l++r)->Q (.ref d) H'):Je x y H Q:=by
 obtain⟨p,xs,rfl,h1,r1⟩:=hx;obtain⟨p',ys,rfl,h2,r2⟩:=hy;have e1:=r1.length;have e2:=r2.length;have sm:∀ {d:Addr} {o:HO},H d=none->ag H (del (upd H d o) d):=λ{d o} hd b u z=>by
  have hb:b≠d:=av z hd;rw[bS hb,ak hb];exact z
 refine⟨p,p',xs,ys,rfl,rfl,h1,h2,by rw[RO];lia,λd hd=>q d _ hd (ar hd _) ⟨_,ai,Paired.app (Paired.b5 r1 λ_ _ z=>Rep.mono (sm hd) z) (Paired.b5 r2 λ_ _ z=>Rep.mono (sm hd) z)⟩⟩
section
variable {α β:Type}[Rep α][DecidableEq α][aJ α][Rep β][DecidableEq β][aJ β]
theorem K6{q:Addr}{x1 x2 y1 y2:V}{a c:α}{b d:β}(I:Inv X Za σ H s)(hp:SqT X.K H p [x1,x2])(h1:At X.K H x1 a)(h2:At X.K H x2 b)(hq:SqT X.K H q [y1,y2])(h3:At X.K H y1 c)(h4:At X.K H y2 d)
  (hu:A.units+(max (aJ.depth α) (aJ.depth β)+1)<cLine):SeqAt.RcAt A s (.ref p) (.ref q) (decide ((a,b)=(c,d))):=by
 obtain⟨Zb,v1,t1,_⟩:=I.tuple hp;obtain⟨Ze,v2,t2,_⟩:=I.tuple hq;obtain⟨u1,u2,rfl,r1,r2⟩:=v1.two;obtain⟨w1,w2,rfl,r3,r4⟩:=v2.two;have e1:=aJ.eq (A:=A.in1) I h1 h3 r1 r3 (by show A.units+1+_<_;lia)
 have e2:=aJ.eq (A:=A.in1) I h2 h4 r2 r4 (by show A.units+1+_<_;lia)
 have z:=SeqAt.RcAt.tuples (A:=A) (e:=λj=>if j=0 then decide (a=c) else decide (b=d)) t1 t2 (by lia) λj hj1 hj2=>by
  have hj:j<2:=by simpa using hj1
  match j,hj with
  | 0,_=>exact e1
  | 1,_=>exact e2
 have ek:((Rh (min (#[u1,u2]:Z2).size (#[w1,w2]:Z2).size)).all (λj=>if j=0 then decide (a=c) else decide (b=d)) && (#[u1,u2]:Z2).size == (#[w1,w2]:Z2).size)=decide ((a,b)=(c,d)):=by
  have:(Rh (min (#[u1,u2]:Z2).size (#[w1,w2]:Z2).size))=[0,1]:=rfl;rw[this,Tp];simp
 rw[<- ek];exact z
noncomputable instance:aJ (α×β) where
 depth:=max (aJ.depth α) (aJ.depth β)+1
 inj:=λ{X Za σ H s x a b} I h h'=>by
  obtain⟨p,x1,x2,e,h1,h2,h3⟩:=h;obtain⟨q,y1,y2,e',h4,h5,h6⟩:=h';subst e;cases e';have z:=I.xS h1 h4;cases z;exact Prod.ext (aJ.inj I h2 h5) (aJ.inj I h3 h6)
 eq:=λ{X Za σ H s A x y u v a b} I hx hy ru rv hu=>by
  obtain⟨p,x1,x2,e,h1,h2,h3⟩:=hx;obtain⟨q,y1,y2,e',h4,h5,h6⟩:=hy;k_all
  by_cases hpq:p=q
  .subst hpq;have z:=I.xS h1 h4;cases z;have e1:a=b:=Prod.ext (aJ.inj I h2 h5) (aJ.inj I h3 h6);rw[decide_eq_true e1];exact XM _
  .exact SeqAt.EqAt.of_refs hpq (K6 I h1 h2 h3 h4 h5 h6 hu)
end
theorem ML(h:H p=some (.tup xs))(q:Q (.int (xs.length:Int)) H):EM K [.ref p] H Q:=⟨p,xs,rfl,.inr (SqT.of h),q⟩
theorem fQ{i:Nat}{x:V}(h:H p=some (.tup xs))(hx:xs[i]?=some x)(q:Q x H):Ia K (.ref p) (.int i) H Q:=⟨p,xs,_,x,rfl,rfl,SqT.of h,eS hx,q⟩
theorem CO{a b:Nat}(h:H p=some (.tup [.int a,.int b])):At K H (.ref p) ((a,b):Nat×Nat):=⟨p,_,_,rfl,SqT.of h,rfl,rfl⟩
theorem wu{g:TG}{t:TS}{D:Ends}{ps:Y9}(Pv:Z7)(h0:Pv 0 σ H)(hl:∀i σ' H',Pv i σ' H'->H' d=some (.lst (ps.map V.ref)))
  (hs:∀i p σ' H',ps[i]?=some p->Pv i σ' H'->g (.ref p) σ' H' λσ2 H2=>t { D with nx:=Pv (i+1),ct:=Pv (i+1),bk:=D.nx } σ2 H2) (hd:∀σ' H',Pv ps.length σ' H'->D.nx σ' H') :
  gF K (.ref d) H (eI g t D σ):=by
 refine⟨d,rfl,⟨_,SqL.of (hl 0 σ H h0)⟩,n9 (K:=K) (a:=d) (xs:=ps.map V.ref) Pv h0 (λi σ' H' _ q=>SqL.of (hl i σ' H' q)) (λi x σ' H' hx q=>?_) (λσ' H' q=>?_)⟩
 .rw[Ro]at hx;cases e:ps[i]? with
  | none=>rw[e]at hx;cases hx
  | some p =>
   rw[e]at hx;have ZO:x=V.ref p:=(RW hx).symm;subst ZO;exact hs i p σ' H' e q
 .rw[Rc]at q;exact hd σ' H' q
theorem zZ(K:Q7)(hK:X.K=K){p1 p2:Pos}{i:Nat}(hc:X.calm=true)(hN:X.N.Nodup)(hi:X.N[i]?=some x)(hx:Loc X.env.scope x)(hj:X.N[j]?=some y)(hy:Loc X.env.scope y)
  (hf:X.fn x=true\/X.env.scope.names.lookup x=some .local:=by first|exact .inl rfl|exact .inr rfl|assumption) (hf':X.fn y=true\/X.env.scope.names.lookup y=some .local:=by first|exact .inl rfl|exact .inr rfl|assumption) :
  PG X (.Tuple [.Name x p1,.Name y p2] k pos) (AO K 2 (kU (eQ i) (kU (eQ j) AY))):=by
 subst hK;exact md hc (c7 (vw hN hi hx hf) (c7 (vw hN hj hy hf') js))
theorem C2{α:Type}[Rep α]{v:V}{l:List α}(h:At K H v l)(q:∀p H',H p=none->ag H H'->Gr K H' p l->Q (.ref p) H'):zd K [v] H Q:=by
 k_mem;refine⟨p,xs,rfl,.inl hS,λd hd=>q d _ hd (ar hd _) ⟨_,ai,Paired.b5 hP λ_ _ z=>Rep.mono (λb o z=>?_) z⟩⟩;have hb:b≠d:=av z hd;rw[bS hb,ak hb];exact z
theorem bF{o:HO}(h:H p=some o)(hd:H d=none):p≠d:=λe=>by rw[e,hd]at h;cases h
section
variable {h':Heap}{t':Nat} 
end
theorem KR{a b:Nat}(h:¬ a=b):@Ne Addr a b:=h
theorem FC(n l l':Nat)(h1:l<n)(h2:l' < n):WD (n+4) (n+2) (n+3) n (n+1) l l':=by
 constructor <;> (refine KR ?_;lia)
section
variable {prog:RB} 
end
structure fj(K:Q7)(x qual:Str)(st:Stmt)(f:Addr)(fd:SO):Prop where
 ex:∃ (oc:Value) (od:Z5) (D:Addr) (kV doc pm:Value) (an:Z5) (cdv ct:Value) (v!:Array (Z6)) (dc:Value) (dd:Z5) (n:Nat) (K!:Array (Z6)),
  fd=Sa x qual (bB st) (bj st) (ah st) (.ref D) kV doc pm an cdv ct/\K.lookup f=some ⟨oc,od,.func fd,v!⟩/\SR K cdv qual=true/\K.lookup D=some ⟨dc,dd,.seq #[.none] n,K!⟩
 kp:Sk K (.ref f)=true
section
variable {qual:Str}{f:Addr}{fd:SO} 
theorem fj.ok(F:fj K x qual st f fd)(S:aw N ps (ah st))(len:∀vs H Q E,sp vs H Q E->vs.length=ps.length)
  (Zy:∀ (cdv:Value) (A:Sj) (outer:List Env) (s:Rg) (H:Hp) (vs:Y6) (Q:VK) (E:XK),bQ k (A.deeper (envOfC qual (ah st) s.heap.objs.size f cdv))->sp vs H Q E ->
   ∃t,PSs (pC CX0 P w K mg base N qual (ah st) f cdv A outer s H E).nox (bj st) t/\t { nx:=λ_ H'=>Q .non H',rt:=Q } (start N vs) H):aH P w K mg base CX0 (k+1) f fd ps sp:=by
 obtain⟨oc,od,D,kV,doc,pm,an,cdv,ct,v!,dc,dd,n,K!,rfl,lk,B!,_⟩:=F.ex;refine JV lk B! S len λA outer s H vs Q E hr hsp=>?_;obtain⟨t,h,q⟩:=Zy cdv A outer s H vs Q E hr hsp;exact⟨t,h.nox,q⟩
theorem fj.to{args:Args}(F:fj K x qual st f fd)(KI:K.In s.heap)
  (h:∀ (D:Addr) (kV doc pm:Value) (an:Z5) (cdv ct:Value),∃k:Option (Z2)->Sem (List (Str×Value)),bindArgs (Sa x qual (bB st) (bj st) (ah st) (.ref D) kV doc pm an cdv ct) args=seqItems? (.ref D) >>= k/\k (some #[.none])=pure bs):WM s fd args bs:=by
 obtain⟨oc,od,D,kV,doc,pm,an,cdv,ct,v!,dc,dd,n,K!,rfl,lk,B!,dl⟩:=F.ex;obtain⟨k,h1,h2⟩:=h D kV doc pm an cdv ct;exact BindsTo.of_defaults (fd:=Sa x qual (bB st) (bj st) (ah st) (.ref D) kV doc pm an cdv ct) (T:=D) rfl (KI _ _ dl) rfl h1 h2
theorem cQ{D:Addr}{oc dc:Value}{od an dd:Z5}{kV doc pm cdv ct:Value}{n:Nat}(l:K.lookup f=some ⟨oc,od,.func (Sa x qual (bB st) (bj st) (ah st) (.ref D) kV doc pm an cdv ct),v!⟩)
  (d:K.lookup D=some ⟨dc,dd,.seq #[.none] n,K!⟩) (c:SR K cdv qual=true) (k:Sk K (.ref f)=true):fj K x qual st f (Sa x qual (bB st) (bj st) (ah st) (.ref D) kV doc pm an cdv ct) :=
 ⟨⟨oc,od,D,kV,doc,pm,an,cdv,ct,v!,dc,dd,n,K!,rfl,l,c,d⟩,k⟩
end
noncomputable def byName{α:Type}(k:Nat)(us ws:List α):List α:=if us.length=k/\ws.length=1 then us++ws else []
theorem Fe{vs zs:Y6}{us ws:Y7}(r:Vals vs us)(rz:Vals zs ws):Vals (byName k vs zs) (byName k us ws):=by
 have h1:=r.length;have h2:=rz.length;unfold byName;rw[h1,h2]
 split
 .exact r.append rz
 .exact .nil
theorem kX{fd:SO}(hk:ps.length=k+1)(h:∀ (s:Rg) (us:Y7),K.In s.heap->us.length=k->WM s fd ⟨us,[]⟩ (ps.zip (us++[.none]))):Binds K fd ps [.none]:=λs us KI hl=>h s us KI (by
 rw[Rt,hk]at hl;have:([SF]:Y7).length=1:=rfl;lia)
theorem kM{fd:SO}(hk:ps.length=k+1)(h:∀ (s:Rg) (us:Y7) (w:Value),K.In s.heap->us.length=k->WM s fd ⟨us,[(y,w)]⟩ (ps.zip (us++[w]))):n6 K fd ps [y] (byName k) (byName k):=by
 refine⟨λs us ws KI hl=>?_,Fe⟩;unfold byName at hl ⊢
 split at hl
 .rename_i c
  rw[if_pos c]
  match ws,c.2 with
  | [w],_=>exact h s us w KI c.1
 .rw[hk]at hl;cases hl
structure DfD(K:Q7)(mg:Y5)(x:Str)(st:Stmt)(ps:Z0)(y:Str)(k:Nat) where
 f:Addr
 fd:SO
 fn:fj K x x st f fd
 bd:Binds K fd ps []
 bn:Binds K fd ps [.none]
 bk:n6 K fd ps [y] (byName k) (byName k)
 nm:mg x=some (.ref f)
theorem DfD.ok(d:DfD K mg x st ps y j)(S:aw N ps (ah st))(len:∀vs H Q E,sp vs H Q E->vs.length=ps.length)
  (Zy:∀ (cdv:Value) (A:Sj) (outer:List Env) (s:Rg) (H:Hp) (vs:Y6) (Q:VK) (E:XK),bQ k (A.deeper (envOfC x (ah st) s.heap.objs.size d.f cdv))->sp vs H Q E ->
   ∃t,PSs (pC CX0 P w K mg base N x (ah st) d.f cdv A outer s H E).nox (bj st) t/\t { nx:=λ_ H'=>Q .non H',rt:=Q } (start N vs) H):aH P w K mg base CX0 (k+1) d.f d.fd ps sp :=
 d.fn.ok S len Zy
section
variable {p R!:Pos}{e a:Expr}{te:TE}
theorem DG(d:DfD X.K X.mg x st ps y j)(G:aH X.prog X.w X.K X.mg X.base CX0 k d.f d.fd ps sp)(hr:bQ k X.A)(hg:Gl X x)(ha:PA X (e :: es) t)(hn:isStar e=false:=by rfl)(Zh:es.all (λe=>!isStar e)=true:=by rfl)(ZA:(x == ("__debug__" : Str))=false:=by decide) :
  PE X (.Call (.Name x p) (e :: es) [] pos) (kN sp [] E0 t):=wF G hr hg d.nm d.fn.kp d.bd .nil jL ha ZA (a7 hn) (cD Zh)
theorem P6(d:DfD X.K X.mg x st ps y j)(G:aH X.prog X.w X.K X.mg X.base CX0 k d.f d.fd ps sp)(hr:bQ k X.A)(hg:Gl X x)(ha:PA X (e :: es) t)(hn:isStar e=false:=by rfl)(Zh:es.all (λe=>!isStar e)=true:=by rfl)(ZA:(x == ("__debug__" : Str))=false:=by decide) :
  PE X (.Call (.Name x p) (e :: es) [] pos) (kN sp [.non] E0 t):=wF G hr hg d.nm d.fn.kp d.bn (.cons rfl .nil) jL ha ZA (a7 hn) (cD Zh)
end
theorem LU{E:XK}(h:t σ H λvs H1=>sp (vs++dvs) H1 Q E):kN sp dvs E t σ H Q:=h
end L2
set_option Elab.async false
set_option linter.all false
set_option maxRecDepth 100000
namespace L2
open PySem PySem.Spec PyProof.Rows
variable {C a dx:Addr}{CX:CXT}{X:Cx}{e value:Expr}{h h':Heap}{H H':Hp}{Za:Y0}{xs:List (List Key×Addr×Value)}{kvs:List (List Key×V)}{keys ks:List (Option Expr)}{fs:List (Str×V)}{trs:List (TE×TE)}{es rest values:Y8}{ps:Z0}{dvs:Y6}{gV:List V->List V->List V}{ds:Y7}{g:List Value->List Value->List Value}{kws:List XI}{nm:Option Str}{o:Z4}{apos pos pos' Q!:Pos}{P prog:RB}{s:Rg}{fd:SO}{A:Sj}{sp:Sp}{σ:St}{f x:Str}{mA:Y5}{t:TA}{ta te tv:TE}{v y:V}{u:Value}{E Q:Value->Rg->Prop}{w:World}
section
variable (P:RB)(w:World)
end
section
variable {o:HO}
end
section
variable {x e:Addr}{o':HO}
end
section
variable {fs fs' ex ex':Y9}{H1 H2:Hp}{h1 h2:Heap}{x e:Addr}{o:HO}
end
section
variable {σ:List (Z4)} 
end
section
variable {a b:Expr}{tb:TE} 
variable {tA tB':TT} 
end
section
variable {xs ys:Y6}
end
section
variable {st:Stmt}{rest:List Stmt}{t u:TS} 
end
section
variable {tg:Expr}
end
section
variable {a b c:Expr}{tb tc:TE} 
end
section
variable {K:Q7}{x f:Addr}{name:Str}{v:Value}
end
section
variable {fs':List (Str×V)}
end
section
variable {o:Expr} 
end
section
variable {c:Value}{b:Bool}
end
section
variable {s':Rg}
end
section
variable {k:Nat}{f:Addr}{E:XK}{m:Str}{p:Pos}{o:Expr} 
end
section
variable {k:Nat}{f:Addr}{ks:Z0}{E:XK}{m:Str}{p R!:Pos}{o:Expr}{tk:TA} 
end
section
variable {p:Pos}{id T:String}{r:List V->Hp->VK->Prop}
end
section
variable {κ:Type}[DecidableEq κ]
noncomputable def bq(kvs:List (κ×V))(k:κ):Z4:=(kvs.find? λkv=>decide (kv.1=k)).map (·.2)
noncomputable def putK(kvs:List (κ×V))(k:κ)(v:V):List (κ×V) :=
 if (kvs.any λkv=>decide (kv.1=k))=true then kvs.map (λkv=>if kv.1=k then (kv.1,v) else kv) else kvs++[(k,v)]
theorem cZ{p:κ×V}{r:List (κ×V)}{k:κ}(e:p.1=k):bq (p :: r) k=some p.2:=by simp[bq,Uz,e]
theorem cC{p:κ×V}{r:List (κ×V)}{k:κ}(e:¬ p.1=k):bq (p :: r) k=bq r k:=by simp[bq,Uz,e]
theorem lQ(k:κ):∀kvs:List (κ×V),(kvs.any λkv=>decide (kv.1=k))=(bq kvs k).isSome
 | []=>rfl
 | p :: r=>by
  rw[VA]
  by_cases e:p.1=k
  .simp only[cZ e,decide_eq_true e,Bool.true_or,Option.isSome_some]
  .rw[cC e,decide_eq_false e,Bool.false_or];exact lQ k r
theorem zX(k j:κ)(y:V):∀kvs:List (κ×V),bq (kvs.map λkv=>if kv.1=k then (kv.1,y) else kv) j=(bq kvs j).map λx=>if j=k then y else x
 | []=>rfl
 | p :: r=>by
  have ih:=zX k j y r;rw[Si]
  by_cases h:p.1=k
  .rw[if_pos h]
   by_cases e:p.1=j
   .rw[cZ (p:=(p.1,y)) e,cZ e,S9,if_pos (e.symm.trans h)]
   .rw[cC (p:=(p.1,y)) e,cC e,ih]
  .rw[if_neg h]
   by_cases e:p.1=j
   .rw[cZ (p:=p) e,cZ e,S9,if_neg (λz=>h (e.trans z))]
   .rw[cC (p:=p) e,cC e,ih]
theorem xW(k j:κ)(y:V):∀kvs:List (κ×V),bq kvs k=none->bq (kvs++[(k,y)]) j=if j=k then some y else bq kvs j
 | [],_=>by
  by_cases e:k=j
  .rw[if_pos e.symm];exact cZ (p:=(k,y)) e
  .rw[if_neg (λz=>e z.symm)];exact cC (p:=(k,y)) e
 | p :: r,hn=>by
  rw[List.cons_append];have hk:¬ p.1=k:=λz=>by rw[cZ z]at hn;cases hn
  rw[cC hk]at hn;have ih:=xW k j y r hn
  by_cases e:p.1=j
  .rw[cZ e,cZ e,if_neg (λz=>hk (e.trans z))]
  .rw[cC e,cC e,ih]
theorem zK(kvs:List (κ×V))(k j:κ)(y:V):bq (putK kvs k y) j=if j=k then some y else bq kvs j:=by
 unfold putK
 by_cases a:(kvs.any λkv=>decide (kv.1=k))=true
 .rw[if_pos a,zX];rw[lQ]at a
  by_cases e:j=k
  .obtain⟨x,hx⟩:=WW.mp a;rw[if_pos e,e,hx,S9,if_pos rfl]
  .rw[if_neg e];cases bq kvs j with
   | none=>rfl
   | some x=>rw[S9,if_neg e]
 .rw[if_neg a];refine xW k j y kvs ?_;rw[lQ]at a;cases q:bq kvs k with
  | none=>rfl
  | some x=>rw[q]at a;exact(a rfl).elim
theorem gJ(kvs:List (κ×V))(k:κ)(v:V):(putK kvs k v).length<=kvs.length+1:=by
 unfold putK
 split
 .rw[Rc];lia
 .rw[Rt,Sb,VB];lia
theorem pD{kvs:List (κ×V)}{k:κ}(v:V)(h:bq kvs k=none):putK kvs k v=kvs++[(k,v)]:=by
 unfold putK;rw[lQ,h];exact if_neg (by decide)
theorem gf.qO{u:Z6}(r:gf o u):o.isSome=u.isSome:=by
 cases o with
 | none=>cases u with
  | none=>rfl
  | some _=>exact(show False from r).elim
 | some _=>cases u with
  | none=>exact(show False from r).elim
  | some _=>rfl
theorem KV.val{kvs:List (κ×V)}{vs:List (κ×Value)}(r:KV kvs vs)(k:κ):gf (bq kvs k) (valueAt vs k):=by
 unfold KV at r
 induction r with
 | nil=>exact T7
 | @cons p q ps qs h t ih =>
  obtain⟨h1,h2⟩:=h
  by_cases e:p.1=k
  .have e':q.1=k:=h1.symm.trans e;have b:valueAt (q :: qs) k=some q.2:=by simp[valueAt,Uz,e']
   rw[cZ e,b];exact h2
  .have e':¬ q.1=k:=λz=>e (h1.trans z);have b:valueAt (q :: qs) k=valueAt qs k:=by simp[valueAt,Uz,e']
   rw[cC e,b];exact ih
theorem KV.any{kvs:List (κ×V)}{vs:List (κ×Value)}(r:KV kvs vs)(k:κ):(kvs.any λkv=>decide (kv.1=k))=vs.any λkv=>decide (kv.1=k):=by
 unfold KV at r
 induction r with
 | nil=>rfl
 | cons h t ih=>rw[VA,VA,ih,h.1]
theorem KV.Ig{kvs:List (κ×V)}{vs:List (κ×Value)}(r:KV kvs vs)(k:κ)(ry:RelV y u) :
  KV (kvs.map λkv=>if kv.1=k then (kv.1,y) else kv) (vs.map λkv=>if kv.1=k then (kv.1,u) else kv):=by
 unfold KV at r ⊢
 induction r with
 | nil=>exact .nil
 | @cons p q ps qs h t ih =>
  rw[Si,Si];refine .cons ?_ ih;obtain⟨h1,h2⟩:=h
  by_cases e:p.1=k
  .rw[if_pos e,if_pos (h1.symm.trans e)];exact⟨h1,ry⟩
  .rw[if_neg e,if_neg (λz=>e (h1.trans z))];exact⟨h1,h2⟩
theorem KV.put{kvs:List (κ×V)}{vs:List (κ×Value)}(r:KV kvs vs)(k:κ)(ry:RelV y u):KV (putK kvs k y) (stored vs k u):=by
 unfold putK stored;rw[r.any k]
 by_cases e:(vs.any λkv=>decide (kv.1=k))=true
 .rw[if_pos e,if_pos e];exact r.Ig k ry
 .rw[if_neg e,if_neg e];exact Paired.snoc r ⟨rfl,ry⟩
theorem KV.length{kvs:List (κ×V)}{vs:List (κ×Value)}(r:KV kvs vs):kvs.length=vs.length:=V9 r
end
theorem oP{k:Key}(r:RelV (kV k) u):(ck P w).is k u=true:=by
 cases k with
 | inl i=>obtain⟨t,e⟩:=(show ∃t,u=Ui i t from r);subst e;exact Cn P w i t
 | inr x=>obtain⟨t,e⟩:=(show ∃t,u=Yt x t from r);subst e;exact CB P w x t
theorem yc{P:RB}{w:World}:∀ {ks:List Key} {us:Y7},Vals (ks.map kV) us->ItemsAre (ck P w) ks us
 | [],_,r=>by rw[YF]at r;cases r;exact .nil
 | k :: ks,_,r=>by
  rw[Si]at r;cases r with
  | cons h t=>exact .cons (oP h) (yc t)
noncomputable abbrev KT(H:Hp):List (List Key×V)->List (List Key×Addr×Value)->Prop:=Sz λp q=>p.1=q.1/\H q.2.1=some (.tup (p.1.map kV))/\RelV p.2 q.2.2
theorem KT.val(r:KT H kvs xs)(k:List Key):gf (bq kvs k) ((atKey xs k).map (·.2)):=by
 induction r with
 | nil=>exact T7
 | @cons p q ps qs h t ih =>
  obtain⟨h1,_,h2⟩:=h
  by_cases e:p.1=k
  .have e':q.1=k:=h1.symm.trans e;have b:atKey (q :: qs) k=some q.2:=by simp[atKey,Uz,e']
   rw[cZ e,b];exact h2
  .have e':¬ q.1=k:=λz=>e (h1.trans z);have b:atKey (q :: qs) k=atKey qs k:=by simp[atKey,Uz,e']
   rw[cC e,b];exact ih
theorem KT.Ig(r:KT H kvs xs)(k:List Key)(ry:RelV y u) :
  KT H (kvs.map λkv=>if kv.1=k then (kv.1,y) else kv) (xs.map (putAt k u)):=by
 induction r with
 | nil=>exact .nil
 | @cons p q ps qs h t ih =>
  rw[Si,Si];refine .cons ?_ ih;obtain⟨h1,h2,h3⟩:=h;unfold putAt
  by_cases e:p.1=k
  .rw[if_pos e,if_pos (h1.symm.trans e)];exact⟨h1,h2,ry⟩
  .rw[if_neg e,if_neg (λz=>e (h1.trans z))];exact⟨h1,h2,h3⟩
theorem KT.put(r:KT H kvs xs)(k:List Key){b:Addr}(hb:H b=some (.tup (k.map kV)))(ry:RelV y u) :
  KT H (putK kvs k y) (storedH xs k b u):=by
 have e:(kvs.any λkv=>decide (kv.1=k))=(atKey xs k).isSome:=by
  rw[lQ,(r.val k).qO,Option.isSome_map]
 unfold putK storedH;rw[e]
 by_cases q:(atKey xs k).isSome=true
 .rw[if_pos q,if_pos q];exact r.Ig k ry
 .rw[if_neg q,if_neg q];exact Paired.snoc r ⟨rfl,hb,ry⟩
theorem KT.keeps(r:KT H kvs xs)(ht:∀b ys,H b=some (.tup ys)->H' b=some (.tup ys)):KT H' kvs xs :=
 Paired.b5 r λ_ _ z=>⟨z.1,ht _ _ z.2.1,z.2.2⟩
theorem J2{u:HO}(ok:HOk P w H h)(e:Rd H a u):bR P w H h a u:=e.ok ok
theorem zb{kvs:Y1}(ok:HOk P w H h)(e:Rd H a (.dK kvs)):kvs.length<=RV/\(a == sysModules)=false/\∃vs,KV kvs vs/\h.DictOf (ck P w) a vs :=
 show bR P w H h a (.dK kvs) from J2 ok e
theorem zj{kvs:Y1}(ok:HOk P w H h)(e:H a=some (.dK kvs)):kvs.length<=RV/\(a == sysModules)=false/\∃vs,KV kvs vs/\h.DictOf (ck P w) a vs:=zb ok (.inl e)
theorem uG{ks:List Key}(ok:HOk P w H h)(e:H a=some (.tup (ks.map kV))):(tupleKind (ck P w)).is h ks a:=by
 obtain⟨_,Zb,r,o,h1,h2,n,h3⟩:=(show bR P w H h a (.tup (ks.map kV)) from ok a _ e);exact⟨o,Zb.toArray,n,h1,h2,h3,by simpa using yc r⟩
theorem zh(ok:HOk P w H h)(e:Rd H a (.dT kvs)):kvs.length<=RV/\(a == sysModules)=false /\
  ∃xs,KT H kvs xs/\h.DictOfH (tupleKind (ck P w)) a xs:=by
 obtain⟨z,y,xs,r,o,es,ep,h1,h2,h3,h4,h5⟩:=(show bR P w H h a (.dT kvs) from J2 ok e);refine⟨z,y,xs,r,o,es,ep,h1,h2,h3,h4,λx hx=>?_,h5⟩;have all:∀ {l:List (List Key×V)} {m:List (List Key×Addr×Value)},KT H l m->∀x∈m,(tupleKind (ck P w)).is h x.1 x.2.1:=by
  intro l m q
  induction q with
  | nil=>intro x hx;exact nomatch hx
  | @cons p q ps qs hq t ih =>
   intro x hx;rcases RA.mp hx with e|hx
   .subst e;exact uG ok (by rw[<- hq.1];exact hq.2.1)
   .exact ih x hx
 exact all r x hx
theorem PK(ok:HOk P w H h)(e:H a=some (.dT kvs)):kvs.length<=RV/\(a == sysModules)=false /\
  ∃xs,KT H kvs xs/\h.DictOfH (tupleKind (ck P w)) a xs:=zh ok (.inl e)
noncomputable def lO(H:Hp)(a:Addr)(y:V)(r:Z4):Prop :=
 (∃kvs k,Rd H a (.dK kvs)/\y=kV k/\r=bq kvs k)\/∃kvs k b,Rd H a (.dT kvs)/\y=.ref b/\H b=some (.tup (k.map kV))/\r=bq kvs k
noncomputable def vZ(H:Hp)(a:Addr)(y v:V)(H':Hp):Prop :=
 (∃kvs k,H a=some (.dK kvs)/\y=kV k/\kvs.length<RV/\H'=upd H a (.dK (putK kvs k v))) \/
 ∃kvs k b,H a=some (.dT kvs)/\y=.ref b/\H b=some (.tup (k.map kV))/\kvs.length<RV/\H'=upd H a (.dT (putK kvs k v))
theorem lO.k{H:Hp}{a:Addr}{kvs:Y1}{k:Key}(e:H a=some (.dK kvs)):lO H a (kV k) (bq kvs k):=.inl ⟨kvs,k,.inl e,rfl,rfl⟩
theorem vZ.k{H:Hp}{a:Addr}{kvs:Y1}{k:Key}{v:V}(e:H a=some (.dK kvs))(hl:kvs.length<RV):vZ H a (kV k) v (upd H a (.dK (putK kvs k v))):=.inl ⟨kvs,k,e,rfl,hl,rfl⟩
section
variable {r:Value} 
theorem Inv.big(I:Inv X Za σ H s):sysModules<s.heap.objs.size:=by
 have h:Se<s.heap.objs.size:=(I.mod.glob.keeps I.bk).lt;exact U7 (by decide) h
theorem FX(hu:A.units+1<cLine)(I:Inv X Za σ H s)(g:lO H a y (some v))(ry:RelV y u)(h:∀w' s',Inv X Za σ H s'->RelV v w'->Q w' s') :
  wpAny (model X.prog X.w) A (getItem (.ref a) u) Q E s:=by
 rcases g with ⟨kvs,k,e,ey,l⟩|⟨kvs,k,b,e,ey,eb,l⟩
 .subst ey;obtain⟨z,hd,vs,rel,dd⟩:=zb I.hok e;obtain⟨w',hw,C!⟩:=gf.some_of (v:=v) (o:=valueAt vs k) (by rw[l];exact rel.val k)
  exact wpAny_getItem_of (oP ry) dd.mapOf hw (h w' _ (I.tok _) C!)
 .subst ey;cases(show u=RN b from ry);obtain⟨z,hd,xs,rel,dd⟩:=zh I.hok e;obtain⟨w',hw,C!⟩:=gf.some_of (v:=v) (o:=(atKey xs k).map (·.2)) (by rw[l];exact rel.val k)
  obtain⟨p,hp,b!⟩:=SU.mp hw;refine wpAny_getItem_heap (WE hu) (uG I.hok eb) dd hp ?_;rw[b!];exact h w' _ (I.tok _) C!
theorem Lr(hu:A.units+1<cLine)(I:Inv X Za σ H s)(g:lO H a y o)(ry:RelV y u)(h:∀s',Inv X Za σ H s'->Q (.bool (!o.isSome)) s') :
  wpAny (model X.prog X.w) A (compareOp .NotIn u (.ref a)) Q E s:=by
 rcases g with ⟨kvs,k,e,ey,l⟩|⟨kvs,k,b,e,ey,eb,l⟩
 .subst ey;obtain⟨z,hd,vs,rel,dd⟩:=zb I.hok e;refine wpAny_notIn_of (oP ry) hd dd.mapOf ?_;rw[<- (rel.val k).qO,<- l];exact h _ (I.tok _)
 .subst ey;cases(show u=RN b from ry);obtain⟨z,hd,xs,rel,dd⟩:=zh I.hok e;refine wpAny_notIn_heap (WE hu) (uG I.hok eb) hd dd ?_;have q:=(rel.val k).qO;rw[Option.isSome_map]at q;rw[<- q,<- l];exact h _ (I.tok _)
theorem vT{t':Nat}{ob:HO}(I:Inv X Za σ H s)(mu:Mut (H a))(hs:Vr a s.heap h')(he:∃q,h'.get? a=some q)(new:bR X.prog X.w (upd H a ob) h' a ob) :
  Inv X Za σ (upd H a ob) { s with heap:=h',toks:=t' } :=
 I.write (x:=a) (e:=a) mu (.inl rfl) (λb q hb z=>(hs.2 b hb).trans z) he new
theorem uN{kvs:Y1}{vs:List (Key×Value)}(z:kvs.length<=RV)(hd:(a == sysModules)=false)(rel:KV kvs vs)(dd:h'.DictOf (ck P w) a vs) :
  bR P w H' h' a (.dK kvs):=⟨z,hd,vs,rel,dd⟩
theorem GA{Q:Unit->Rg->Prop}(hu:A.units+1<cLine)(I:Inv X Za σ H s)(g:vZ H a y v H')(ry:RelV y u)(rv:RelV v r)(h:∀s',Inv X Za σ H' s'->Q () s') :
  wpAny (model X.prog X.w) A (setItem (.ref a) u r) Q E s:=by
 rcases g with ⟨kvs,k,e,ey,l,eH⟩|⟨kvs,k,b,e,ey,eb,l,eH⟩
 .subst ey eH;obtain⟨z,hd,vs,rel,dd⟩:=zj I.hok e;have hz:vs.length<=RV:=by rw[<- rel.length];exact z
  have hl:(putK kvs k v).length<=RV:=by have:=gJ kvs k v;lia
  refine wpAny_setItem_pairs (hsz:=hz) (oP ry) dd λh' dd' hs=>h _ ?_;have he:∃q,h'.get? a=some q:=let ⟨q,_,_,hq,_⟩:=dd';⟨q,hq⟩;exact vT I (by rw[e];exact T7) hs he (uN hl hd (rel.put k rv) dd')
 .subst ey eH;cases(show u=RN b from ry);obtain⟨z,hd,xs,rel,dd⟩:=PK I.hok e;have hz:xs.length<=RV:=by rw[<- V9 rel];exact z
  have hl:(putK kvs k v).length<=RV:=by have:=gJ kvs k v;lia
  refine wpAny_setItem_heap (hsz:=hz) (WE hu) (uG I.hok eb) dd λh' dd' hs=>h _ ?_;obtain⟨q,es,ep,hq,h2,h3,h4,_,h5⟩:=dd';refine vT I (by rw[e];exact T7) hs ⟨q,hq⟩ ⟨hl,hd,_,(rel.put k eb rv).keeps λc ys ec=>?_,q,es,ep,hq,h2,h3,h4,h5⟩
  rw[ak (Py ec e (λz=>nomatch z))];exact ec
end
section
variable {kvs:Y1}{k:Key} 
end
noncomputable def HB(i:Expr):Prop:=∀ov iv,subscripted i false ov iv=operate [ov,iv] (getItem ov iv)
theorem Dl{env:Env}{slice:Expr}{T id:String} 
  (hl:typeLookup (.type T) "__getitem__" = pure (some (.builtin id))) (hs:HB slice)
  (h:wpAny (model prog w) A (eval value env) (λo s₁=>wpAny (model prog w) A (eval slice env) (λi s₂=>s₂.TypeIs o T/\wpAny (model prog w) A (getItem o i) Q E s₂) E s₁) E s) :
  wpAny (model prog w) A (eval (.Subscript value slice pos) env) Q E s:=by
 refine Subscript_ (TX h (λo s₁ h₁=>TX h₁ (λi s₂ h₂=>?_) λ_ _ x=>x) λ_ _ x=>x);obtain⟨hT,h₂⟩:=h₂;unfold subscriptTail;refine Ra ?_;rw[getitemInPython_of_ne hT.not_modules];refine Ra (Wi hT hl ?_);have fin:wpAny (model prog w) A (subscripted slice false o i) (λr s₃=>wpAny (model prog w) A (letTemporaryGo value o r >>= λ_=>pure r) Q E s₃) E s₂:=by
  rw[hs o i];exact wpAny_operating (TX h₂ (λr s₃ h₃=>Ra (wpAny_letTemporaryGo (Rm h₃))) λ_ _ x=>x)
 first
  | exact Rm (Ra fin)
  | exact Ra (Rm (Ra fin))
  | exact Ra fin
theorem CA(I:Inv X Za σ H s)(g:lO H a y o):s.TypeIs (.ref a) "dict":=by
 rcases g with ⟨kvs,k,e,_,_⟩|⟨kvs,k,b,e,_,_,_⟩
 .obtain⟨_,_,vs,_,dd⟩:=zb I.hok e;exact dd.typeIs
 .obtain⟨_,_,xs,_,dd⟩:=zh I.hok e;exact dd.typeIs
noncomputable def Ke(td ty:TE):TE:=λσ H Q=>td σ H λx H1=>ty σ H1 λy H2=>∃a v,x=.ref a/\lO H2 a y (some v)/\Q v H2
noncomputable def CU(ty td:TE):TE:=λσ H Q=>ty σ H λy H1=>td σ H1 λx H2=>∃a o,x=.ref a/\lO H2 a y o/\Q (.bl (!o.isSome)) H2
noncomputable def JI(td ty tv:TE):TS:=λD σ H=>tv σ H λv H1=>td σ H1 λx H2=>ty σ H2 λy H3=>∃a H4,x=.ref a/\vZ H3 a y v H4/\D.nx σ H4
section
variable {o i:Expr}{td ty:TE}
theorem bW(hu:X.A.units+1<cLine)(ho:PE X o td)(hi:PE X i ty)(hs:HB i):PE X (.Subscript o i pos) (Ke td ty):=by
 f_are;refine Dl WN.lookup hs (thn (ho Za s σ H _ I h) λu s1 ⟨x,H1,I1,rx,q1⟩=>thn (hi Za s1 σ H1 _ I1 q1) λiv s2 ⟨y,H2,I2,ry,a,v,ex,g,q2⟩=>?_);subst ex;obtain rfl:u=RN a:=rx;exact⟨CA I2 g,FX hu I2 g ry λw' s3 I3 C!=>⟨v,H2,I3,C!,q2⟩⟩
theorem qj(hu:X.A.units+1<cLine)(hi:PE X i ty)(ho:PE X o td):PC X .NotIn i o (CU ty td):=by
 f_are;refine thn (hi Za s σ H _ I h) λiv s1 ⟨y,H1,I1,ry,q1⟩=>thn (ho Za s1 σ H1 _ I1 q1) λu s2 ⟨x,H2,I2,rx,a,ov,ex,g,q2⟩=>?_;subst ex;obtain rfl:u=RN a:=rx;exact Lr hu I2 g ry λs3 I3=>⟨.bl (!ov.isSome),H2,I3,rfl,q2⟩
theorem lC(hu:X.A.units+1<cLine)(ho:PE X o td)(hi:PE X i ty)(hv:PE X value tv)(hs:swapsWith value (some (.Subscript o i pos')) pos.line X.env=pure false) :
  PS X (.Assign [.Subscript o i pos'] value pos) (JI td ty tv):=by
 l_idx;refine wpAny_Assign_Subscript (thn (hv Za s σ H _ I h) λr s1 ⟨v,H1,I1,rv,q1⟩=>thn (ho Za s1 σ H1 _ I1 q1) λu s2 ⟨x,H2,I2,rx,q2⟩=>thn (hi Za s2 σ H2 _ I2 q2) λiv s3 ⟨y,H3,I3,ry,a,H4,ex,g,q3⟩=>?_) hs;subst ex;obtain rfl:u=RN a:=rx;exact GA hu I3 g ry rv λs4 I4=>⟨σ,H4,I4,q3⟩
end
theorem Br(h:Heap)(hb:sysModules<h.objs.size):bR P w H (h.push { cls:=.type "dict",data:=.dict #[] }) h.objs.size (.dK []) :=
 ⟨R5 _,beq_eq_false_iff_ne.mpr (TR (Ry hb)),[],.nil,Heap.DictOf.new h⟩
noncomputable def GF:TE:=λ_ H Q=>∀p,H p=none->Q (.ref p) (upd H p (.dK []))
theorem mj:PE X (.Dict [] [] pos) GF:=λZa s σ H Q I h =>
 wpAny_Dict_empty ⟨.ref s.heap.objs.size,_,I.laid (a:=s.heap.objs.size) (o:=.dK []) (t':=s.toks) (λ_ _ q=>Rl _ q) (Ru _) (Br s.heap I.big),rfl,h _ (I.hok.fresh (Ru _))⟩
noncomputable def BO:List (TE×TE)->St->Hp->(List (V×V)->Hp->Prop)->Prop
 | [],_,H,Q=>Q [] H
 | (tk,tv) :: r,σ,H,Q=>tk σ H λx H1=>tv σ H1 λy H2=>BO r σ H2 λps H3=>Q ((x,y) :: ps) H3
noncomputable abbrev VV:List (V×V)->List (Value×Value)->Prop:=Sz λp q=>RelV p.1 q.1/\RelV p.2 q.2
noncomputable def PPs(X:Cx)(pos:Pos)(keys:List (Option Expr))(values:Y8)(trs:List (TE×TE)):Prop :=
 ∀ (Za:Y0) (s:Rg) (σ:St) (H:Hp) (Q:List (V×V)->Hp->Prop),Inv X Za σ H s->BO trs σ H Q ->
  wpAny (model X.prog X.w) X.A (evalPairs (pairTrees keys values X.env pos)) (λvs s'=>∃ps H',Inv X Za σ H' s'/\VV ps vs/\Q ps H') X.xe s
theorem KD :PPs X pos [] [] []:=λZa s σ H Q I h=>pairTrees_nil_walk ⟨[],H,I,.nil,h⟩
theorem JA{k v:Expr}{vs:Y8}{tk:TE}(hk:PE X k tk)(hv:PE X v tv)(hr:PPs X pos ks vs trs) :
  PPs X pos (some k :: ks) (v :: vs) ((tk,tv) :: trs):=λZa s σ H Q I h =>
 pairTrees_cons_walk (thn (hk Za s σ H _ I h) λu s1 ⟨x,H1,I1,rx,q1⟩=>thn (hv Za s1 σ H1 _ I1 q1) λw2 s2 ⟨y,H2,I2,ry,q2⟩ =>
  thn (hr Za s2 σ H2 _ I2 q2) λws s3 ⟨ps,H3,I3,rel,q3⟩=>⟨(x,y) :: ps,H3,I3,.cons ⟨rx,ry⟩ rel,q3⟩)
noncomputable def gL(kvs more:Y1):Y1:=more.foldl (λacc kv=>putK acc kv.1 kv.2) kvs
theorem KV.merge:∀ {more:Y1} {rs:List (Key×Value)} {kvs:Y1} {vs:List (Key×Value)},KV more rs->KV kvs vs->KV (gL kvs more) (merged vs rs):=by
 intro more rs kvs vs r;unfold KV at r
 induction r generalizing kvs vs with
 | nil=>intro q;exact q
 | @cons p q ps qs h t ih =>
  intro r0;have e:KV (putK kvs p.1 p.2) (stored vs q.1 q.2):=by
   have:=r0.put p.1 h.2;rw[<- h.1];o_rec
  exact ih e
theorem pS:∀ (more kvs:Y1),(gL kvs more).length<=kvs.length+more.length
 | [],kvs=>by show kvs.length<=kvs.length+0;lia
 | p :: r,kvs=>by
  have h1:=pS r (putK kvs p.1 p.2);have h2:=gJ kvs p.1 p.2;show (gL (putK kvs p.1 p.2) r).length<=_;rw[Sb];lia
theorem vv{P:RB}{w:World}:∀ {kvs:Y1} {ws:List (Value×Value)},VV (kvs.map λkv=>(kV kv.1,kv.2)) ws->∃rs,Carries (ck P w) ws rs/\KV kvs rs
 | [],_,r=>by rw[YF]at r;cases r;exact⟨[],T7,.nil⟩
 | p :: kvs,_,r=>by
  rw[Si]at r;cases r with
  | @cons a b as bs h t =>
   obtain⟨rs,c,q⟩:=vv (P:=P) (w:=w) t;obtain⟨b1,b2⟩:=b;exact⟨(p.1,b2) :: rs,⟨oP h.1,rfl,c⟩,.cons ⟨rfl,h.2⟩ q⟩
noncomputable def Ka(trs:List (TE×TE)):TE:=λσ H Q=>∀p,H p=none->BO trs σ (upd H p (.dK [])) λps H2=>H2 p=some (.dK [])/\∃kvs:Y1,ps=kvs.map (λkv=>(kV kv.1,kv.2))/\kvs.length<=15/\Q (.ref p) (upd H2 p (.dK (gL [] kvs)))
theorem Lb(h:PPs X pos keys values trs)(Zh:keys.all (·.isSome)=true)(hl:keys.length=values.length)(h0:keys≠[])
  (h15:keys.length<=15):PE X (.Dict keys values pos) (Ka trs):=by
 intro Za s σ H Q I q;have hn:=I.hok.fresh (Ru s.heap.objs.size);have I1:=I.laid (a:=s.heap.objs.size) (o:=.dK []) (h':=s.heap.push { cls:=.type "dict",data:=.dict #[] }) (t':=s.toks) (λ_ _ q=>Rl _ q) (Ru _) (Br s.heap I.big);refine wpAny_Dict_walk (knd:=ck X.prog X.w) Zh hl h0 h15 (thn (h Za _ σ _ _ I1 (q _ hn)) λws s2 ⟨ps,H2,I2,rel,e,kvs,ep,lk,q2⟩=>?_);subst ep;obtain⟨rs,c,rk⟩:=vv (P:=X.prog) (w:=X.w) rel;obtain⟨z,hd,vs0,r0,dd⟩:=zj I2.hok e;cases r0;refine⟨rs,c,dd,λh' dd' hs=>⟨.ref s.heap.objs.size,_,?_,rfl,q2⟩⟩;have hz:(gL [] kvs).length<=RV:=by
  have h1:=pS kvs [];rw[VB]at h1;rw[RO];lia
 have he:∃q,h'.get? s.heap.objs.size=some q:=let ⟨q,_,_,hq,_⟩:=dd';⟨q,hq⟩;exact vT I2 (by rw[e];exact T7) hs he (uN hz hd (rk.merge .nil) dd')
section
variable {d:V}{r:Value} 
end
section
variable {o f:Expr}{Zg:Pos}{td ty tx:TE}
end
section
variable {kvs:Y1} 
end
end L2
namespace Att
open PySem PySem.W PySem.Calls PyProof.Rows
section
variable {prog:RB}{w:World}{A:Sj}{E:Value->Rg->Prop}{s:Rg}{K:Frag}
end
end Att
namespace L2
open PySem PySem.Spec PyProof.Rows
variable {C I a d globals p:Addr}{G:Array VX->Array VX->Prop}{X:Cx}{D:Ends}{e tg:Expr}{H:Hp}{Za:Y0}{kvs:Y1}{vs:List (Key×Value)}{L:AC}{cl:List (Str×Addr)}{fp ps wr:Y9}{es ifs:Y8}{F:AT}{N own:Z0}{xs:Y6}{us:Y7}{ep f i k n:Nat}{P:Nat->Value->Prop}{pos:Pos}{K:Q7}{prog:RB}{s:Rg}{sc scope:Scope}{pl:Sem Bool}{A:Sj}{sp:Sp}{st:Stmt}{m mg:Y5}{ta td tl ty:TE}{g:TG}{t:TS}{tt:TT}{v:V}{Q:VK}{u:Value}{RR:Value->Addr->XF->Rg->Prop}{E:Value->Rg->Prop}{w:World}{R:XF->Rg->Prop}
section
variable {P:RB}{base:Heap}
end
section
variable {κ:Type}[DecidableEq κ]
theorem rO:∀ {l:List κ} {k:κ},l.Nodup->¬ k∈l->(l++[k]).Nodup
 | [],k,_,_=>by simp
 | a :: r,k,h,hk=>by
  obtain⟨h1,h2⟩:=R8.mp h;show (a :: (r++[k])).Nodup;refine R8.mpr ⟨λm=>?_,rO h2 λm=>hk (RA.mpr (Or.inr m))⟩;rcases Rq.mp m with q|q
  .exact h1 q
  .exact hk (RA.mpr (V7 (Rj.mp q).symm))
end
section
variable {σ:St}{fr:AT}
theorem tH{J:It}(W:Addr->Nat->St->Hp->List V->Prop)(hz:n<=100000)
  (hgo:∀d i σ' H' ys,i<n->W d i σ' H' ys->J.go i H') (Zp:∀d σ' H' ys,W d n σ' H' ys->J.stop n H')
  (ZZ:∀d i σ' H' ys,i<=n->W d i σ' H' ys->ys.length<=i) (h0:∀d,H d=none->W d 0 (cH own fr σ) (upd H d (.lst [])) [])
  (turn:∀d i σ' H' ys x H2 (R:St->V->Hp->Prop) (R0:Y4),H d=none->i<n->W d i σ' H' ys->H' d=some (.lst ys)->J.yld i H' x H2 ->
   (∀σ2 y H5,H5 d=some (.lst ys)->W d (i+1) σ2 (upd H5 d (.lst (ys++[y]))) (ys++[y])->R σ2 y H5)->(∀σ2 H5,H5 d=some (.lst ys)->W d (i+1) σ2 H5 ys->R0 σ2 H5) ->
   g x σ' H2 λσ2 H3=>tt σ2 H3 λok H4=>if ok=true then ta σ2 H4 (R σ2) else R0 σ2 H4)
  (fin:∀d σ' H' ys,H d=none->H' d=some (.lst ys)->W d n σ' H' ys->Q (.ref d) H'):fK own fr g tt ta σ Q J H:=by
 intro d hd;refine⟨λi m σ' H'=>m=n - i/\i<=n/\∃ys,H' d=some (.lst ys)/\W d i σ' H' ys,⟨n,rfl,R5 _,[],ai,h0 d hd⟩,?_⟩;rintro i m σ' H' ⟨rfl,hi,ys,Hx,w⟩
 by_cases Zd:i<n
 .refine .inr ⟨hgo d i σ' H' ys Zd w,λx H2 hx=>turn d i σ' H' ys x H2 _ _ hd Zd w Hx hx (λσ2 y H5 h1 h2=>?_) (λσ2 H5 h1 h2=>?_)⟩
  .have hl:=ZZ d i σ' H' ys hi w;exact⟨ys,h1,Sf (show ys.length<=100000 by lia) (by rw[RO];decide),n - (i+1),by lia,rfl,Zd,_,ai,h2⟩
  .exact⟨n - (i+1),by lia,rfl,Zd,ys,h1,h2⟩
 .have e:i=n:=by lia
  subst e;exact .inl ⟨Zp d σ' H' ys w,fin d σ' H' ys hd Hx w⟩
theorem D5{a:Int}(e:a=(n:Int))(hz:n<=100000)(W:Addr->Nat->St->Hp->List V->Prop)
  (ZZ:∀d i σ' H' ys,i<=n->W d i σ' H' ys->ys.length<=i) (h0:∀d,H d=none->W d 0 (cH own fr σ) (upd H d (.lst [])) [])
  (turn:∀d i σ' H' ys (R:St->V->Hp->Prop) (R0:Y4),H d=none->i<n->W d i σ' H' ys->H' d=some (.lst ys) ->
   (∀σ2 y H5,H5 d=some (.lst ys)->W d (i+1) σ2 (upd H5 d (.lst (ys++[y]))) (ys++[y])->R σ2 y H5)->(∀σ2 H5,H5 d=some (.lst ys)->W d (i+1) σ2 H5 ys->R0 σ2 H5) ->
   g (.int i) σ' H' λσ2 H3=>tt σ2 H3 λok H4=>if ok=true then ta σ2 H4 (R σ2) else R0 σ2 H4)
  (fin:∀d σ' H' ys,H d=none->H' d=some (.lst ys)->W d n σ' H' ys->Q (.ref d) H'):tN [.int a] H (fK own fr g tt ta σ Q):=by
 subst e;refine⟨n,rfl,by lia,by lia,?_⟩
 have z:((n:Int)).toNat=n:=by lia
 show fK own fr g tt ta σ Q (Itr 0 (n:Int).toNat) H;rw[z];refine tH (n:=n) W hz (λd i σ' H' ys hi _=>hi) (λd σ' H' ys _=>Ru n) ZZ h0 (λd i σ' H' ys x H2 R R0 hd hi w Hx hy=>?_) fin;obtain⟨e1,e2⟩:=hy;subst e1 e2;rw[YG];exact turn d i σ' _ ys R R0 hd hi w Hx
theorem gg(hz:xs.length<=100000)(W:Addr->Nat->St->Hp->List V->Prop)(hw:∀d i σ' H' ys,W d i σ' H' ys->SqL K H' p xs)(hS:SqL K H p xs)
  (ZZ:∀d i σ' H' ys,i<=xs.length->W d i σ' H' ys->ys.length<=i) (h0:∀d,H d=none->W d 0 (cH own fr σ) (upd H d (.lst [])) [])
  (turn:∀d i x σ' H' ys (R:St->V->Hp->Prop) (R0:Y4),H d=none->xs[i]?=some x->W d i σ' H' ys->H' d=some (.lst ys) ->
   (∀σ2 y H5,H5 d=some (.lst ys)->W d (i+1) σ2 (upd H5 d (.lst (ys++[y]))) (ys++[y])->R σ2 y H5)->(∀σ2 H5,H5 d=some (.lst ys)->W d (i+1) σ2 H5 ys->R0 σ2 H5) ->
   g x σ' H' λσ2 H3=>tt σ2 H3 λok H4=>if ok=true then ta σ2 H4 (R σ2) else R0 σ2 H4)
  (fin:∀d σ' H' ys,H d=none->H' d=some (.lst ys)->W d xs.length σ' H' ys->Q (.ref d) H'):gF K (.ref p) H (fK own fr g tt ta σ Q):=by
 refine⟨p,rfl,⟨xs,hS⟩,tH (J:=Itl K p) (n:=xs.length) W hz (λd i σ' H' ys hi w=>⟨xs,xs[i],hw d i σ' H' ys w,by simp[hi]⟩) (λd σ' H' ys w=>⟨xs,hw d _ σ' H' ys w,Ru _⟩) ZZ h0 (λd i σ' H' ys x H2 R R0 hd hi w Hx hy=>?_) fin⟩
 obtain⟨e1,e2⟩:=hy;subst e1;exact turn d i x σ' _ ys R R0 hd (e2 xs (hw d i σ' _ ys w)) w Hx
theorem FO{ia ib:Nat}(hz:xs.length<=100000)(W:Addr->Nat->St->Hp->List V->Prop)(hw:∀d i σ' H' ys,W d i σ' H' ys->SqL K H' p xs)(hS:SqL K H p xs)
  (ZZ:∀d i σ' H' ys,i<=xs.length->W d i σ' H' ys->ys.length<=i) (h0:∀d,H d=none->W d 0 (cH own fr σ) (upd H d (.lst [])) [])
  (turn:∀d i x σ' H' H2 ys (R:St->V->Hp->Prop) (R0:Y4),H d=none->xs[i]?=some x->W d i σ' H' ys->H' d=some (.lst ys)->ag H' H2 ->
   (∀σ2 y H5,H5 d=some (.lst ys)->W d (i+1) σ2 (upd H5 d (.lst (ys++[y]))) (ys++[y])->R σ2 y H5)->(∀σ2 H5,H5 d=some (.lst ys)->W d (i+1) σ2 H5 ys->R0 σ2 H5) ->
   tt ((σ'.set ia (some (.int i))).set ib (some x)) H2 λok H4=>if ok=true then ta ((σ'.set ia (some (.int i))).set ib (some x)) H4 (R ((σ'.set ia (some (.int i))).set ib (some x))) else R0 ((σ'.set ia (some (.int i))).set ib (some x)) H4)
  (fin:∀d σ' H' ys,H d=none->H' d=some (.lst ys)->W d xs.length σ' H' ys->Q (.ref d) H'):vO K [.ref p] H (fK own fr (AO K 2 (kU (eQ ia) (kU (eQ ib) AY))) tt ta σ Q):=by
 refine⟨p,xs,rfl,hS,tH (J:=Ite K p) (n:=xs.length) W hz (λd i σ' H' ys hi w=>⟨xs,xs[i],hw d i σ' H' ys w,by simp[hi]⟩) (λd σ' H' ys w=>⟨xs,hw d _ σ' H' ys w,Ru _⟩) ZZ h0 (λd i σ' H' ys x H2 R R0 hd hi w Hx hy hR ZF=>?_) fin⟩
 obtain⟨q,x',rfl,hq,rfl,e2⟩:=hy;have hx:=e2 xs (hw d i σ' H' ys w);refine⟨q,[.int i,x'],rfl,SqT.of ai,rfl,⟨_,_,rfl,⟨_,_,rfl,⟨rfl,?_⟩⟩⟩⟩;exact turn d i x' σ' H' _ ys R R0 hd hx w Hx (ar hq _) hR ZF
end
theorem Tbl.nil :Tbl (upd H d (.lst [])) d [] []:=⟨ai,Vj,by simp,rfl,λi p r e=>by simp at e⟩
theorem Tbl.snoc{H5:Hp}{s:AT}(h:Tbl H d L ps)(hs:ag H H5)(hp:H5 p=some (.lst (au s)))(hn:p∉ps)(hd:p≠d) :
  Tbl (upd H5 d (.lst (ps.map V.ref++[.ref p]))) d (L++[s]) (ps++[p]):=by
 refine⟨?_,?_,?_,?_,λi q r e1 e2=>?_⟩
 .rw[ai,R3];rfl
 .exact rO h.nd hn
 .intro z;rcases Rq.mp z with z|z
  .exact h.ap z
  .exact hd (Rj.mp z).symm
 .rw[Rt,Rt,h.len];rfl
 .have hl:=h.len;rcases Rz i ps.length with z|z
  .rw[RI z]at e1;rw[RI (by lia)]at e2
   have hq:q≠d:=λc=>h.ap (c ▸ Rb e1);rw[ak hq];exact hs _ _ (h.row i q r e1 e2)
  .rw[RK z]at e1;rw[RK (by lia)]at e2
   have i0:i - ps.length=0:=by
    rcases Su (i - ps.length) with c|c
    .exact c
    .rw[RF (by simp;lia)]at e1;cases e1
   rw[i0]at e1;rw[show i - L.length=0 by lia]at e2
   cases e1;cases e2;rw[ak hd];exact hp
section
variable {σ:St}{tv:TE}
noncomputable def nk(k:Nat):Key:=Xc (k:Int)
noncomputable def Kl(x y:V)(H:Hp)(Q:VK):Prop:=∃a v,x=.ref a/\lO H a y (some v)/\Q v H
noncomputable def CV(y x:V)(H:Hp)(Q:VK):Prop:=∃a o,x=.ref a/\lO H a y o/\Q (.bl (!o.isSome)) H
noncomputable def Kc(x y v:V)(H:Hp)(D:Hp->Prop):Prop:=∃a H4,x=.ref a/\vZ H a y v H4/\D H4
theorem bU(h:td σ H λx H1=>ty σ H1 λy H2=>Kl x y H2 Q):Ke td ty σ H Q:=h
theorem qB(h:ty σ H λy H1=>td σ H1 λx H2=>CV y x H2 Q):CU ty td σ H Q:=h
theorem lA(h:tv σ H λv H1=>td σ H1 λx H2=>ty σ H2 λy H3=>Kc x y v H3 (D.nx σ)):JI td ty tv D σ H:=h
theorem cB(h:H a=some (.dK kvs))(hv:bq kvs (nk k)=some v)(q:Q v H):Kl (.ref a) (.int k) H Q :=
 ⟨a,v,rfl,by rw[<- hv];exact lO.k (k:=nk k) h,q⟩
theorem tX(h:H a=some (.dK kvs))(q:Q (.bl (!(bq kvs (nk k)).isSome)) H):CV (.int k) (.ref a) H Q :=
 ⟨a,_,rfl,lO.k (k:=nk k) h,q⟩
theorem nD{D:Hp->Prop}(h:H a=some (.dK kvs))(hl:kvs.length<=100000)(q:D (upd H a (.dK (putK kvs (nk k) v)))):Kc (.ref a) (.int k) v H D :=
 ⟨a,_,rfl,vZ.k (k:=nk k) h (Sf hl (by rw[RO];decide)),q⟩
theorem rC(h:∀p,H p=none->Q (.ref p) (upd H p (.dK []))):GF σ H Q:=h
theorem La{tk:TE}(h:∀p,H p=none->tk σ (upd H p (.dK [])) λx H1=>tv σ H1 λy H2=>H2 p=some (.dK [])/\∃kvs:Y1,[(x,y)]=kvs.map (λkv=>(kV kv.1,kv.2))/\kvs.length<=15/\Q (.ref p) (upd H2 p (.dK (gL [] kvs)))):Ka [(tk,tv)] σ H Q:=h
theorem gK{a b:Nat}(h:nk a=nk b):a=b:=Yv (Xc.inj h)
noncomputable def dJ(F:AT)(ps:Y9):Y1:=(F.zip ps).map λx=>(nk x.1,V.ref x.2)
theorem Bn :(dJ F ps).length<=F.length:=by
 unfold dJ;rw[Rc,Wj];lia
theorem qA:∀ {F:AT} {ps:Y9} {f:Nat},f∉F->bq (dJ F ps) (nk f)=none
 | [],_,_,_=>rfl
 | _ :: _,[],_,_=>rfl
 | a :: F,p :: ps,f,h=>by
  have h1:¬ nk a=nk f:=λz=>h (by rw[gK z];exact Rr)
  show bq ((nk a,V.ref p) :: dJ F ps) (nk f)=none;rw[cC h1];exact qA λz=>h (Rp _ z)
theorem jv:∀ {F:AT} {ps:Y9} {j f:Nat} {p:Addr},F.Nodup->F[j]?=some f->ps[j]?=some p->bq (dJ F ps) (nk f)=some (.ref p)
 | [],_,_,_,_,_,h,_=>by simp at h
 | _ :: _,[],_,_,_,_,_,h=>by simp at h
 | a :: F,q :: ps,0,f,p,_,h1,h2=>by
  cases h1;cases h2;exact cZ rfl
 | a :: F,q :: ps,j+1,f,p,nd,h1,h2=>by
  have h1':F[j]?=some f:=h1;have h2':ps[j]?=some p:=h2;obtain⟨n1,n2⟩:=R8.mp nd;have h3:¬ nk a=nk f:=λz=>n1 (by rw[gK z];exact Rb h1')
  show bq ((nk a,V.ref q) :: dJ F ps) (nk f)=_;rw[cC h3];exact jv n2 h1' h2'
theorem Lw(nd:F.Nodup)(hl:ps.length=F.length):(bq (dJ F ps) (nk f)).isSome=decide (f∈F):=by
 by_cases h:f∈F
 .obtain⟨j,hj⟩:=RD h;have f':j<ps.length:=by rw[hl];exact(Q9.mp hj).1
  rw[jv nd hj (Q8 f'),decide_eq_true h];rfl
 .rw[qA h,decide_eq_false h];rfl
theorem xv(hl:ps.length=F.length)(h:f∉F):putK (dJ F ps) (nk f) (.ref p)=dJ (F++[f]) (ps++[p]):=by
 rw[pD _ (qA h)];unfold dJ;rw[List.zip_append hl.symm,R3];rfl
end
theorem Ey:typeLookup (.type "list_reverseiterator") "__len__" = pure none:=by rw[Wk,U8];kernel_rfl
theorem IP:typeLookup (.type "list_reverseiterator") "__length_hint__" = pure (some (.builtin "list_reverseiterator.__length_hint__")):=by rw[Wk,U8];kernel_rfl
section
variable {St:Nat->Rg->Prop}
theorem Ek(W:WalksS prog w A.in1 I fp wr G n P St)(hT:∀i s,St i s->s.TypeIs (.ref I) "list_reverseiterator")(S:Addr)(res:Value)(c₀:Nat)(Zp:St 0 s)(x!:S∉fp)(hI:I∈fp)
  (hS:s.heap.get? S=some { cls:=.type "list",data:=.seq #[] c₀ })
  (hR:∀s' Zl c',Moved (S :: wr) G s s'->s'.heap.get? S=some { cls:=.type "list",dict:=none,data:=.seq Zl c',slots:=#[] }->YX P Zl n->R (.ok (.ret res)) s') (hn:n<=RV) :
  wpAny (model prog w) A.in1 (SW (.ref S) (.ref I) res)
   (λfin s'=>match fin with | .done f=>R (.ok f) s' | .again c'=>c'.quiet=true/\codeAny (model prog w) A c' R s') (λe s'=>R (.error e) s') s:=by
 have hSI:S≠I:=λe=>x! (e ▸ hI);have h1:UA (.ref S) (.ref I)=false:=by simp[UA,hSI]
 unfold SW;refine Ra (Vt (hT 0 _ Zp) ?_);rw[if_neg (by rw[h1];decide)]
 refine Ra (W.self 0 _ _ _ Zp ?_);refine Ra (SA ?_);unfold Wl;refine Ra (Wi (hT 0 _ Zp) Ey ?_);show wpAny _ A.in1 (specialOf (RN I) (Vu "__length_hint__") >>= _) _ _ _;refine Ra (Wi (hT 0 _ Zp) IP ?_);generalize hid:("list_reverseiterator.__length_hint__" : String)=id0
 wp_delta
 rw[show splitId id0=some ("list_reverseiterator","__length_hint__") from by subst hid;decide +kernel]
 subst hid;refine Ra (V5 (b:=true) (hT 0 _ Zp) (by rw[Yf];kernel_rfl) ?_)
 refine Rm ?_;rw[if_neg (by decide)]
 refine Rm ⟨Tg Yn _,Yc W hn _ x! _ n 0 _ _ _ rfl (R5 _) Zp hS (ItemsOf.nil P) λs' Zl c' hm Zz ZC=>?_⟩;exact hR s' Zl c' hm Zz ZC
end
section
variable {St:Nat->Rg->Prop}
theorem yw(W:WalksS prog w A.in1 I fp wr G n P St)(hT:∀i s,St i s->s.TypeIs (.ref I) "list_reverseiterator")(S:Addr)(Zp:St 0 s)(x!:S∉fp)(hI:I∈fp)
  (hS:s.heap.get? S=some { cls:=.type "list",data:=.seq #[] })
  (hR:∀s' Zl c',Moved (S :: wr) G s s'->s'.heap.get? S=some { cls:=.type "list",dict:=none,data:=.seq Zl c',slots:=#[] }->YX P Zl n->R (.ok (.ret .none)) s') (hn:n<=RV) :
  wpAny (model prog w) A.in1 (Uu.«list.__init__» ⟨[.ref S,.ref I],[]⟩)
   (λfin s'=>match fin with | .done f=>R (.ok f) s' | .again c'=>c'.quiet=true/\codeAny (model prog w) A c' R s') (λe s'=>R (.error e) s') s:=by
 show wpAny _ A.in1 (do let old <- Xx (.ref S);Builtin.List.listUpdate (.ref S) (λ_=>#[]);letGo old.toList.reverse;SW (.ref S) (.ref I) .none) _ _ s;refine Ra ?_;unfold Xx;refine Ra (UU hS rfl (Rm ?_));show wpAny _ A.in1 (updateSeq S (λ_=>#[]) >>= λ_=>letGo (#[]:Z2).toList.reverse >>= λ_=>SW (.ref S) (.ref I) .none) _ _ s;refine Ra (U9 hS rfl ?_);have hS₂:=S7 (RY (λ_=>(#[]:Z2))) hS rfl;have oth:∀b o,b≠S->s.heap.get? b=some o->(s.heap.update S (RY (λ_=>(#[]:Z2)))).get? b=some o :=
  λb o hb e=>(SI _ _ (TR hb)).trans e
 refine Ra (Wm ?_);refine Ek W hT S .none _ (W.frame 0 s _ s.toks Zp (Ru _) λb hb o e=>oth b o (λh=>x! (h ▸ hb)) e) x! hI hS₂ (λs' Zl c' hm Zz ZC=>?_) hn;exact hR s' Zl c' (Moved.trans W.gtrans ((Moved.refl W.grefl).then_heap (Ru _) λb o hb e=>oth b o (λh=>hb (h ▸ Rr)) e) hm) Zz ZC
theorem yq{Q:Value->Rg->Prop}(W:WalksS prog w A.in1.in1 I fp wr G n P St)(hT:∀i s,St i s->s.TypeIs (.ref I) "list_reverseiterator")(Zp:St 0 s)(hfp:∀b∈fp,b<s.heap.objs.size)(hI:I∈fp)
  (hQ:∀s' Zl c',Moved (s.heap.objs.size :: wr) G { s with heap:=s.heap.push { cls:=.type "list",data:=.seq #[] } } s' ->
   s'.heap.get? s.heap.objs.size=some { cls:=.type "list",dict:=none,data:=.seq Zl c',slots:=#[] }->YX P Zl n->Q (.ref s.heap.objs.size) s') (hn:n<=RV) :
  wpAny (model prog w) A (call (.type "list") [.ref I]) Q E s:=by
 have x!:s.heap.objs.size∉fp:=λhm=>Td _ (hfp _ hm);refine callType_codes (Q₁:=λobj s₁=>obj=.ref s.heap.objs.size/\s₁={ s with heap:=s.heap.push { cls:=.type "list",data:=.seq #[] } }) F.called_list (F.typeCall_list_1 _) F.entry_list_init
  (code_list_new _ ⟨rfl,rfl⟩) λobj s₁ h₁=>?_
 obtain⟨rfl,rfl⟩:=h₁;have hS:(s.heap.push { cls:=.type "list",data:=.seq #[] }).get? s.heap.objs.size=some { cls:=.type "list",data:=.seq #[] }:=RC _ rfl;refine⟨⟨_,hS,rfl⟩,F.args_list_init_2 _ _,yw W hT _ (W.frame 0 s _ s.toks Zp (Ru _) λb _ o e=>Rl _ e) x! hI hS (λs' Zl c' hm Zz ZC=>?_) hn⟩;exact⟨rfl,hQ s' Zl c' hm Zz ZC⟩
end
theorem Bm:∀ {xs:Y6} {us:Y7},xs.length=us.length->(∀ (i:Nat) (x:V) (u:Value),xs[i]?=some x->us[i]?=some u->RelV x u)->Vals xs us
 | [],[],_,_=>.nil
 | x :: xs,u :: us,h,k=>.cons (k 0 x u rfl rfl) (Bm (by simpa using h) λi a b e1 e2=>k (i+1) a b e1 e2)
 | [],_ :: _,h,_=>by simp at h
 | _ :: _,[],h,_=>by simp at h
theorem Vals.getL(r:Vals xs us){x:V}(hx:xs[i]?=some x)(hu:us[i]?=some u):RelV x u:=by
 obtain⟨u',hu',ru⟩:=r.get hx;rw[hu]at hu';cases hu';exact ru
noncomputable def zV(K:Q7)(ta:TA):TE:=λσ H Q=>ta σ H λvs H1=>∃a xs,vs=[.ref a]/\SqL K H1 a xs/\∀d,H1 d=none->Q (.ref d) (upd H1 d (.lst xs.reverse))
theorem Et(K:Q7)(hK:X.K=K)(hc:X.calm=true){ta:TA}{p p2 j!:Pos}(hg1:Gl X "list")(hm1:X.mg "list" = none)(hg2:Gl X "reversed")(hm2:X.mg "reversed" = none)(ha:PA X [e] ta)(hn:isStar e=false:=by rfl) :
  PE X (.Call (.Name "list" p) [.Call (.Name "reversed" p2) [e] [] j!] [] pos) (zV K ta):=by
 subst hK;f_are;refine Call_ (fZ I hg1 hm1 boot_list (SG ?_ (a7 rfl) (cD rfl)));rw[a7 rfl];show wpAny _ _ (spliced ((false,eval (.Call (.Name "reversed" p2) [e] [] j!) X.env) :: backTo pos (So [] X.env))) _ _ s;refine Vx ?_;refine Call_ (fZ I hg2 hm2 boot_reversed (SG (thn (ha j! Za s σ H _ I h) λus s1 ⟨vs,H1,I1,r1,q1⟩=>?_) (a7 hn) (cD rfl)));obtain⟨a,xs,ev,hS,q⟩:=q1;subst ev;obtain⟨u,rfl,ru⟩:=vals1 r1;cases(show u=RN a from ru);obtain⟨Zb,rv,pl,hz⟩:=I1.list hS;have hl:=rv.length;refine call_reversed_list pl.isList ?_;refine VP ?_;have lta:a<s1.heap.objs.size:=by obtain⟨_,z,_⟩:=pl.isList;exact Rv z
 have hh:X.A.in1.in1.handled=none:=by simpa using I.ok.hd hc
 refine yq (I:=s1.heap.objs.size) ((Walks.listRev hh s1.heap.objs.size a (Ry lta) Zb.toArray).toS) (λi s' st=>st.2.1.typeIs) ⟨R5 _,⟨_,RC _ rfl,rfl,by simp[revObj]⟩,pl.isList.push _⟩ (λb hb=>?_) (by simp) (λs' acc c hm Zz ZC=>?_) (by rw[Rx,<- hl];exact hz)
 .have Zi:b=s1.heap.objs.size\/b=a:=by simpa using hb
  rw[S0];rcases Zi with rfl|rfl
  .exact Tt _
  .exact Sw lta
 .obtain⟨h',g',d',tk',os'⟩:=s';have eg:g'=s1.gens:=hm.gens;have ed:d'=s1.drawn:=hm.drawn;have eo:os'=s1.os:=hm.os;subst eg ed eo;rw[S0]at Zz hm ⊢;refine⟨.ref (s1.heap.objs.size+1),upd H1 (s1.heap.objs.size+1) (.lst xs.reverse),I1.laid (a:=s1.heap.objs.size+1) (o:=.lst xs.reverse) (λb o e=>?_) (S6 _) ⟨?_,acc.toList,c,?_,?_⟩,rfl,q _ (I1.hok.fresh (S6 _))⟩
  .have Zd:=Rv e;refine hm.heap b o (λz=>?_) (Rl _ (Rl _ e));have z':b=s1.heap.objs.size+1\/b=s1.heap.objs.size:=by simpa using z
   rcases z' with z' | z'
   .rw[z']at Zd;exact absurd Zd (Nat.not_lt.mpr (S6 _))
   .rw[z']at Zd;exact absurd Zd (Td _)
  .rw[Wn];exact hz
  .refine Bm ?_ λi x u e1 e2=>?_
   .rw[Wn,hl]
    simpa using ZC.1.symm
   .have e2':acc[i]?=some u:=by rw[<- Sy];exact e2
    have z:=ZC.2 i u e2';have hi:i<xs.length:=by
     have:=(Q9.mp e1).1;rw[Wn]at this;o_rec
    rw[List.getElem?_reverse hi]at e1;have z2:Zb[xs.length - 1 - i]?=some u:=by
     rw[hl]
     simpa using z
    exact rv.getL e1 z2
  .simpa using Zz
noncomputable def DE(P:RB)(w:World)(a:Addr)(kvs:Y1)(ep:Nat):HO:=.ext λh=>kvs.length<=RV/\(a == sysModules)=false/\∃vs,KV kvs vs/\h.DictAt (ck P w) a vs ep
section
variable {σ:St} 
theorem uX(I:Inv X Za σ H s)(e:H a=some (DE X.prog X.w a kvs ep)):kvs.length<=RV/\(a == sysModules)=false/\∃vs,KV kvs vs/\s.heap.DictAt (ck X.prog X.w) a vs ep :=
 (show bR X.prog X.w H s.heap a (DE X.prog X.w a kvs ep) from I.hok a _ e).1
theorem Inv.hold(I:Inv X Za σ H s)(e:H a=some (.dK kvs)):∃ep,Inv X Za σ (upd H a (DE X.prog X.w a kvs ep)) s:=by
 obtain⟨z,hd,vs,rel,dd⟩:=zj I.hok e;obtain⟨ep,da⟩:=dd.dictAt;refine⟨ep,?_⟩;obtain⟨o,es,ho,r⟩:=id da;exact I.write (x:=a) (e:=a) (h':=s.heap) (t':=s.toks) (by rw[e];exact T7) (.inl rfl) (λ_ _ _ q=>q) ⟨o,ho⟩ ⟨⟨z,hd,vs,rel,da⟩,⟨o,ho⟩,λh1 h2 ⟨q1,q2,vs',q3,q4⟩ k=>⟨q1,q2,vs',q3,q4.at' λo' e'=>k o' e'⟩⟩
theorem Inv.release(I:Inv X Za σ H s)(e:H a=some (DE X.prog X.w a kvs ep)):Inv X Za σ (upd H a (.dK kvs)) s:=by
 obtain⟨z,hd,vs,rel,da⟩:=uX I e;obtain⟨o,es,ho,r⟩:=id da;exact I.write (x:=a) (e:=a) (h':=s.heap) (t':=s.toks) (by rw[e];exact T7) (.inl rfl) (λ_ _ _ q=>q) ⟨o,ho⟩ (uN z hd rel da.dictOf)
end
noncomputable def Ow(P:RB)(w:World)(i:Nat)(t:TS):TS:=λD σ H=>∃a kvs,σ[i]?=some (some (.ref a))/\H a=some (.dK kvs)/\∀ep,t D σ (upd H a (DE P w a kvs ep))
noncomputable def OB(P:RB)(w:World)(i:Nat)(t:TS):TS:=λD σ H=>∃a kvs ep,σ[i]?=some (some (.ref a))/\H a=some (DE P w a kvs ep)/\t D σ (upd H a (.dK kvs))
theorem K0(P:RB)(w:World)(i:Nat)(hP:X.prog=P)(hw:X.w=w)(h:PS X st t):PS X st (Ow P w i t):=by
 subst hP hw;intro Za s σ H D I q;obtain⟨a,kvs,_,e,q⟩:=q;obtain⟨ep,I'⟩:=I.hold e;exact h Za s σ _ D I' (q ep)
theorem Lq(P:RB)(w:World)(i:Nat)(hP:X.prog=P)(hw:X.w=w)(h:PS X st t):PS X st (OB P w i t):=by
 subst hP hw;intro Za s σ H D I q;obtain⟨a,kvs,ep,_,e,q⟩:=q;exact h Za s σ _ D (I.release e) q
noncomputable def Itd(P:RB)(w:World)(a:Addr)(kvs:Y1)(ep:Nat):It :=
 ⟨λi H=>H a=some (DE P w a kvs ep)/\i<kvs.length,λi H x H'=>H'=H/\∃kv,kvs[i]?=some kv/\x=kV kv.1,λi H=>H a=some (DE P w a kvs ep)/\kvs.length<=i⟩
theorem DB{P:RB}{k:Key}(h:(ck P w).is k u=true):RelV (kV k) u:=by
 rcases cW h with ⟨i,t,rfl,rfl⟩|⟨x,t,rfl,rfl⟩
 .exact⟨t,rfl⟩
 .exact⟨t,rfl⟩
theorem KV.get(r:KV kvs vs){p:Key×V}(h:kvs[i]?=some p):∃q,vs[i]?=some q/\p.1=q.1/\RelV p.2 q.2:=by
 unfold KV at r
 induction r generalizing i with
 | nil=>simp at h
 | @cons a b as bs hab t ih =>
  cases i with
  | zero=>cases h;exact⟨b,rfl,hab⟩
  | succ i=>exact ih h
theorem G4{P:RB}(a it:Addr)(kvs:Y1)(ep:Nat):Turn P w K tg (Itd P w a kvs ep) [it] it (λi h=>h.IsKeyIter it a i kvs.length ep) where
 mem:=by simp
 obj:=λi h st b hb=>by
  have e:b=it:=by simpa using hb
  subst e;obtain⟨o,e,c,d⟩:=st;exact⟨o,e,λv z=>by rw[d]at z;cases z⟩
 keep:=λi h h' st k=>st.at λo e=>k it (by simp) o e
 item:=by
  f_tup;obtain⟨hH,hi⟩:=hg;obtain⟨z,hd,vs,rel,da⟩:=uX I hH;k_go0
  obtain⟨q,hq,e1,r1⟩:=rel.get (Q8 hi);rw[rel.length]at st;refine wpAny_pyNext_dict_item st da (k:=q.1) (v:=q.2) hq λkey h' hk ZY sb=>?_;have I1:Inv X Za σ H { s with heap:=h' }:=I.turned (t':=s.toks) (λb o hb e=>(sb.2 b hb).trans e) f0 f1 f3 f4 f5;obtain⟨o,e,c,d⟩:=id ZY;refine⟨key,rfl,EB (s:={ s with heap:=h' }) e c d (by decide) ⟨kV kvs[i].1,H,I1,?_,⟨rfl,kvs[i],Q8 hi,rfl⟩,?_,λb hb=>(hf b hb).1⟩⟩
  .rw[e1];exact DB hk
  .rw[rel.length];exact ZY
 done:=by
  f_tup;obtain⟨hH,hi⟩:=hg;obtain⟨z,hd,vs,rel,da⟩:=uX I hH;k_go0
  have hl:=rel.length;rw[hl]at st;exact wpAny_pyNext_dict_end (I.ok.hd hc) st da (RF (by lia)) λh' eb=>⟨rfl,I.turned (t':=s.toks) (λb o hb e=>eb b o hb e) f0 f1 f3 f4 f5⟩
 self:=λ_ _ _ _ _ st h=>wpAny_pyIter_keyiter st h
noncomputable def EK(P:RB)(w:World)(x:V)(H:Hp)(R:It->Hp->Prop):Prop:=∃a kvs ep,x=.ref a/\H a=some (DE P w a kvs ep)/\R (Itd P w a kvs ep) H
noncomputable def J8(P:RB)(w:World)(tl:TE):TI:=λσ H R=>tl σ H λx H1=>EK P w x H1 R
theorem L3(P:RB)(w:World)(hP:X.prog=P)(hw:X.w=w){l:Expr}(hl:PE X l tl):PI X tg l (J8 P w tl):=by
 subst hP hw;intro Za s σ H R I h;refine thn (hl Za s σ H _ I h) λv s1 ⟨x,H1,I1,r1,q1⟩=>?_;obtain⟨a,kvs,ep,e,hH,q⟩:=q1;subst e;cases r1;obtain⟨z,hd,vs,rel,da⟩:=uX I1 hH;have hl:=rel.length;refine wpAny_pyIter_dict hd da ?_;refine⟨s1.heap.objs.size,[s1.heap.objs.size],_,_,H1,rfl,I1.kept (t':=s1.toks) λb o e=>Rl _ e,G4 a _ kvs ep,⟨_,RC _ rfl,rfl,by rw[hl];rfl⟩,λb hb=>?_,q⟩
 have e:b=s1.heap.objs.size:=by simpa using hb
 subst e;walk_at "135"
noncomputable def BG(P:RB)(w:World)(x y:V)(H:Hp)(Q:VK):Prop:=∃a kvs ep k v,x=.ref a/\H a=some (DE P w a kvs ep)/\y=kV k/\bq kvs k=some v/\Q v H
noncomputable def Hh(P:RB)(w:World)(td ty:TE):TE:=λσ H Q=>td σ H λx H1=>ty σ H1 λy H2=>BG P w x y H2 Q
theorem Jz(P:RB)(w:World)(hP:X.prog=P)(hw:X.w=w){o i:Expr}(ho:PE X o td)(hi:PE X i ty)(hs:HB i):PE X (.Subscript o i pos) (Hh P w td ty):=by
 subst hP hw;f_are;refine Dl WN.lookup hs (thn (ho Za s σ H _ I h) λu s1 ⟨x,H1,I1,rx,q1⟩=>thn (hi Za s1 σ H1 _ I1 q1) λiv s2 ⟨y,H2,I2,ry,a,kvs,ep,k,v,ex,hH,ey,hv,q2⟩=>?_);subst ex ey;obtain rfl:u=RN a:=rx;obtain⟨z,hd,vs,rel,da⟩:=uX I2 hH;obtain⟨w',hw,C!⟩:=gf.some_of (v:=v) (o:=valueAt vs k) (by rw[<- hv];exact rel.val k)
 exact⟨da.dictOf.typeIs,wpAny_getItem_of (oP ry) da.dictOf.mapOf hw ⟨v,H2,I2.tok _,C!,q2⟩⟩
section
variable {P:RB}{σ:St}{ta:TA} 
theorem LN{R:It->Hp->Prop}(h:tl σ H λx H1=>EK P w x H1 R):J8 P w tl σ H R:=h
theorem HR(h:td σ H λx H1=>ty σ H1 λy H2=>BG P w x y H2 Q):Hh P w td ty σ H Q:=h
theorem Ly(h:H a=some (DE P w a kvs ep))(hv:bq kvs (nk k)=some v)(q:Q v H):BG P w (.ref a) (.int k) H Q:=⟨a,kvs,ep,nk k,v,rfl,h,rfl,hv,q⟩
theorem GY(h:ta σ H λvs H1=>∃a xs,vs=[.ref a]/\SqL K H1 a xs/\∀d,H1 d=none->Q (.ref d) (upd H1 d (.lst xs.reverse))):zV K ta σ H Q:=h
theorem vD(h:H a=some (DE P w a kvs ep))(Pv:Z7)(h0:Pv 0 σ H)(hl:∀i σ' H',Pv i σ' H'->H' a=some (DE P w a kvs ep))
  (hs:∀i p σ' H',kvs[i]?=some p->Pv i σ' H'->g (kV p.1) σ' H' λσ2 H2=>t { D with nx:=Pv (i+1),ct:=Pv (i+1),bk:=D.nx } σ2 H2) (hd:∀σ' H',Pv kvs.length σ' H'->D.nx σ' H'):EK P w (.ref a) H (eI g t D σ):=by
 refine⟨a,kvs,ep,rfl,h,λi m σ' H'=>m=kvs.length - i/\i<=kvs.length/\Pv i σ' H',⟨kvs.length,by simp,R5 _,h0⟩,?_⟩
 rintro i m σ' H' ⟨rfl,hi,p0⟩;have q:=hl i σ' H' p0
 by_cases Zd:i<kvs.length
 .refine .inr ⟨⟨q,Zd⟩,Pv (i+1),λσ2 H2 p'=>⟨kvs.length - (i+1),by lia,rfl,Zd,p'⟩,λz H2 yl=>?_⟩
  obtain⟨rfl,kv,W!,rfl⟩:=yl;exact hs i kv σ' H2 W! p0
 .have e:i=kvs.length:=by lia
  subst e;exact .inl ⟨⟨q,Ru _⟩,hd σ' H' p0⟩
end
section
variable {CX:CXT}{f:Addr}{fd:SO}{ps:Z0}{m:Str}{apos:Pos}{o:Expr}{t:TA}
theorem oX(he:PE X o ta)(c:Cls X.K C)(hm:Meth X.K C m f)(F:aH X.prog X.w X.K X.mg X.base CX0 k f fd ps sp)(hr:bQ k X.A)(hb:Binds X.K fd ps [])(ha:PA X (e :: es) t)
  (hn:isStar e=false:=by rfl) (Zh:es.all (λe=>!isStar e)=true:=by rfl)
  (ht:eval (.Call (.Attribute o m apos) (e :: es) [] pos) X.env=(do
   let ov <- eval o X.env
   standAt apos.atName
   let (f,first) <- holding [ov] (getMethod ov m pl)
   callWith pos f first (backTo pos (So (e :: es) X.env)) (backToKw pos (keywordEach [] X.env))):=by rfl) :
  PE X (.Call (.Attribute o m apos) (e :: es) [] pos) (Ef C m sp [] E0 ta t):=Ln he c hm F hr hb .nil jL ha (a7 hn) (cD Zh) ht
end
section
variable {σ:St} 
theorem uw{m:Str}{E:XK}{t:TA}(h:ta σ H λx H1=>∃a dx fs,x=.ref a/\H1 a=some (.ins C dx fs)/\fs.lookup m=none/\t σ H1 λvs H2=>sp (x :: (vs++[])) H2 Q E):Ef C m sp [] E ta t σ H Q:=h
theorem N9{a b:Int}(h:0<b)(q:Q (.int (a % b)) H):rI (λ_ j=>0<j) (λi j=>.int (i % j)) (.int a) (.int b) H Q:=⟨a,b,rfl,rfl,h,q⟩
end
noncomputable def EH(vs:Y6)(H:Hp)(R:It->Hp->Prop):Prop:=∃i j:Int,vs=[.int i,.int j]/\(-(2 ^ 62)<=i/\i<2 ^ 62/\-(2 ^ 62)<=j/\j<2 ^ 62)/\R (Itr i (j - i).toNat) H
theorem D6{a b:Expr}{ta:TA}{p:Pos}(hg:Gl X "range")(hm:X.mg "range" = none)(ha:PA X [a,b] ta)(hn:isStar a=false:=by rfl)(hn2:isStar b=false:=by rfl):PI X tg (.Call (.Name "range" p) [a,b] [] pos) (Ep ta) :=
 GB hg hm ha (by rw[a7 hn,a7 hn2];rfl) (by rw[a7 hn2];rfl)
section
variable {σ:St}{tA:TA}{fr:AT}
theorem L4{R:It->Hp->Prop}(h:tA σ H λvs H1=>EH vs H1 R):Ep tA σ H R:=h
theorem qI{a b:Int}{lo:Nat}(e:a=(lo:Int))(e2:b=((lo+n:Nat):Int))(hn:lo+n<=1000000)(Pv:Z7)(h0:Pv 0 σ H)
  (hs:∀i σ' H',i<n->Pv i σ' H'->g (.int ((lo+i:Nat):Int)) σ' H' λσ2 H2=>t { D with nx:=Pv (i+1),ct:=Pv (i+1),bk:=D.nx } σ2 H2) (hd:∀σ' H',Pv n σ' H'->D.nx σ' H'):EH [.int a,.int b] H (eI g t D σ):=by
 subst e e2;refine⟨lo,_,rfl,⟨by lia,by lia,by lia,by lia⟩,?_⟩
 have z:(((lo+n:Nat):Int) - (lo:Int)).toNat=n:=by lia
 rw[z];refine⟨λi m σ' H'=>m=n - i/\i<=n/\Pv i σ' H',⟨n,rfl,R5 _,h0⟩,?_⟩;rintro i m σ' H' ⟨rfl,hi,p⟩
 by_cases Zd:i<n
 .refine .inr ⟨Zd,Pv (i+1),λσ2 H2 p'=>⟨n - (i+1),by lia,rfl,Zd,p'⟩,λx H2 y=>?_⟩
  obtain⟨rfl,rfl⟩:=y;have q:=hs i σ' H2 Zd p;rw[show (((lo+i:Nat):Int))=(lo:Int)+(i:Int) by push_cast;rfl]at q
  exact q
 .have e:i=n:=by lia
  subst e;exact .inl ⟨Ru i,hd σ' H' p⟩
end
theorem cx:∀ (names:List (Str×UZ)) (n:Nat) (acc:List (Str×Addr)),cellsFrom n names acc=cellsFrom n names []++acc
 | [],_,_=>rfl
 | (x,k) :: r,n,acc=>by
  unfold cellsFrom
  split
  .rw[cx r (n+1) ((x,n) :: acc),cx r (n+1) [(x,n)],Uw];rfl
  .exact cx r n acc
theorem ir:∀ (names:List (Str×UZ)) (n:Nat) (x:Str),(x,Tf)∈names->∃c,(cellsFrom n names []).lookup x=some c
 | (y,k) :: r,n,x,h=>by
  unfold cellsFrom;rcases RA.mp h with e|h
  .cases e;rw[if_pos (show (Tf == Tf)=true from rfl),cx,Ur];cases q:(cellsFrom (n+1) r []).lookup y with
   | some c=>exact⟨c,rfl⟩
   | none=>exact⟨n,by simp⟩
  .split
   .obtain⟨c,hc⟩:=ir r (n+1) x h;rw[cx,Ur,hc];exact⟨c,rfl⟩
   .exact ir r n x h
theorem ki:∀ (names:List (Str×UZ)) (n:Nat) (x:Str) (c:Addr),(x,c)∈cellsFrom n names []->(x,Tf)∈names
 | [],_,_,_,h=>by simp[cellsFrom]at h
 | (y,k) :: r,n,x,c,h=>by
  unfold cellsFrom at h
  split at h
  .rename_i hk
   rw[cx]at h;rcases Rq.mp h with z|z
   .exact Rp _ (ki r (n+1) x c z)
   .have z':=Rj.mp z;cases z';have:k=Tf:=by simpa using hk
    rw[this];exact Rr
  .exact Rp _ (ki r n x c h)
theorem su{M:Model}{qual:Str}{env:Env}{Q:Env->Rg->Prop}
  (h:Q (newEnv scope s.heap.objs.size globals (cellsFrom (s.heap.objs.size+1) scope.names cl) qual none .none (some env) builtinsNs) { s with heap:=pushCells (s.heap.push { cls:=.type "dict",data:=.dict #[] }) scope.names }) :
  wpAny M A (newFunctionEnv scope globals cl [] qual none .none (some env)) Q E s:=by
 simp only[newFunctionEnv,Option.isSome_some,if_true];refine Ra (wpAny_alloc ?_);refine Ra (wpAny_layCells _ (λname kind cells=>by cases hkc:kind == Tf <;> simp[hkc]) _ _ _ _ ?_)
 rw[show ({ s with heap:=s.heap.push { cls:=.type "dict",data:=.dict #[] } }:Rg).heap.objs.size=s.heap.objs.size+1 from S0 ..];exact Ra (Rm (Rm h))
noncomputable def cA(X:Cx)(scope:Scope)(own:Z0)(fr:AT)(C:Addr)(s₂:Rg)(H₂:Hp)(fp:Y9):Cx :=
 { X with N:=oI own fr X.N,s₀:=s₂,H₀:=H₂,env:=compEnvC scope (cellsFrom (C+1) scope.names (eX X.env scope.names [])) C X.env,outer:=X.stack,ex:=fp,fn:=λx=>decide ((x,Tf)∈scope.names),pn:=[],xe:=λ_ _=>False }
structure aT(sc:Scope)(N:Z0)(scope:Scope)(own:Z0)(fr:AT):Prop where
 kind:scope.kind=.function
 cf0:∀y∈scope.names,y.2=.cell->(y.1,Te)∉scope.names
 names:∀y∈scope.names,y.2=.local->scope.names.lookup y.1=some .local
 free:∀y∈scope.names,y.2=.free->sc.names.lookup y.1=some .cell\/sc.names.lookup y.1=some .free
 fr0:∀i∈fr,(N[i]?.bind λx=>scope.names.lookup x)=some .free
 nd:(oI own fr N).Nodup
theorem aT.cf{fr:AT}(S:aT sc N scope own fr)(x:Str)(h:(x,Tf)∈scope.names):(x,Te)∉scope.names:=S.cf0 _ h rfl
theorem aT.fr{sc:Scope}{N:Z0}{scope:Scope}{own:Z0}{fr:AT}(S:aT sc N scope own fr):∀i∈fr,∃x,N[i]?=some x/\scope.names.lookup x=some .free:=λi hi=>by
 have q:=S.fr0 i hi;cases e:N[i]? with
 | none=>rw[e]at q;cases q
 | some x=>rw[e]at q;exact⟨x,rfl,q⟩
section
variable {fr:AT}{σ:St}{H₂:Hp}{s₂:Rg}{D:Addr}{h₁:Heap}{tk:Nat}
theorem aT.cells(S:aT X.env.scope X.N scope own fr)(ok:X.Ok):∀x∈scope.names,x.2=.free->∃c,X.env.cells.lookup x.1=some c:=λx hx hf=>ok.has x.1 (S.free x hx hf)
theorem Gz(S:aT X.env.scope X.N scope own fr)(I:Inv X Za σ H₂ s₂)(f2:∀b∈fp,m8 X Za H₂ b)(fo:∀b∈fp,b<s₂.heap.objs.size)
  (hC:s₂.heap.objs.size<=C) (hD:s₂.heap.objs.size<=D) (hDC:D≠C) (hDC':D<C) (old:∀b o,s₂.heap.get? b=some o->h₁.get? b=some o) (hns:h₁.Ns C m) (new:∃n,h₁.get? D=some { cls:=.type "list",data:=.seq #[] n }) (okc:CellsOk h₁ (C+1) (cellsFrom (C+1) scope.names [])) :
  Inv (cA X scope own fr C s₂ H₂ fp) [] (cH own fr σ) (upd H₂ D (.lst [])) { s₂ with heap:=h₁,toks:=tk }:=by
 have hk:=S.cells I.ok;have sub:=Az (env:=X.env) scope.names [] hk (λx c e=>by cases e)
 have fl:∀x c,(eX X.env scope.names []).lookup x=some c->∃v,s₂.heap.IsCell c v:=λx c e=>I.cell x c (sub x c e);have two:∀x c,(cellsFrom (C+1) scope.names (eX X.env scope.names [])).lookup x=some c->((cellsFrom (C+1) scope.names []).lookup x=some c)\/(eX X.env scope.names []).lookup x=some c:=λx c e=>by
  rw[cx,Ur]at e;cases q:(cellsFrom (C+1) scope.names []).lookup x with
  | none=>rw[q]at e;exact .inr e
  | some c'=>rw[q]at e;exact .inl e
 have nw:∀x c,(cellsFrom (C+1) scope.names []).lookup x=some c->h₁.IsCell c none/\C+1<=c:=λx c e=>okc.empty x c (SH e);have ge:∀x c,(cellsFrom (C+1) scope.names []).lookup x=some c->s₂.heap.objs.size<=c:=λx c e=>RU hC (TL (nw x c e).2);have olt:∀x c,(eX X.env scope.names []).lookup x=some c->c<s₂.heap.objs.size:=λx c e=>by
  obtain⟨v,o,z1,_⟩:=fl x c e;exact Rv z1
 have okX:(cA X scope own fr C s₂ H₂ fp).Ok:=by
  refine⟨I.ok.mod,S.kind,I.ok.glob,I.ok.blt,hC,λx y c e1 e2=>?_,λx hx=>?_,λx c hf e=>?_,I.ok.hd,I.ok.frames,.inl rfl,λb hb=>⟨?_,λx c e z=>?_⟩,
   I.bs,RU I.ok.bsz I.sz,λb o e hb=>?_,λb hb=>?_,I.stack,I.CZ⟩
  .rcases two x c e1 with z1|z1 <;> rcases two y c e2 with z2|z2
   .exact name_of_addr okc.apart (SH z1) (SH z2)
   .exact absurd (Sf (ge x c z1) (olt y c z2)) (Td _)
   .exact absurd (Sf (ge y c z2) (olt x c z1)) (Td _)
   .exact I.ok.inj x y c (sub x c z1) (sub y c z2)
  .show ∃c,(cellsFrom (C+1) scope.names (eX X.env scope.names [])).lookup x=some c;rw[cx,Ur];cases q:(cellsFrom (C+1) scope.names []).lookup x with
   | some c'=>exact⟨c',rfl⟩
   | none =>
    rcases pG hx with z|z
    .exact sU _ _ _ z
    .obtain⟨c,hc⟩:=ir scope.names (C+1) x z;rw[q]at hc;cases hc
  .rcases two x c e with z|z
   .exact ge x c z
   .exfalso
    have hf':(x,Tf)∈scope.names:=of_decide_eq_true hf;have e':(cellsFrom (C+1) scope.names (eX X.env scope.names [])).lookup x=some c:=e;obtain⟨c',ZH⟩:=ir scope.names (C+1) x hf';rw[cx,Ur,ZH]at e';cases e';exact absurd (Sf (ge x _ ZH) (olt x _ z)) (Td _)
  .exact Ry (RH (fo b hb) hC)
  .rcases two x c e with y|y
   .exact absurd (Sf (ge x c y) (z ▸ fo b hb)) (Td _)
   .exact(f2 b hb).2.2.2.2.1 x c (sub x c y) z
  .obtain⟨_,_,_,f3,_⟩:=f2 b hb;rcases f3 with z|z
   .exact I.ok.tw b o e z
   .exact absurd (RH (Rv (I.ok.bs b o e).1) z) (Td _)
  .obtain⟨_,f1,f2',_⟩:=f2 b hb;intro z;rcases RA.mp (I.AK b z) with q|q
   .exact f1 q
   .exact f2' q
 have frH:∀a,s₂.heap.objs.size<=a->H₂ a=none:=λa h=>I.hok.fresh h;refine⟨okX,rfl,I.bare,Un.laid old hD (frH D hD),⟨m,hns,λi x v e1 e2 e3=>?_⟩,λx c e=>?_,?_,λx c e=>?_,λp hp=>absurd (show p∈([]:Y0) from hp) (by simp),I.hok.laid old hD ?_,?_⟩
 .obtain⟨j,hi,hj,hv⟩:=DY e2;have hx:X.N[j]?=some x:=by
   obtain⟨y,hy,_⟩:=S.fr j (Rb hj);have e1':(oI own fr X.N)[i]?=some x:=e1;unfold oI at e1';rw[RK hi,Ro,hj]at e1';have e1'':(X.N[j]?).getD ("" : Str)=x:=by simpa using e1'
   rw[hy]at e1'' ⊢;exact congrArg some e1''
  obtain⟨y,hy,ZN⟩:=S.fr j (Rb hj);rw[hx]at hy;cases hy;have w!:X.env.kindOf x=some .cell\/X.env.kindOf x=some .free:=S.free _ (SH ZN) rfl;obtain⟨mo,hno,hlo⟩:=I.loc;obtain⟨u,r,l⟩:=hlo j x v hx hv (w!.elim (λz=>.inr (.inl z)) λz=>.inr (.inr z));refine⟨u,r,.inr ⟨qz ZN,?_⟩⟩;obtain⟨c,hc⟩:=sU (env:=X.env) scope.names [] x (SH ZN);have hno:(cellsFrom (C+1) scope.names []).lookup x=none:=by
   cases q:(cellsFrom (C+1) scope.names []).lookup x with
   | none=>rfl
   | some c'=>exact absurd (SH ZN) (S.cf x (ki scope.names (C+1) x c' (SH q)))
  refine⟨c,by show (cellsFrom (C+1) scope.names (eX X.env scope.names [])).lookup x=some c;rw[cx,Ur,hno];exact hc,?_⟩
  have ZH:=sub x c hc;rcases l with ⟨k,_⟩|⟨_,c',e,o,z1,z2⟩
  .rcases w! with z|z
   .rw[k]at z;cases z
   .rw[k]at z;cases z
  .rw[ZH]at e;cases e;exact⟨o,old _ _ z1,z2⟩
 .rcases two x c e with y|y
  .exact⟨none,(nw x c y).1⟩
  .obtain⟨v,o,z1,z2⟩:=fl x c y;exact⟨v,o,old _ _ z1,z2⟩
 .show (upd H₂ D (.lst [])) C=none;rw[ak (TR hDC)];exact frH C hC
 .rcases two x c e with y|y
  .rw[ak (show c≠D from T3 (U7 hDC' (nw x c y).2))];exact frH c (ge x c y)
  .obtain⟨v,o,z1,z2⟩:=fl x c y;rw[ak (Ry (RH (Rv z1) hD))];exact I.gn x c (sub x c y)
 .obtain⟨n,e⟩:=new;exact⟨R5 _,[],n,.nil,e⟩
 .show (cH own fr σ).length=(oI own fr X.N).length;simp[cH,oI]
end
section
variable {elt iter:Expr}{fr:AT}{wi:TI}{te:TE}
theorem vd{σ:St}(hc:X.calm=true)(S:aT X.env.scope X.N scope own fr)(hi:PI X tg iter wi)
  (hb:∀C s₂ H₂ fp,PG (cA X scope own fr C s₂ H₂ fp) tg g/\PIf (cA X scope own fr C s₂ H₂ fp) ifs tt/\PE (cA X scope own fr C s₂ H₂ fp) elt te)
  (I:Inv X Za σ H s) (h:zq own fr wi g tt te σ H Q)
  (hRR:∀D C s' H' m',Inv X Za σ H' s'->Q (.ref D) H'->m8 X Za H' C->s'.heap.Ns C m'->RR (.ref D) C (.ok .next) s') :
  wpAny (model X.prog X.w) X.A (eval iter X.env) (λv s₁=>wpAny (model X.prog X.w) X.A (pyIter v) (λit s₂=>wpAny (model X.prog X.w) X.A (newList []) (λacc s₃ =>
   wpAny (model X.prog X.w) X.A (newFunctionEnv scope X.env.globals (eX X.env scope.names []) [] X.env.qual none .none (some X.env)) (λcenv s₄ =>
    codeAny (model X.prog X.w) X.A (.compStart (.ListComp elt [⟨tg,iter,ifs,0⟩] scope pos) 0 it acc { cenv with scope:=relabel scope X.env }) (RR acc cenv.locals) s₄) X.xe s₃) X.xe s₂) X.xe s₁) X.xe s:=by
 refine thn (hi Za s σ H _ I h) λv s1 h1=>thn h1 λitv s2 h2=>?_;obtain⟨it,fp,tn,J,H2,e,I2,T,st2,f2,hq⟩:=h2;subst e;refine TY (su ?_);dsimp only;have hD:=I2.hok.fresh (Ru s2.heap.objs.size);obtain⟨W,⟨m0,w0⟩,turn⟩:=hq s2.heap.objs.size hD;generalize hH2:s2.heap.push { cls:=.type "list",dict:=none,data:=.seq ([]:Y7).toArray }=G at ⊢;have hG:G.objs.size=s2.heap.objs.size+1:=by rw[<- hH2,S0]
 have hDC:s2.heap.objs.size≠G.objs.size:=by rw[hG];exact Ry (Tt _)
 have hC:s2.heap.objs.size<=G.objs.size:=by rw[hG];exact S6 _
 have old:∀b o,s2.heap.get? b=some o->(pushCells (G.push { cls:=.type "dict",data:=.dict #[] }) scope.names).get? b=some o:=λb o e =>
  XS _ _ b o (Rl _ (hH2 ▸ Rl _ e))
 have new:(pushCells (G.push { cls:=.type "dict",data:=.dict #[] }) scope.names).get? s2.heap.objs.size=some { cls:=.type "list",data:=.seq #[] 0 } :=
  XS _ _ _ _ (Rl _ (hH2 ▸ RC _ rfl))
 have hns₁:(pushCells (G.push { cls:=.type "dict",data:=.dict #[] }) scope.names).Ns G.objs.size (λ_=>none):=(Heap.Ns.new G (.type "dict")).keeps (XS _ _);have okc:=cellsFrom_ok scope.names (G.push { cls:=.type "dict",data:=.dict #[] }) (G.objs.size+1) [] ⟨λ_ _ hm=>(nomatch hm),WX⟩ (by rw[S0];exact Ru _)
 rw[S0]at okc;generalize hh1:pushCells (G.push { cls:=.type "dict",data:=.dict #[] }) scope.names=h₁ at old new hns₁ okc ⊢;have fo:∀b∈fp,b<s2.heap.objs.size:=λb Zi=>let ⟨o,e,_⟩:=T.obj 0 _ st2 b Zi;Rv e;have I4:Inv (cA X scope own fr G.objs.size s2 H2 fp) [] (cH own fr σ) (upd H2 s2.heap.objs.size (.lst [])) { s2 with heap:=h₁ } :=
  Gz (tk:=s2.toks) S I2 f2 fo hC (Ru _) hDC (by rw[hG];exact Tt _) old hns₁ ⟨_,new⟩ okc
 obtain⟨hg,ht,he⟩:=hb G.objs.size s2 H2 fp;have fpX:∀ {H':Hp},(∀b∈fp,H' b=none)->∀b∈fp,m8 (cA X scope own fr G.objs.size s2 H2 fp) [] H' b:=λ{H'} hn b Zi=>by
  refine⟨hn b Zi,Ry (RH (fo b Zi) hC),I4.ok.tW b Zi,.inl Zi,(I4.ok.exf b Zi).2,λp hp=>absurd (show p∈([]:Y0) from hp) (by simp)⟩
 have fr0:∀b∈fp,(upd H2 s2.heap.objs.size (.lst [])) b=none:=λb Zi=>by
  rw[ak (Ry (fo b Zi))];exact(f2 b Zi).1
 have tn0:tn 0 h₁:=T.keep _ _ _ st2 λb Zi o e=>old b o e;have loop:codeAny (model X.prog X.w) X.A (.compLoop (.ListComp elt [⟨tg,iter,ifs,0⟩] scope pos) 0 (.ref it) (.ref s2.heap.objs.size) (compEnvC scope (cellsFrom (G.objs.size+1) scope.names (eX X.env scope.names [])) G.objs.size X.env))
   (RR (.ref s2.heap.objs.size) G.objs.size) { s2 with heap:=h₁ }:=by
  refine F5 (λn s'=>∃i σ' H',Inv (cA X scope own fr G.objs.size s2 H2 fp) [] σ' H' s'/\tn i s'.heap/\(∀b∈fp,H' b=none)/\W i n σ' H') ?_ m0 ⟨0,_,_,I4,tn0,fr0,w0⟩;rintro n s3 ⟨i,σ3,H3,I3,st3,fr3,w3⟩;have nfp:∀ {H':Hp} {s':Rg} {σ':St} {pl:Y0},Inv (cA X scope own fr G.objs.size s2 H2 fp) pl σ' H' s'->pl=n0 fp s'.heap->True:=λ_ _=>trivial;rcases turn i n σ3 H3 w3 with ⟨stop,qn⟩|⟨go,step⟩
  .refine thn (T.done (cA X scope own fr G.objs.size s2 H2 fp) rfl rfl rfl hc i [] s3 σ3 H3 (λ_ _=>False) I3 (fpX fr3) st3 stop) λr s4 ⟨hr,I5⟩=>?_;subst hr;have IX:Inv X Za σ H3 s4:=I2.O9 (ch:=fp) I5.os I5.base I5.hok I5.bare λb Zi=>let ⟨_,f1,_,f3,f4,f5⟩:=f2 b Zi;⟨f3,f1,f4,f5⟩;obtain⟨m',Z',_⟩:=I5.loc;exact hRR _ _ _ _ m' IX qn (I2.wV hC I5.free) Z'
  .refine thn (T.item (cA X scope own fr G.objs.size s2 H2 fp) rfl rfl rfl hc i [] s3 σ3 H3 (λ_ _=>False) I3 (fpX fr3) st3 go) λr s4 ⟨u,hr,h4⟩=>?_;subst hr;refine thn h4 λ_ s5 ⟨x,H5,I5,r5,y5,st5,fr5⟩=>?_;have I5':=I5.pinned (fpX fr5) (T.obj _ _ st5);refine thn (hg _ s5 σ3 H5 x u _ I5' r5 (step x H5 y5)) λ_ s6 ⟨σ6,H6,I6,q6⟩=>?_;have again:∀ {s7:Rg} {σ7:St} {H7:Hp} {m':Nat},Inv (cA X scope own fr G.objs.size s2 H2 fp) ([]++n0 fp s5.heap) σ7 H7 s7->m' < n->W (i+1) m' σ7 H7 ->
     ∃m,m<n/\∃i σ' H',Inv (cA X scope own fr G.objs.size s2 H2 fp) [] σ' H' s7/\tn i s7.heap/\(∀b∈fp,H' b=none)/\W i m σ' H':=λ{s7 σ7 H7 m'} I7 hm w7=>by
    refine⟨m',hm,i+1,σ7,H7,I7.ox,T.keep _ _ _ st5 λb Zi o e=>(I7.pin (b,o) (RX _ (RX _ (kZ Zi e)))).1,λb Zi=>?_,w7⟩;obtain⟨o,e,d⟩:=T.obj _ _ st5 b Zi;exact(I7.pin (b,o) (RX _ (RX _ (kZ Zi e)))).2.1
   refine thn (ht _ s6 σ6 H6 _ I6 q6) λok s7 ⟨H7,I7,q7⟩=>?_;cases ok with
   | false =>
    rw[if_neg RE]at q7 ⊢;obtain⟨m',hm,w7⟩:=q7;exact again I7 hm w7
   | true =>
    rw[if_pos rfl]at q7 ⊢;refine thn (he _ s7 σ6 H7 _ I7 q7) λy s8 ⟨yv,H8,I8,r8,q8⟩=>?_;obtain⟨ys,hy,hl,m',hm,w8⟩:=q8;refine thn (xh _ s8 σ6 H8 (.ref s2.heap.objs.size) [yv] _ [y] (λ_ H9=>H9=upd H8 s2.heap.objs.size (.lst (ys++[yv]))) I8 rfl (.cons r8 .nil) ⟨_,ys,yv,rfl,rfl,hy,hl,rfl⟩) λ_ s9 ⟨_,H9,I9,_,e9⟩=>?_;subst e9;exact again I9 hm w8
 exact codeAny_compStart_list loop (T.self X.A 0 _ _ _ tn0 loop)
theorem bL(hc:X.calm=true)(S:aT X.env.scope X.N scope own fr)(hi:PI X tg iter wi)
  (hb:∀C s₂ H₂ fp,PG (cA X scope own fr C s₂ H₂ fp) tg g/\PIf (cA X scope own fr C s₂ H₂ fp) ifs tt/\PE (cA X scope own fr C s₂ H₂ fp) elt te)
  (hs:∀x,foldedSetIterable iter X.env x=pure x:=by intro _;rfl):PE X (.ListComp elt [⟨tg,iter,ifs,0⟩] scope pos) (zq own fr wi g tt te):=by
 f_are;rw[eval_ListComp];refine W2 (use:=none) rfl hs (C7 (S.cells I.ok)) S.kind S.names ?_;refine vd (RR:=λacc C=>compPost (model X.prog X.w) X.A X.xe none (EP X Za σ Q) acc C) hc S hi hb I h ?_;intro D C s' H' m' I' q f hn;obtain⟨f0,f1,f2,f3,f4,f5⟩:=f;exact⟨m',hn,λh' sb=>⟨.ref D,H',I'.turned (t':=s'.toks) (λb o hb e=>(sb.2 b hb).trans e) f0 f1 f3 f4 f5,rfl,q⟩⟩
end
section
variable {σ:St}{fr:AT}
end
end L2
namespace L2
section
variable {α:Type}{us:List α}
theorem len0(h:us.length=0):us=[]:=Th.mp h
theorem BP{n:Nat}(h:us.length=n+1):∃a r,us=a :: r/\r.length=n:=by
 cases us with
 | nil=>simp at h
 | cons a r=>exact⟨a,r,rfl,by simpa using h⟩
theorem EC(h:us.length=1):∃a,us=[a]:=by
 obtain⟨a,r,rfl,h2⟩:=BP h;obtain rfl:=len0 h2;exact⟨a,rfl⟩
theorem Bt(h:us.length=2):∃a b,us=[a,b]:=by
 obtain⟨a,r,rfl,h2⟩:=BP h;obtain⟨b,rfl⟩:=EC h2;exact⟨a,b,rfl⟩
theorem zF(h:us.length=3):∃a b c,us=[a,b,c]:=by
 obtain⟨a,r,rfl,h2⟩:=BP h;obtain⟨b,c,rfl⟩:=Bt h2;exact⟨a,b,c,rfl⟩
theorem zH(h:us.length=4):∃a b c d,us=[a,b,c,d]:=by
 obtain⟨a,r,rfl,h2⟩:=BP h;obtain⟨b,c,d,rfl⟩:=zF h2;exact⟨a,b,c,d,rfl⟩
theorem Nv(h:us.length=5):∃a b c d e,us=[a,b,c,d,e]:=by
 obtain⟨a,r,rfl,h2⟩:=BP h;obtain⟨b,c,d,e,rfl⟩:=zH h2;exact⟨a,b,c,d,e,rfl⟩
end
end L2
namespace L2
open PySem PySem.Spec PyProof.Rows
section
variable {M:Model}{A:Sj}{E:Value->Rg->Prop}{s:Rg}{base:Heap}{env:Env}{outer:List Env}{L x T C:Addr}{d:Z5}{fl:Value}{Q:Unit->Rg->Prop}
end
section
variable {X:Cx}{Za:Y0}{σ:St}{H H':Hp}{s s':Rg}{x T C:Addr}{d:Z5}{fl:Value}{ts:Y9}{h':Heap}{E:XK}{e:Value}
end
section
variable {P:RB}{w:World}{K:Q7}{mg:Y5}{base:Heap}{N:Z0}{qual:Str}{scope:Scope}{f:Addr}{cd:Value}{A:Sj}{outer:List Env}{s:Rg}{H:Hp}{E:XK}
end
section
variable {X:Cx}{E:XK}{C:Addr}{x:Str}{np Zg pos:Pos}{e:Expr}{es:Y8}{ta:TA}
end
section
variable {X:Cx}{pos:Pos}
end
section
variable {X:Cx}{Za:Y0}{σ:St}{H:Hp}{s:Rg}{x T C:Addr}{ts:Y9}
end
section
variable {X:Cx}{Za:Y0}{σ:St}{H:Hp}{s:Rg}{e:Value}
section
variable {x T C B:Addr}{d:Z5}{cn:Str}{np:Pos}{b:Bool}
end
end
section
variable {X:Cx}{x:Str}{st:Stmt}{ps:Z0}{k:Nat}{sp:Sp}{p pos:Pos}{e:Expr}{es:Y8}{t:TA}{E:XK}
end
section
variable {K:Q7}{B C:Addr}{i:Nat}{tb t u:TXs}{ts:TS}{D:Ends}{σ:St}{H:Hp}{c:TT}{te:TXe}{sp:Sp}{ta:TA}{Q:VK}{Ex:St->Hp->Addr->Option Addr->Prop}{Eh:Hp->Addr->Option Addr->Prop}{E:XK}{th:TH}
end
section
open PySem.Calls PySem.Builtin PySem.Builtin.ObjectAttr PySem.Builtin.Getset_descriptor
variable {prog:RB}{w:World}{A:Sj}{E:Value->Rg->Prop}{K:Q7}{x C:Addr}{di:Z5}{h:Heap}{g:Array VX}{d:Drawn}{t:Nat}{os:OsState}
end
section
variable {K:Q7}{H:Hp}{Q:VK}{x C D:Addr}{d:Z5}{b:Bool}
end
section
variable {M:Model}{A:Sj}{E:Value->Rg->Prop}{s:Rg}{base:Heap}{env:Env}{l:List Env}{L x T C:Addr}{d:Z5}
end
section
variable {X:Cx}{Za:Y0}{σ:St}{H:Hp}{s s':Rg}{x T C:Addr}{d:Z5}{ts:Y9}{h':Heap}{E:XK}{e:Value}{fl:Value}
end
section
variable {P:RB}{w:World}{K:Q7}{mg:Y5}{base:Heap}{N:Z0}{qual:Str}{scope:Scope}{f:Addr}{cd:Value}{A:Sj}{outer:List Env}{s:Rg}{H:Hp}{E:XK}
end
section
variable {X:Cx}{pos:Pos}
end
section
variable {σ:St}{H:Hp}{Q:VK}{D:Ends}{Ex:St->Hp->Addr->Option Addr->Prop}{Eh:Hp->Addr->Option Addr->Prop}
end
end L2
namespace L2
noncomputable def Back(U N:Y4):Prop:=∀σ' H',U σ' H'->N σ' H'
theorem bM{U N:Y4}{σ:St}{H:Hp}(h:Back U N)(q:U σ H):N σ H:=h σ H q
end L2
namespace L2
open PySem PySem.Spec PyProof.Rows
structure DX(K:Q7)(C:Addr)(m:Str)(f:Addr):Prop where
 ga:VO K (.ref C) "__getattribute__" = some (some (.builtin "type.__getattribute__"))
 rd:PySem.W.readsIn K C (.type "type")=true
 fc:PySem.W.findCls K (.ref C) (.type "type") m=some (.val (.ref f))
 kp:Sk K (.ref f)=true
section
variable {X:Cx}{k:Nat}{f C:Addr}{fd:SO}{ps:Z0}{sp:Sp}{x m:Str}{p pos apos:Pos}{e:Expr}{es:Y8}{t:TA}
theorem Il{pl:Sem Bool}(hg:Gl X x)(hm:X.mg x=some (.ref C))(hc:DX X.K C m f)(F:aH X.prog X.w X.K X.mg X.base CX0 k f fd ps sp)(hr:bQ k X.A)(hb:Binds X.K fd ps [])(ha:PA X (e :: es) t)
  (hn:isStar e=false:=by rfl) (Zh:es.all (λe=>!isStar e)=true:=by rfl) (ZA:(x == ("__debug__" : Str))=false:=by decide)
  (ht:eval (.Call (.Attribute (.Name x p) m apos) (e :: es) [] pos) X.env=(do
   let ov <- eval (.Name x p) X.env
   standAt apos.atName
   let (f,first) <- holding [ov] (getMethod ov m pl)
   callWith pos f first (backTo pos (So (e :: es) X.env)) (backToKw pos (keywordEach [] X.env))):=by rfl) :
  PE X (.Call (.Attribute (.Name x p) m apos) (e :: es) [] pos) (kN sp [] E0 t):=by
 f_are;refine XH (pl:=pl) (nv I hg hm ?_ ZA) ht;refine PySem.W.method_cls I.kIn hc.ga (PySem.W.cls_value I.kIn hc.rd hc.fc rfl ?_);refine Vz (first:=[]) (h₀:=X.base) I.ok.mod.kin hc.kp (thn (ha pos Za _ σ H _ (I.tok (s.toks+1)) h) λus s2 ⟨vs,H2,I2,r,q2⟩=>⟨I2.kIn,?_⟩) (a7 hn) (cD Zh);exact uA F hr hb .nil jL I2 r q2
end
section
variable {X:Cx}{k:Nat}{f C:Addr}{fd:SO}{ps ks:Z0}{sp:Sp}{x:Str}{p pos R!:Pos}{e a:Expr}{es:Y8}{kws:List XI}{t tk:TA}{te:TE}{g:List Value->List Value->List Value}{gV:List V->List V->List V}
end
noncomputable def FY(K:Q7):List V->Hp->VK->Prop:=λxs H Q=>∃x D t b,xs=[x,.ref D]/\fU K H x t/\UT K t (.ref D)=some b/\Q (.bl b) H
theorem Bd{X:Cx}(K:Q7)(hK:X.K=K):cz X (.builtin "isinstance") (FY K):=by
 subst hK;k_asm;obtain⟨x,D,t,b,rfl,ty,e,q⟩:=h;obtain⟨u,v,rfl,ru,rv⟩:=r.two;cases(show v=RN D from rv);exact xF I ru ty e λtk=>⟨.bl b,H,I.tok tk,rfl,q⟩
theorem KY{K:Q7}{H:Hp}{Q:VK}{x:V}{D:Addr}{t:Value}{b:Bool}(ty:fU K H x t)(e:UT K t (.ref D)=some b)(q:Q (.bl b) H):FY K [x,.ref D] H Q:=⟨x,D,t,b,rfl,ty,e,q⟩
section
variable {X:Cx}{Za:Y0}{σ:St}{H:Hp}{s:Rg}{A:Sj}{α β:Type}[Rep α][DecidableEq α][aJ α][Rep β][DecidableEq β][aJ β]
theorem Km{p q:Addr}{x1 x2 y1 y2:V}{a c:α}{b d:β}(I:Inv X Za σ H s)(hp:SqT X.K H p [x1,x2])(h1:At X.K H x1 a)(h2:At X.K H x2 b)(hq:SqT X.K H q [y1,y2])(h3:At X.K H y1 c)(h4:At X.K H y2 d)
  (hu:A.units+(max (aJ.depth α) (aJ.depth β)+1)<cLine):SeqAt.RcNeAt A s (.ref p) (.ref q) (!decide ((a,b)=(c,d))):=by
 obtain⟨Zb,v1,t1,_⟩:=I.tuple hp;obtain⟨Ze,v2,t2,_⟩:=I.tuple hq;obtain⟨u1,u2,rfl,r1,r2⟩:=v1.two;obtain⟨w1,w2,rfl,r3,r4⟩:=v2.two;have e1:=aJ.eq (A:=A.in1) I h1 h3 r1 r3 (by show A.units+1+_<_;lia)
 have e2:=aJ.eq (A:=A.in1) I h2 h4 r2 r4 (by show A.units+1+_<_;lia)
 have z:=SeqAt.RcNeAt.tuples (A:=A) (e:=λj=>if j=0 then decide (a=c) else decide (b=d)) t1 t2 (by lia) λj hj1 hj2=>by
  have hj:j<2:=by simpa using hj1
  match j,hj with
  | 0,_=>exact e1
  | 1,_=>exact e2
 have ek:(Rh (min (#[u1,u2]:Z2).size (#[w1,w2]:Z2).size))=[0,1]:=rfl;rw[ek]at z;have e3:decide ((a,b)=(c,d))=(decide (a=c) && decide (b=d)):=by
  rw[Tp];simp
 rw[e3]
 simpa using z
end
noncomputable def Mt(α β:Type)[Rep α][Rep β][DecidableEq α][DecidableEq β](K:Q7):R2:=λx y H Q=>∃a b:α×β,At K H x a/\At K H y b/\Q (.bl (!decide (a=b))) H
theorem Lg{X:Cx}(K:Q7)(hK:X.K=K)(α β:Type)[Rep α][DecidableEq α][aJ α][Rep β][DecidableEq β][aJ β](hu:X.A.units+64<cLine)(hd:aJ.depth (α×β)<=32:=by decide):OpR X (compareOp .NotEq) (Mt α β K):=by
 subst hK;intro Za s σ H x y u v Q I ru rv h;obtain⟨a,b,⟨p,x1,x2,e,h1,h2,h3⟩,⟨q,y1,y2,e',h4,h5,h6⟩,hq⟩:=h;k_all;have dh:max (aJ.depth α) (aJ.depth β)+1<=32:=hd;exact(Km (A:=X.A) I h1 h2 h3 h4 h5 h6 (by lia)) X.prog X.w X.xe _ ⟨.bl _,H,I,rfl,hq⟩
theorem OX{K:Q7}{H:Hp}{Q:VK}{α β:Type}[Rep α][Rep β][DecidableEq α][DecidableEq β]{x y:V}{a b:α×β}(ha:At K H x a)(hb:At K H y b)(q:Q (.bl (!decide (a=b))) H):Mt α β K x y H Q:=⟨a,b,ha,hb,q⟩
end L2
namespace PySem
open Sem (wp)
theorem KQ:typeLookup (.type "zip") "__getattr__" = pure none:=am_miss_of_fast (by kernel_rfl)
theorem LB:typeLookup (.type "zip") "keys" = pure none:=am_miss_of_fast (by kernel_rfl)
theorem HZ:entryFor table "zip.__getattribute__" = some Uu.«object.__getattribute__» :=
 Yg (id':="object.__getattribute__") (by kernel_rfl) (by trivial) (by trivial) (by kernel_rfl)
theorem Jq(z:Addr)(fs:Array Value)(u:Tok) :
  Meets (Uu.«object.__getattribute__» ⟨[.ref z,.str "keys" u],[]⟩) (λA R s=>s.heap.get? z=some { cls:=.type "zip",dict:=none,data:=.fields fs,slots:=#[] }/\raisesAttr (.ref z) "keys" A R s) :=
 Meets.of_wp λprog w A R s hs=>by
  obtain⟨hp,g,d,tk,os⟩:=s;obtain⟨hx,hA,hs⟩:=hs;have hT:(⟨hp,g,d,tk,os⟩:Rg).TypeIs (.ref z) "zip":=⟨_,hx,rfl⟩;have hk:=LB;unfold Uu.«object.__getattribute__»
  repeat (any_goals (first|assumption|wp_step))
  exact wpAny_raiseAttrError hA hs (attrMsg_fits (by trivial) (by trivial))
section
variable {prog:RB}{w:World}{A:Sj}{E:Value->Rg->Prop}{s:Rg}
theorem CH{z:Addr}{fs:Array Value}{Q:Option Value->Rg->Prop}(hx:s.heap.get? z=some { cls:=.type "zip",dict:=none,data:=.fields fs,slots:=#[] })(hA:A.handled=none)
  (h:∀h' tk,(∀b o,s.heap.get? b=some o->h'.get? b=some o)->Q none { s with heap:=h',toks:=tk }):wpAny (model prog w) A (getAttr? (.ref z) "keys") Q E s:=by
 obtain⟨hp,g,d,tk,os⟩:=s;have hT:∀tk',(⟨hp,g,d,tk',os⟩:Rg).TypeIs (.ref z) "zip":=λ_=>⟨_,hx,rfl⟩;have f1:=sub_AttributeError;have f3:=VC.lookup;have f4:=VC.bind (.ref z);have f5:=KQ;unfold getAttr? getAttrBy? getAttrBy
 repeat (any_goals (first|assumption|exact hT _|((with_reducible show wpAny _ _ (call (Value.builtin "zip.__getattribute__") _ _) _ _ _);refine Vs VC (hT _) HZ (F.args_zip_getattribute_2 _ _) (Jq z fs _) ⟨hx,hA,λh' tk' e hn=>?_⟩)|wp_step))
 obtain⟨t',u',he⟩:=hn.there;show wpAny _ _ (getattributeRaised _ _ _ _ _ _ _) _ _ _;unfold getattributeRaised
 repeat (any_goals (first|assumption|wp_step))
 exact h _ _ hn.keeps
end
end PySem
namespace PySem
open Sem (wp)
section
variable {prog:RB}{w:World}{A:Sj}{E:Value->Rg->Prop}{s:Rg}
noncomputable abbrev gk(h:Heap)(z TI TO T:Addr)(b:Bool):Prop:=h.get? z=some { cls:=.type "zip",dict:=none,data:=.fields #[rawInt T,.bool b,.bool false,.ref TI,.ref TO],slots:=#[] }
theorem yf{z TI TO T:Addr}{b:Bool}{oT:Obj}{Q:Bool->Rg->Prop}(gz:gk s.heap z TI TO T b)(gT:s.heap.get? T=some oT)
  (h:∀h',gk h' z TI TO T true->Vr z s.heap h'->Q false { s with heap:=h' }):wpAny (model prog w) A (Tw (.ref z)) Q E s:=by
 unfold Tw;refine Ra (Wo gz rfl (x:=rawInt T) rfl ?_);have al:∀ {R:Option Obj->Rg->Prop},R (some oT) s->wpAny (model prog w) A (loadIfAlive ((T:Int).toNat)) R E s:=λ{R} r=>by
  intro Γ q hΓ;show R (s.heap.get? ((T:Int).toNat)) s;rw[show ((T:Int).toNat)=T from S1 T,gT];exact r
 refine Ra (al ?_);rw[if_neg (λz=>nomatch z)];refine Ra (Wo gz rfl (x:=.bool b) rfl ?_);cases b with
 | true =>
  rw[if_neg (by decide)]
  exact Rm (h _ gz ⟨rfl,λ_ _=>rfl⟩)
 | false =>
  rw[if_pos (by decide)]
  exact Ra (VD gz (by simp) λh1 gz1 L!=>Rm (h h1 gz1 L!))
theorem y6{z TI TO T i1 i2 l1 l2:Addr}{k1 k2:Nat}{xs ys:Array Value}{x y:Value}{b:Bool}{oT:Obj}{Q:Value->Rg->Prop}(D:WD z TI TO i1 i2 l1 l2)
  (gz:gk s.heap z TI TO T b) (gT:s.heap.get? T=some oT) (gI:YH s.heap TI (.ref i1) (.ref i2))
  (g1:s.heap.IsListIter i1 l1 k1) (g2:s.heap.IsListIter i2 l2 k2) (gl1:s.heap.IsList l1 xs) (gl2:s.heap.IsList l2 ys) (gx:xs[k1]?=some x) (gy:ys[k2]?=some y)
  (hQ:∀h',gk h' z TI TO T true->h'.IsListIter i1 l1 (k1+1)->h'.IsListIter i2 l2 (k2+1)->YH h' s.heap.objs.size x y ->
   (∀c o,c≠z->c≠i1->c≠i2->s.heap.get? c=some o->h'.get? c=some o)->Q (.ref s.heap.objs.size) { s with heap:=h' }) :
  wpAny (model prog w) A (Uu.«zip.__next__» ⟨[.ref z],[]⟩) (λfin s'=>∃v,fin=.done (.ret v)/\Q v s') E s:=by
 show wpAny _ _ (field (.ref z) 2 >>= _) _ _ _;refine Ra (Wo gz rfl (x:=.bool false) rfl ?_);show wpAny _ _ (field (.ref z) 3 >>= _) _ _ _;refine Ra (Wo gz rfl (x:=.ref TI) rfl ?_);refine Ra (UU gI rfl ?_);show wpAny _ _ (Tw (.ref z) >>= _) _ _ _;refine Ra (yf gz gT λh1 gz1 L!=>?_);simp only[Sv,if_false,WH,XQ,List.forIn_nil];refine Ra (Ra (Ra (SA ?_)));show wpAny _ _ (Vk (.ref i1) >>= _) _ _ _;refine Ra (Xy (g1.extBut L!.extBut D.i1z) (gl1.extBut L!.extBut D.l1z) gx λh2 g12 ZP=>Rm (Rm ?_));refine Ra (Ra (SA ?_));show wpAny _ _ (Vk (.ref i2) >>= _) _ _ _;refine Ra (Xy ((g2.extBut L!.extBut D.i2z).extBut ZP.extBut D.i12.symm) ((gl2.extBut L!.extBut D.l2z).extBut ZP.extBut D.l2i1) gy λh3 g23 hs3=>Rm (Rm (Rm ?_)));refine Ra (Yh (Rm ⟨_,rfl,?_⟩) (show 2<=RV by decide))
 have e1:h1.objs.size=s.heap.objs.size:=L!.1;have e2:h2.objs.size=h1.objs.size:=ZP.1;have e3:h3.objs.size=h2.objs.size:=hs3.1;have ez:h3.objs.size=s.heap.objs.size:=e3.trans (e2.trans e1);have up:∀c o,c≠z->c≠i1->c≠i2->s.heap.get? c=some o->h3.get? c=some o:=λc o n1 n2 n3 q=>hs3.extBut _ _ n3 (ZP.extBut _ _ n2 (L!.extBut _ _ n1 q));have q:=hQ (h3.push { cls:=.type "tuple",data:=.seq #[x,y] }) (Rl _ (hs3.extBut _ _ D.i2z.symm (ZP.extBut _ _ D.i1z.symm gz1))) ((g12.extBut hs3.extBut D.i12).at λo e=>Rl _ e) (g23.at λo e=>Rl _ e)
  (by rw[<- ez];exact RC _ rfl) λc o n1 n2 n3 q=>Rl _ (up c o n1 n2 n3 q)
 rw[<- ez]at q;exact q
theorem GD{z TI TO T i1 i2 l1 l2:Addr}{k1 k2:Nat}{xs ys:Array Value}{x y:Value}{b:Bool}{oT:Obj}{Q:Option Value->Rg->Prop}(D:WD z TI TO i1 i2 l1 l2)
  (gz:gk s.heap z TI TO T b) (gT:s.heap.get? T=some oT) (gI:YH s.heap TI (.ref i1) (.ref i2))
  (g1:s.heap.IsListIter i1 l1 k1) (g2:s.heap.IsListIter i2 l2 k2) (gl1:s.heap.IsList l1 xs) (gl2:s.heap.IsList l2 ys) (gx:xs[k1]?=some x) (gy:ys[k2]?=some y)
  (hQ:∀h',gk h' z TI TO T true->h'.IsListIter i1 l1 (k1+1)->h'.IsListIter i2 l2 (k2+1)->YH h' s.heap.objs.size x y ->
   (∀c o,c≠z->c≠i1->c≠i2->s.heap.get? c=some o->h'.get? c=some o)->Q (some (.ref s.heap.objs.size)) { s with heap:=h' }) :
  wpAny (model prog w) A (pyNext (.ref z)) Q E s:=by
 have tz:s.TypeIs (.ref z) "zip":=⟨_,gz,rfl⟩;unfold pyNext;refine Ra (Wb (UP (name:=Vu "__next__") tz Wq (TM Wq tz F.entry_zip_next ?_ (F.args_zip_next_1 _))));exact y6 D gz gT gI g1 g2 gl1 gl2 gx gy λh' a1 a2 a3 a4 a5=>Rm (hQ h' a1 a2 a3 a4 a5)
theorem BH{z TI TO T i1 i2 l1 l2:Addr}{k1:Nat}{xs:Array Value}{b:Bool}{oT:Obj}{Q:Fin->Rg->Prop}(hh:A.handled=none)(D:WD z TI TO i1 i2 l1 l2)
  (gz:gk s.heap z TI TO T b) (gT:s.heap.get? T=some oT) (gI:YH s.heap TI (.ref i1) (.ref i2))
  (g1:s.heap.IsListIter i1 l1 k1) (gl1:s.heap.IsList l1 xs) (gx:xs[k1]?=none)
  (hE:∀h' e,(∀c o,c≠z->c≠i1->c≠i2->s.heap.get? c=some o->h'.get? c=some o)->(∃o,h'.get? e=some o/\o.cls=.type "StopIteration")->E (.ref e) { s with heap:=h' }) :
  wpAny (model prog w) A (Uu.«zip.__next__» ⟨[.ref z],[]⟩) Q E s:=by
 show wpAny _ _ (field (.ref z) 2 >>= _) _ _ _;refine Ra (Wo gz rfl (x:=.bool false) rfl ?_);show wpAny _ _ (field (.ref z) 3 >>= _) _ _ _;refine Ra (Wo gz rfl (x:=.ref TI) rfl ?_);refine Ra (UU gI rfl ?_);show wpAny _ _ (Tw (.ref z) >>= _) _ _ _;refine Ra (yf gz gT λh1 gz1 L!=>?_);simp only[Sv,if_false,WH,XQ,List.forIn_nil];refine Ra (Ra (Ra (SA ?_)));show wpAny _ _ (Vk (.ref i1) >>= _) _ _ _;exact Ra (wpAny_nextOf_list_end hh (g1.extBut L!.extBut D.i1z) (gl1.extBut L!.extBut D.l1z) gx λh2 e ZP he=>hE h2 e (λc o n1 n2 n3 q=>ZP _ _ n2 (L!.extBut _ _ n1 q)) he)
theorem IW{z TI TO T i1 i2 l1 l2:Addr}{k1:Nat}{xs:Array Value}{b:Bool}{oT:Obj}{Q:Option Value->Rg->Prop}(hh:A.handled=none)(D:WD z TI TO i1 i2 l1 l2)
  (gz:gk s.heap z TI TO T b) (gT:s.heap.get? T=some oT) (gI:YH s.heap TI (.ref i1) (.ref i2))
  (g1:s.heap.IsListIter i1 l1 k1) (gl1:s.heap.IsList l1 xs) (gx:xs[k1]?=none)
  (hQ:∀h',(∀c o,c≠z->c≠i1->c≠i2->s.heap.get? c=some o->h'.get? c=some o)->Q none { s with heap:=h' }):wpAny (model prog w) A (pyNext (.ref z)) Q E s:=by
 have tz:s.TypeIs (.ref z) "zip":=⟨_,gz,rfl⟩;unfold pyNext;refine Ra (Wb (UP (name:=Vu "__next__") tz Wq (TM Wq tz F.entry_zip_next (BH hh D gz gT gI g1 gl1 gx λh' e hk he=>?_) (F.args_zip_next_1 _))));obtain⟨o,ho,hc⟩:=he;exact Ra (V5 (T:="StopIteration") (b:=true) ⟨o,ho,hc⟩ isSubtype_stop (Rm (hQ _ hk)))
end
end PySem
namespace PySem
open Sem (wp)
theorem zL:entryFor table "dict.update.loop" = some Uu.«dict.update.loop»:=entryFor_of_tree (by kernel_rfl)
theorem pk:plainId "dict.update.loop" = true:=by trivial
structure kY(h:Heap)(z TI TO i1 i2 l1 l2:Addr)(i:Nat)(xs ys:Array Value):Prop where
 own:(IsZip h z TI TO .none/\∃a b,YH h TO a b)\/∃ (T:Addr) (b:Bool) (oT:Obj),gk h z TI TO T b/\h.get? T=some oT/\T≠z/\T≠i1/\T≠i2
 ins:YH h TI (.ref i1) (.ref i2)
 it1:h.IsListIter i1 l1 i
 it2:h.IsListIter i2 l2 i
 ls1:h.IsList l1 xs
 ls2:h.IsList l2 ys
theorem kY.keep{h h':Heap}{z TI TO i1 i2 l1 l2 d:Addr}{i:Nat}{xs ys:Array Value}(Z:kY h z TI TO i1 i2 l1 l2 i xs ys)(nz:z≠d)(nI:TI≠d)(nO:TO≠d)(n1:i1≠d)(n2:i2≠d)(n3:l1≠d)(n4:l2≠d)
  (k:∀c o,c≠d->h.get? c=some o->h'.get? c=some o) (hd:∃o,h'.get? d=some o):kY h' z TI TO i1 i2 l1 l2 i xs ys where
 own:=by
  walk_at "128"
  .exact .inl ⟨k _ _ nz gz,a,b,k _ _ nO gO⟩
  .by_cases e:T=d
   .obtain⟨o,ho⟩:=hd;exact .inr ⟨T,b,o,k _ _ nz gz,by rw[e];exact ho,t1,t2,t3⟩
   .exact .inr ⟨T,b,oT,k _ _ nz gz,k _ _ e gT,t1,t2,t3⟩
 ins:=k _ _ nI Z.ins
 it1:=Z.it1.at λo q=>k _ o n1 q
 it2:=Z.it2.at λo q=>k _ o n2 q
 ls1:=Z.ls1.at λo q=>k _ o n3 q
 ls2:=Z.ls2.at λo q=>k _ o n4 q
section
variable {prog:RB}{w:World}{A:Sj}{E:Value->Rg->Prop}{s:Rg}{z TI TO i1 i2 l1 l2:Addr}{xs ys:Array Value}
theorem DQ{i:Nat}{x y:Value}{Q:Option Value->Rg->Prop}(D:WD z TI TO i1 i2 l1 l2)(Z:kY s.heap z TI TO i1 i2 l1 l2 i xs ys)(gx:xs[i]?=some x)(gy:ys[i]?=some y)
  (hQ:∀h',kY h' z TI TO i1 i2 l1 l2 (i+1) xs ys->YH h' s.heap.objs.size x y->(∀c o,c≠z->c≠TO->c≠i1->c≠i2->s.heap.get? c=some o->h'.get? c=some o)->Q (some (.ref s.heap.objs.size)) { s with heap:=h' }) :
  wpAny (model prog w) A (pyNext (.ref z)) Q E s:=by
 have lt:∀ {c:Addr} {o:Obj},s.heap.get? c=some o->s.heap.objs.size≠c:=λe=>T3 (Rv e);walk_at "128"
 .refine wpAny_pyNext_zip_item D gz Z.ins gO Z.it1 Z.it2 Z.ls1 Z.ls2 gx gy λh' a1 a2 a3 a4 a5 a6 hk=>hQ h' ⟨.inr ⟨s.heap.objs.size,false,_,a1,a5,lt gz,?_,?_⟩,hk _ _ D.TIz D.TITO D.TIi1 D.TIi2 Z.ins,a3,a4,Z.ls1.at λo e=>hk _ o D.l1z D.l1TO D.l1i1 D.l1i2 e,Z.ls2.at λo e=>hk _ o D.l2z D.l2TO D.l2i1 D.l2i2 e⟩ a5 hk
  .obtain⟨_,e,_⟩:=Z.it1;exact lt e
  .obtain⟨_,e,_⟩:=Z.it2;exact lt e
 .exact GD D gz gT Z.ins Z.it1 Z.it2 Z.ls1 Z.ls2 gx gy λh' a1 a2 a3 a4 hk=>hQ h' ⟨.inr ⟨T,true,oT,a1,hk _ _ t1 t2 t3 gT,t1,t2,t3⟩,hk _ _ D.TIz D.TIi1 D.TIi2 Z.ins,a2,a3,Z.ls1.at λo e=>hk _ o D.l1z D.l1i1 D.l1i2 e,Z.ls2.at λo e=>hk _ o D.l2z D.l2i1 D.l2i2 e⟩ a4 λc o c1 _ c3 c4 e=>hk c o c1 c3 c4 e
theorem G3{i:Nat}{Q:Option Value->Rg->Prop}(hh:A.handled=none)(D:WD z TI TO i1 i2 l1 l2)(Z:kY s.heap z TI TO i1 i2 l1 l2 i xs ys)(gx:xs[i]?=none)
  (hQ:∀h',(∀c o,c≠z->c≠TO->c≠i1->c≠i2->s.heap.get? c=some o->h'.get? c=some o)->Q none { s with heap:=h' }):wpAny (model prog w) A (pyNext (.ref z)) Q E s:=by
 walk_at "128"
 .exact wpAny_pyNext_zip_end hh D gz Z.ins gO Z.it1 Z.it2 Z.ls1 Z.ls2 (.inl gx) λh' hk=>hQ h' hk
 .exact IW hh D gz gT Z.ins Z.it1 Z.ls1 gx λh' hk=>hQ h' λc o c1 _ c3 c4 e=>hk c o c1 c3 c4 e
end
section
variable {prog:RB}{w:World}{A:Sj}{E:Value->Rg->Prop}{Kk:Type}[DecidableEq Kk]{knd:KeyKind prog w Kk}{d z TI TO i1 i2 l1 l2:Addr}{xs ys:Array Value}{kvs:List (Kk×Value)}
theorem KS{R:XF->Rg->Prop}(hh:A.handled=none)(D:WD z TI TO i1 i2 l1 l2)(nz:z≠d)(nI:TI≠d)(nO:TO≠d)(n1:i1≠d)(n2:i2≠d)(n3:l1≠d)(n4:l2≠d)(hl:kvs.length=xs.size)(hz:kvs.length<=RV)
  (W!:∀ (i:Nat) (k:Kk) (v:Value),kvs[i]?=some (k,v)->∃x,xs[i]?=some x/\knd.is k x=true/\ys[i]?=some v) :
  ∀ (m i:Nat) (j:Int) (s:Rg),kvs.length - i=m->i<=kvs.length->kY s.heap z TI TO i1 i2 l1 l2 i xs ys->s.heap.DictOf knd d (merged [] (kvs.take i)) ->
   (∀h' t',h'.DictOf knd d (merged [] kvs)->(∀c o,c≠d->c≠z->c≠TO->c≠i1->c≠i2->s.heap.get? c=some o->h'.get? c=some o)->R (.ok (.ret .none)) { s with heap:=h',toks:=t' }) ->
   codeAny (model prog w) A (.builtin "dict.update.loop" ⟨[.ref d,.ref z,rawInt j,.none],[]⟩) R s:=by
 intro m
 induction m with
 | zero =>
  intro i j s hm hi Z hd hR;have e:i=kvs.length:=by lia
  subst e;rw[Sr]at hd;refine SQ zL ?_;rw[Sn pk _];show wpAny _ A.in1 (pyNext (.ref z) >>= _) _ _ s;refine Ra (G3 (by simpa using hh) D Z (TV (by lia)) λh' hk=>?_)
  show wpAny _ A.in1 (Builtin.Dict.addKeywords d [] >>= _) _ _ _;refine Ra (Rm (Rm (hR h' s.toks ?_ λc o _ c1 c2 c3 c4 q=>hk c o c1 c2 c3 c4 q)));obtain⟨o,es,ep,ho,rest⟩:=hd;exact⟨o,es,ep,hk _ _ nz.symm nO.symm n1.symm n2.symm ho,rest⟩
 | succ m ih =>
  intro i j s hm hi Z hd hR;have Zd:i<kvs.length:=by lia
  obtain⟨⟨k,v⟩,hg⟩:∃p,kvs[i]?=some p:=⟨_,Q8 Zd⟩;obtain⟨x,gx,kx,gy⟩:=W! i k v hg;refine SQ zL ?_;rw[Sn pk _];show wpAny _ A.in1 (pyNext (.ref z) >>= _) _ _ s;refine Ra (DQ D Z gx gy λh1 Z1 gp hk=>?_);show wpAny _ A.in1 (holding [RN s.heap.objs.size] _ >>= _) _ _ _;refine Ra (SA ?_);refine Ra (VY ?_);unfold Builtin.Dict.pairItems;refine Ra (Vt (T:="tuple") ⟨_,gp,rfl⟩ ?_);rw[if_pos (by decide)]
  refine Ra (UU gp rfl (Rm ?_));show wpAny _ A.in1 (holding [x,v] (dictSet d x v)) _ _ _;refine SA ?_;have k!:h1.DictOf knd d (merged [] (kvs.take i)):=by
   obtain⟨o,es,ep,ho,rest⟩:=hd;exact⟨o,es,ep,hk _ _ nz.symm nO.symm n1.symm n2.symm ho,rest⟩
  have ml:=merged_length_le ([]:List (Kk×Value)) (kvs.take i);have tl:(kvs.take i).length<=i:=List.length_take_le ..;refine wpAny_dictSet_pairs (s:={ s with heap:=h1 }) (hsz:=by rw[VB,Tj]at ml;lia) kx k! λh2 hd2 ZP=>?_
  rw[<- merged_take_succ [] kvs i (k,v) hg]at hd2;have he:∃o,h2.get? d=some o:=let ⟨o,_,_,ho,_⟩:=hd2;⟨o,ho⟩;refine Rm ⟨Tg pk _,ih (i+1) (j+1) _ (by lia) Zd (Z1.keep nz nI nO n1 n2 n3 n4 (λc o c1 q=>(ZP.2 c c1).trans q) he) hd2 λh3 t3 c! hk3=>?_⟩
  exact hR h3 t3 c! λc o c0 c1 c2 c3 c4 q=>hk3 c o c0 c1 c2 c3 c4 ((ZP.2 c c0).trans (hk c o c1 c2 c3 c4 q))
theorem yM{s:Rg}{Q:Value->Rg->Prop}(hh:A.handled=none)(D:WD z TI TO i1 i2 l1 l2)(gz:IsZip s.heap z TI TO .none)(Z:kY s.heap z TI TO i1 i2 l1 l2 0 xs ys)(hl:kvs.length=xs.size)(hz:kvs.length<=RV)
  (W!:∀ (i:Nat) (k:Kk) (v:Value),kvs[i]?=some (k,v)->∃x,xs[i]?=some x/\knd.is k x=true/\ys[i]?=some v) (nd:(kvs.map (·.1)).Nodup) (gO:∃o,s.heap.get? TO=some o)
  (h:∀h' t',h'.DictOf knd s.heap.objs.size kvs->(∀c o,c≠z->c≠TO->c≠i1->c≠i2->s.heap.get? c=some o->h'.get? c=some o)->Q (.ref s.heap.objs.size) { s with heap:=h',toks:=t' }) :
  wpAny (model prog w) A (call (.type "dict") [.ref z]) Q E s:=by
 refine callType_codes (Q₁:=λobj s₁=>obj=.ref s.heap.objs.size/\s₁={ s with heap:=s.heap.push { cls:=.type "dict",data:=.dict #[] } }) F.kt_called_dict (F.kt_typeCall_dict_1 _) F.entry_dict_init (kt_code_dict_new _ ⟨rfl,rfl⟩) ?_;rintro obj s₁ ⟨rfl,rfl⟩;have anew:(s.heap.push { cls:=.type "dict",data:=.dict #[] }).DictOf knd s.heap.objs.size []:=Heap.DictOf.new s.heap;have lt:∀ {c:Addr} {o:Obj},s.heap.get? c=some o->c≠s.heap.objs.size:=λe=>Ry (Rv e);have gz1:IsZip (s.heap.push { cls:=.type "dict",data:=.dict #[] }) z TI TO .none:=Rl _ gz;have nz:=lt gz;have nI:=lt Z.ins;have nO:TO≠s.heap.objs.size:=let ⟨_,e⟩:=gO;lt e;have n1:i1≠s.heap.objs.size:=let ⟨_,e,_⟩:=Z.it1;lt e;have n2:i2≠s.heap.objs.size:=let ⟨_,e,_⟩:=Z.it2;lt e;have n3:l1≠s.heap.objs.size:=let ⟨_,e,_⟩:=Z.ls1;lt e;have n4:l2≠s.heap.objs.size:=let ⟨_,e,_⟩:=Z.ls2;lt e;refine⟨anew.typeIs,F.args_dict_init_2 _ _,?_⟩;unfold Uu.«dict.__init__»;refine Ra ?_;unfold Builtin.Dict.selfAndRest;refine Ra (wpAny_notOrdered_dict anew.typeIs ?_);show wpAny _ _ (pure (s.heap.objs.size,[RN z])) _ _ _;refine Rm ?_;show wpAny _ _ (Xg "dict.__init__" s.heap.objs.size (.ref z) [] .none) _ _ _;unfold Xg;refine Ra (Vt (T:="zip") ⟨_,gz1,rfl⟩ ?_);rw[if_pos (by decide)]
 refine Ra (CH gz1 (by simpa using hh) λh1 t1 k1=>?_)
 rw[if_pos (show (none:Option Value).isNone=true from rfl)];refine Ra (X7 ?_);refine Ra (wpAny_pyIter_zip (k1 _ _ gz1) ?_);have up:∀c o,s.heap.get? c=some o->h1.get? c=some o:=λc o e=>k1 c o (Rl _ e);have anew1:h1.DictOf knd s.heap.objs.size []:=by
  obtain⟨o,es,ep,ho,rest⟩:=anew;exact⟨o,es,ep,k1 _ _ ho,rest⟩
 have Z1:kY h1 z TI TO i1 i2 l1 l2 0 xs ys:=Z.keep nz nI nO n1 n2 n3 n4 (λc o _ e=>up c o e) (let ⟨o,_,_,ho,_⟩:=anew1;⟨o,ho⟩);refine Rm ⟨Tg pk _,KS (by simpa using hh) D nz nI nO n1 n2 n3 n4 hl hz W! kvs.length 0 0 _ rfl (R5 _) Z1 anew1 λh' t' dh Zv=>?_⟩
 rw[merged_nil_of_nodup kvs nd]at dh;exact⟨rfl,h h' t' dh λc o c1 c2 c3 c4 e=>Zv c o (lt e) c1 c2 c3 c4 (up c o e)⟩
end
end PySem
namespace L2
open PySem PySem.Spec PyProof.Rows
theorem Fu:∀ {ks:List Key} {ys:Y6} {us:Y7},Vals ys us->KV (ks.zip ys) (ks.zip us)
 | [],_,_,_=>by
  rw[List.zip_nil_left,List.zip_nil_left];exact Paired.nil
 | _ :: _,_,_,.nil=>Paired.nil
 | _ :: _,_,_,.cons r rr=>Paired.cons ⟨rfl,r⟩ (Fu rr)
noncomputable def Ac(K:Q7)(vs:Y6)(H:Hp)(Q:VK):Prop:=∃ (a b:Addr) (ks:List Key) (ys:Y6),vs=[.ref a,.ref b]/\SqL K H a (ks.map kV)/\SqL K H b ys/\ks.length=ys.length/\ks.Nodup/\∀d,H d=none->Q (.ref d) (upd H d (.dK (ks.zip ys)))
noncomputable def BL(K:Q7)(ta:TA):TE:=λσ H Q=>ta σ H λvs H1=>Ac K vs H1 Q
theorem iH{K:Q7}{ta:TA}{σ:St}{H:Hp}{Q:VK}(h:ta σ H λvs H1=>Ac K vs H1 Q):BL K ta σ H Q:=h
theorem gD{X:Cx}(K:Q7)(hK:X.K=K)(hc:X.calm=true){a b:Expr}{ta:TA}{p p2 pos j!:Pos}(hg1:Gl X "dict")(hm1:X.mg "dict" = none)(hg2:Gl X "zip")(hm2:X.mg "zip" = none)(ha:PA X [a,b] ta)(hn:isStar a=false:=by rfl)(hn2:isStar b=false:=by rfl) :
  PE X (.Call (.Name "dict" p) [.Call (.Name "zip" p2) [a,b] [] j!] [] pos) (BL K ta):=by
 subst hK;f_are;refine Call_ (fZ I hg1 hm1 PyProof.Rows.boot_dict (SG ?_ (a7 rfl) (cD rfl)));rw[a7 rfl];show wpAny _ _ (spliced ((false,eval (.Call (.Name "zip" p2) [a,b] [] j!) X.env) :: backTo pos (So [] X.env))) _ _ s;refine Vx ?_;refine Call_ (fZ I hg2 hm2 boot_zip (SG (thn (ha j! Za s σ H _ I h) λus s1 ⟨vs,H1,I1,r1,q1⟩=>?_) (a7 hn) (cD (by simp[hn2]))))
 obtain⟨l,l',ks,ys,e,hS,hS2,hlen,hnd,q⟩:=q1;subst e;cases r1 with
 | cons r rr =>
  cases rr with
  | cons r2 rr2 =>
   cases rr2;cases(show _=RN l from r);cases(show _=RN l' from r2);obtain⟨Zb,rv,pl,hz1⟩:=I1.list hS;obtain⟨Ze,rv2,pl2,hz2⟩:=I1.list hS2;have e1:=rv.length;have e2:=rv2.length;rw[Rc]at e1 hz1;have zl:(ks.zip Ze).length=ks.length:=by rw[Wj];lia
   have zv:(ks.zip ys).length=ks.length:=by rw[Wj];lia
   have lt1:l<s1.heap.objs.size:=by obtain⟨_,z,_⟩:=pl.isList;exact Rv z
   have lt2:l' < s1.heap.objs.size:=by obtain⟨_,z,_⟩:=pl2.isList;exact Rv z
   refine call_zip_2 pl.isList pl2.isList λh' gz gI gO g1 g2 gs hk=>?_;refine VP ?_;refine yM (knd:=ck X.prog X.w) (kvs:=ks.zip Ze) (s:={ s1 with heap:=h' }) (I.ok.hd hc) (FC _ _ _ lt1 lt2) gz ⟨.inl ⟨gz,_,_,gO⟩,gI,g1,g2,pl.isList.at λo e=>hk _ o e,pl2.isList.at λo e=>hk _ o e⟩ (by rw[zl];simpa using e1) (by rw[zl];exact hz1) (λi k v e=>?_) ?_ ⟨_,gO⟩ λh2 t2 hd hk2=>?_
   .obtain⟨z1,z2⟩:=WO.mp e;obtain⟨u,hu,ru⟩:=rv.get (show (ks.map kV)[i]?=some (kV k) by rw[Ro,z1];rfl)
    exact⟨u,by simpa using hu,oP ru,by simpa using z2⟩
   .rw[List.map_fst_zip (by lia)]
    exact hnd
   .have gs':h'.objs.size=s1.heap.objs.size+5:=gs;have hp:s1.heap.objs.size<=h'.objs.size:=by rw[gs'];exact Vo _ _
    refine⟨.ref h'.objs.size,upd H1 h'.objs.size (.dK (ks.zip ys)),I1.laid (a:=h'.objs.size) (o:=.dK (ks.zip ys)) (λb o e=>?_) hp (uN (by rw[zv];exact hz1) (beq_eq_false_iff_ne.mpr (TR (Ry (RH I1.big hp)))) (Fu rv2) hd),rfl,q _ (I1.hok.fresh hp)⟩
    have lb:=Rv e;exact hk2 b o (Ry (RH lb (Vo _ _))) (Ry (RH lb (Vo _ _))) (Ry lb) (Ry (RH lb (Vo _ _))) (hk b o e)
noncomputable def cI(R M:AT):Y1:=(R.map nk).zip (au M)
theorem fB:∀ {F M:AT} {j f c:Nat},F.Nodup->F[j]?=some f->M[j]?=some c->bq (cI F M) (nk f)=some (.int c)
 | [],_,_,_,_,_,h,_=>by simp at h
 | _ :: _,[],_,_,_,_,_,h=>by simp at h
 | a :: F,q :: M,0,f,c,_,h1,h2=>by
  cases h1;cases h2;exact cZ rfl
 | a :: F,q :: M,j+1,f,c,nd,h1,h2=>by
  have h1':F[j]?=some f:=h1;have h2':M[j]?=some c:=h2;obtain⟨n1,n2⟩:=R8.mp nd;have h3:¬ nk a=nk f:=λz=>n1 (by rw[gK z];exact Rb h1')
  show bq ((nk a,V.int q) :: cI F M) (nk f)=_;rw[cC h3];exact fB n2 h1' h2'
theorem AV:∀ {R:AT},R.Nodup->(R.map nk).Nodup
 | [],_=>Vj
 | a :: R,h=>by
  obtain⟨h1,h2⟩:=R8.mp h;refine R8.mpr ⟨λz=>?_,AV h2⟩;obtain⟨b,hb,e⟩:=Rw.mp z;exact h1 (by rw[<- gK e];exact hb)
theorem Kt(R:AT):(R.map nk).map kV=au R:=by
 unfold au;rw[T4];rfl
theorem wU{K:Q7}{H:Hp}{Q:VK}{x y:V}{R M:AT}(hR:At K H x R)(hM:At K H y M)(e:R.length=M.length)(nd:R.Nodup)(q:∀d,H d=none->Q (.ref d) (upd H d (.dK (cI R M)))):Ac K [x,y] H Q:=by
 obtain⟨p,rfl,h1⟩:=lz hR;obtain⟨p2,rfl,h2⟩:=lz hM;exact⟨p,p2,R.map nk,au M,rfl,by rw[Kt];exact h1,h2,by unfold au;rw[Rc,Rc];exact e,AV nd,q⟩
section
variable {X:Cx}{k:Nat}{f:Addr}{Cs:Addr->Prop}{fd:SO}{ps:Z0}{sp:Sp}{m:Str}{pos apos:Pos}{e o:Expr}{es:Y8}{ta:TE}{t:TA}
end
section
variable {X:Cx}
end
end L2
namespace L2
open PySem
variable {es:Y3}{owner:Array (Option Nat)}{xs:Z3}{ks:AT}{h j mask:Nat}{t:TF}
theorem tS{xs:Z3}{j:Nat}(hs:xs.toList.Pairwise (· < ·)):∀ (fuel lo hi:Nat),hi - lo<=fuel->lo<=hi->hi<=xs.size->(∀ (i y:Nat),i<lo->xs[i]?=some y->y<j)->(∀ (i y:Nat),hi<=i->xs[i]?=some y->j<=y) ->
  VR xs j fuel lo hi<=xs.size/\(∀ (i y:Nat),i<VR xs j fuel lo hi->xs[i]?=some y->y<j)/\∀ (i y:Nat),VR xs j fuel lo hi<=i->xs[i]?=some y->j<=y
 | 0,lo,hi,h1,h2,h3,h4,h5=>by
  have e:lo=hi:=by lia
  subst e;exact⟨h3,h4,h5⟩
 | fuel+1,lo,hi,h1,h2,h3,h4,h5=>by
  unfold VR
  by_cases c:lo<hi
  .rw[if_pos c];have hm:(lo+hi) / 2<xs.size:=by lia
   have get:=R9 hm;have mono:∀ (a b x y:Nat),a<b->xs[a]?=some x->xs[b]?=some y->x<y:=λa b x y hab ha hb=>by
    rw[<- Sy]at ha hb;obtain⟨ha1,rfl⟩:=Q9.mp ha;obtain⟨hb1,rfl⟩:=Q9.mp hb;exact R7.mp hs a b ha1 hb1 hab
   dsimp only;have gd:xs.getD ((lo+hi) / 2) j=xs[(lo+hi) / 2]:=by simp[Array.getD,hm]
   rw[gd]
   by_cases d:xs[(lo+hi) / 2]<j
   .rw[if_pos d];refine tS hs fuel _ _ (by lia) (by lia) h3 (λi y ZJ hy=>?_) h5
    rcases Rz i ((lo+hi) / 2) with z|z
    .exact U7 (mono _ _ _ _ z hy get) d
    .have:i=(lo+hi) / 2:=by lia
     subst this;rw[get]at hy;cases hy;exact d
   .rw[if_neg d];refine tS hs fuel _ _ (by lia) (by lia) (by lia) h4 λi y ZJ hy=>?_
    rcases Rz ((lo+hi) / 2) i with z|z
    .exact RU (Xp d) (TL (mono _ _ _ _ z get hy))
    .have:i=(lo+hi) / 2:=by lia
     subst this;rw[get]at hy;cases hy;exact Xp d
  .rw[if_neg c];have e:lo=hi:=by lia
   subst e;exact⟨h3,h4,h5⟩
theorem uy(hs:xs.toList.Pairwise (· < ·))(j:Nat):Sx xs j<=xs.size/\(∀ (i y:Nat),i<Sx xs j->xs[i]?=some y->y<j)/\∀ (i y:Nat),Sx xs j<=i->xs[i]?=some y->j<=y :=
 tS hs _ _ _ (by lia) (R5 _) (Ru _) (λi y h=>absurd h (UB _)) λi y h hy=>by
  have:=(Wx.mp hy).1;lia
theorem Ic(hs:xs.toList.Pairwise (· < ·))(hj:j∉xs.toList):(UC xs (Sx xs j) j).toList.Pairwise (· < ·):=by
 obtain⟨h1,h2,h3⟩:=uy hs j;rw[UD];have a:∀y∈xs.toList.take (Sx xs j),y<j:=λy hy=>by
  obtain⟨i,hi⟩:=RD hy;have Zd:i<Sx xs j:=by
   have:=(Q9.mp hi).1;rw[RG]at this;lia
  rw[SK Zd,Sy]at hi;exact h2 i y Zd hi
 have b:∀y∈xs.toList.drop (Sx xs j),j<y:=λy hy=>by
  obtain⟨i,hi⟩:=RD hy;rw[List.getElem?_drop,Sy]at hi;have c:=h3 _ y (Vo _ i) hi;have:y≠j:=λe=>hj (by rw[<- e];exact V8 hy)
  lia
 rw[Yd];refine⟨hs.sublist (List.take_sublist _ _),?_,λx hx y hy=>?_⟩
 .rw[To];exact⟨b,hs.sublist (List.drop_sublist _ _)⟩
 .rcases RA.mp hy with rfl|hy
  .exact a x hx
  .exact U7 (a x hx) (b y hy)
theorem Ff(hs:t.place.toList.Pairwise (· < ·))(hd:t.dummies=#[])(hj:j∉t.place.toList):t.slot j=.empty:=by
 unfold SetTable.slot;have:(t.place[Sx t.place j]? == some j)=false:=by
  rw[beq_eq_false_iff_ne];intro e;rw[<- Sy]at e;exact hj (Rb e)
 rw[hd];simp only[this];rfl
theorem Gj{u:TF}(hm:t.mask=u.mask)(hp:t.place=u.place)(hd:t.dummies=u.dummies)(h:Int):t.freeSlot h=u.freeSlot h:=by
 have hs:∀j,t.slot j=u.slot j:=λj=>by unfold SetTable.slot;rw[hp,hd]
 have ha:∀p,t.advance p=u.advance p:=λp=>by unfold SetTable.advance;rw[hm]
 have go:∀ (f:Nat) (p:SetTable.Probe),VS t (λ_=>h+1) h f p=VS u (λ_=>h+1) h f p:=λf=>by
  induction f with
  | zero=>intro p;rfl
  | succ f ih =>
   intro p;unfold VS;rw[hs,ha,ih];simp only[ha,ih]
 unfold SetTable.freeSlot YU Yo;rw[hm,go]
noncomputable def subs:Nat->Nat->AC
 | 0,_=>[[]]
 | n+1,k=>subs n (k+1)++(subs n (k+1)).map (k :: ·)
theorem oA:∀ (n k:Nat) (l:AT),l.Pairwise (· < ·)->(∀x∈l,k<=x/\x<k+n)->l∈subs n k
 | 0,k,[],_,_=>by unfold subs;simp
 | 0,k,x :: l,_,h=>by have:=h x Rr;lia
 | n+1,k,l,hp,h=>by
  unfold subs;rw[Rq];cases l with
  | nil=>exact .inl (oA n (k+1) [] hp λx hx=>by cases hx)
  | cons x l =>
   rw[To]at hp;rcases Rz k x with z|z
   .refine .inl (oA n (k+1) _ (To.mpr hp) λy hy=>?_);have:=h y hy;rcases RA.mp hy with rfl|C'
    .lia
    .have:=hp.1 y C';lia
   .have e:x=k:=by have:=h x Rr;lia
    subst e;refine .inr (Rw.mpr ⟨l,oA n (x+1) l hp.2 λy hy=>?_,rfl⟩);have:=h y (Rp _ hy);have:=hp.1 y hy;lia
noncomputable def A9(l:AT):TF:={ mask:=7,place:=l.toArray,dummies:=#[],finger:=0,led:=true,moves:=0,plain:=true }
noncomputable def GU(l:AT)(h:Nat):Bool:=match (A9 l).freeSlot (h:Int) with
 | some (j,false)=>decide (j<8) && !(l.contains j)
 | _=>false
theorem Im:(subs 8 0).all (λl=>decide (4<l.length) || (Rh 23).all (GU l))=true:=by trivial
theorem O6(hm:t.mask=7)(hd:t.dummies=#[])(hs:t.place.toList.Pairwise (· < ·))(h8:∀x∈t.place.toList,x<8)(h4:t.place.size<=4)(ZV:h<23):∃j,t.freeSlot (h:Int)=some (j,false)/\j<8/\j∉t.place.toList:=by
 have m:=oA 8 0 _ hs λx hx=>⟨R5 _,by have:=h8 x hx;lia⟩
 have a:=RS.mp Im _ m;rw[Bool.or_eq_true]at a;rcases a with a|a
 .have:=of_decide_eq_true a;rw[RZ]at this;lia
 .have b:=RS.mp a h (Ri.mpr ZV);unfold GU at b;rw[<- Gj (t:=t) (u:=A9 t.place.toList) hm (by unfold A9;simp) hd]at b
  split at b
  .rename_i j e
   rw[Tu]at b;refine⟨j,e,of_decide_eq_true b.1,λz=>?_⟩;have:=b.2;rw[W3]at this;rw[List.contains_eq_mem,decide_eq_false_iff_not]at this;exact this z
  .cases b
theorem BK(ZV:h<23):VE (h:Int)=h:=by
 unfold VE;have Z9:(23:Int)<=2 ^ 64:=by decide
 rw[Int.emod_eq_of_lt (by lia) (by lia)]
 rfl
theorem LY(hm:23<=t.mask+1)(hd:t.dummies=#[])(hs:t.place.toList.Pairwise (· < ·))(ZV:h<23)(hh:h∉t.place.toList):t.freeSlot (h:Int)=some (h,false):=by
 have e:=Ff hs hd hh;unfold SetTable.freeSlot YU Yo;rw[BK ZV,R4 (show h<t.mask+1 by lia)]
 have f:10 * VZ t.mask=(10 * t.mask+149)+1:=by unfold VZ;lia
 rw[f];unfold VS;dsimp only;rw[e];rfl
theorem IC(hz:owner.size=mask+1)(hm:h<mask+1)(ho:owner.getD h none=none)(f p:Nat):UX mask owner (f+1) h p=some h:=by
 unfold UX;have e1:owner.getD h (some 0)=none:=by
  have hl:h<owner.size:=by lia
  simp only[Array.getD,hl,dite_true]at ho ⊢;exact ho
 have e2:∃k,XT mask h+1 - h=k+1:=⟨XT mask h - h,by unfold XT;split <;> lia⟩
 obtain⟨k,e2⟩:=e2;rw[e2,List.range_succ_eq_map,Uz];simp only[TN,e1,Option.isNone_none]
noncomputable def at?(l:AT)(j:Nat):Option Nat:=if j∈l then some (l.idxOf j) else none
noncomputable def v8(mask:Nat)(acc:Option (Array (Option Nat)×Nat))(h:Int):Option (Array (Option Nat)×Nat):=do
 let (owner,k) <- acc
 let j <- UX mask owner (VZ mask) (VE h % (mask+1)) (VE h)
 pure (owner.setIfInBounds j (some k),k+1)
theorem C5{mask:Nat}:∀ (ks done:AT) (owner:Array (Option Nat)),owner.size=mask+1->(∀k∈ks,k<23)->23<=mask+1->(done++ks).Nodup->(∀j,j<mask+1->owner.getD j none=at? done j) ->
  ∃ZR,(ks.map λ(k:Nat)=>(k:Int)).foldl (v8 mask) (some (owner,done.length))=some (ZR,(done++ks).length)/\ZR.size=mask+1/\∀j,j<mask+1->ZR.getD j none=at? (done++ks) j
 | [],done,owner,hz,_,_,_,ho=>⟨owner,by simp,hz,by simpa using ho⟩
 | k :: ks,done,owner,hz,hk,hm,nd,ho=>by
  have k23:=hk k Rr;have kd:k∉done:=λz=>by
   rw[Uy]at nd;exact nd.2.2 k z k Rr rfl
  have o1:owner.getD k none=none:=by rw[ho k (by lia)];unfold at?;rw[if_neg kd]
  have e:done++k :: ks=(done++[k])++ks:=by simp
  rw[e]at nd ⊢;have:=C5 ks (done++[k]) (owner.setIfInBounds k (some done.length)) (by rw[Array.size_setIfInBounds];exact hz) (λx hx=>hk x (Rp _ hx)) hm nd λj hj=>by
   rw[TJ,Array.getElem?_setIfInBounds]
   by_cases c:k=j
   .subst c;rw[if_pos rfl,if_pos (by lia)]
    unfold at?;rw[if_pos (by simp),List.idxOf_append,if_neg kd]
    simp
   .rw[if_neg c,<- TJ,ho j hj];unfold at?;have mm:(j∈done++[k])↔j∈done:=by
     rw[Rq,Rj];exact⟨λz=>z.elim id λz=>absurd z.symm c,.inl⟩
    by_cases d:j∈done
    .rw[if_pos d,if_pos (mm.mpr d),List.idxOf_append,if_pos d]
    .rw[if_neg d,if_neg λz=>d (mm.mp z)]
  obtain⟨ZR,w1,w2,w3⟩:=this;refine⟨ZR,?_,w2,w3⟩;rw[Si,XN];have st:v8 mask (some (owner,done.length)) (k:Int)=some (owner.setIfInBounds k (some done.length),done.length+1):=by
   show (UX mask owner (VZ mask) (VE (k:Int) % (mask+1)) (VE (k:Int))).bind _=_;rw[BK k23,R4 (show k<mask+1 by lia),show VZ mask=(mask+14)+1 from rfl,IC hz (by lia) o1]
   rfl
  rw[st];rw[Rt]at w1;exact w1
noncomputable def bV(mask:Nat)(ks:AT):AT:=(Rh (mask+1)).filter λj=>decide (j∈ks)
theorem xp(h:∀k∈ks,k<mask+1) :j∈bV mask ks↔j∈ks:=by
 unfold bV;rw[RL,Ri,decide_eq_true_iff];exact⟨λz=>z.2,λz=>⟨h j z,z⟩⟩
theorem ub(h:∀k∈ks,k<mask+1)(nd:ks.Nodup):(bV mask ks).Perm ks :=
 (Wy (Tv.filter _) nd).mpr λ_=>xp h
theorem BI{α β:Type}{f g:α->Option β}:∀ {l:List α},(∀x∈l,f x=g x)->l.filterMap f=l.filterMap g
 | [],_=>rfl
 | x :: l,h=>by rw[Uk,Uk,h x Rr,BI λy hy=>h y (Rp _ hy)]
theorem Ji{finger moves:Nat}{led plain:Bool}(ZV:∀k∈ks,k<23)(hm:23<=mask+1)(nd:ks.Nodup) :
  SetTable.laid mask finger moves led plain (ks.map λ(k:Nat)=>(k:Int)).toArray=some ({ mask,place:=(bV mask ks).toArray,dummies:=#[],finger,led,moves,plain },((bV mask ks).map λj=>ks.idxOf j).toArray):=by
 obtain⟨owner,h1,h2,h3⟩:=C5 ks [] (Array.replicate (mask+1) none) (by simp) ZV hm (by simpa using nd) λj hj=>by
  unfold at?;simp[TJ,hj]
 have lc:Yy mask (ks.map λ(k:Nat)=>(k:Int)).toArray=some owner:=by
  unfold Yy;rw[List.foldl_toArray];have:(ks.map λ(k:Nat)=>(k:Int)).foldl (v8 mask) (some (Array.replicate (mask+1) none,0))=some (owner,([]++ks).length):=h1;exact congrArg (Option.map (·.1)) this
 unfold SetTable.laid;rw[lc];have lv:((Rh (mask+1)).filterMap λj=>(owner.getD j none).map (j,·))=(bV mask ks).map λj=>(j,ks.idxOf j):=by
  unfold bV;rw[<- List.filterMap_eq_map,List.filterMap_filter];refine BI λj hj=>?_;rw[h3 j (Ri.mp hj)];unfold at?;simp only[List.nil_append,decide_eq_true_eq]
  by_cases d:j∈ks
  .rw[if_pos d,if_pos d];rfl
  .rw[if_neg d,if_neg d];rfl
 show some _=some _;rw[lv,T4,T4]
 congr 2
 simp[Function.comp_def]
structure Good(led:Bool)(es:Y3)(t:TF)(ks:AT):Prop where
 plain:t.plain=true
 led:t.led=led
 dum:t.dummies=#[]
 size:t.place.size=es.size
 rise:t.place.toList.Pairwise (· < ·)
 keys:es.toList.map (·.1)=ks.map λ(k:Nat)=>(k:Int)
 nd:ks.Nodup
 lt:∀k∈ks,k<23
 st:(t.mask=7/\es.size<=4/\∀j∈t.place.toList,j<8)\/((t.mask=31/\es.size<=18\/t.mask=127)/\t.place.toList=ks)
theorem Good.len{led:Bool}(g:Good led es t ks):es.size=ks.length:=by
 have:=congrArg Vq g.keys;rw[Rc,Rc,RZ]at this;o_rec
theorem ig(nd:ks.Nodup)(h:∀k∈ks,k<23):ks.length<=23:=by
 have e:=(ub (mask:=22) h nd).length_eq;have:(bV 22 ks).length<=23:=by
  unfold bV;exact RU (TC _ _) (by simp)
 lia
theorem Cr(h:es.toList.map (·.1)=ks.map λ(k:Nat)=>(k:Int))(p k:Nat)(x:Value):(UC es p ((k:Int),x)).toList.map (·.1)=(ks.take p++k :: ks.drop p).map λ(k:Nat)=>(k:Int):=by
 rw[UD,R3,Si,List.map_take,List.map_drop,h,R3,Si,List.map_take,List.map_drop]
theorem Co(p k:Nat):(ks.take p++k :: ks.drop p).Perm (k :: ks):=by
 have:=Xq (a:=k) (l₁:=ks.take p) (l₂:=ks.drop p);rw[Va]at this;o_rec
theorem Kz(nd:ks.Nodup):ks.map (λj=>ks.idxOf j)=Rh ks.length:=by
 refine SV λi=>?_;rw[Ro];rcases Rz i ks.length with h|h
 .rw[Q8 h,S8 h];show some (ks.idxOf ks[i])=_;rw[nd.idxOf_getElem i h]
 .rw[RF h,RF (by rw[RP];exact h)]
  rfl
theorem vk{led:Bool}{wanted M:Nat}(hp:t.plain=true)(hl:t.led=led)(hk:es.toList.map (·.1)=ks.map λ(k:Nat)=>(k:Int))(nd:ks.Nodup)(lt:∀k∈ks,k<23)
  (hM:SetTable.sizeAbove wanted - 1=M) (h2:M=31/\es.size<=18\/M=127):∃K' t2 X!,relayAll t es wanted=(K',t2,false)/\Good led K' t2 X!/\X!.Perm ks:=by
 have Zw:=ig nd lt;have m23:23<=M+1:=by lia
 have lt':∀k∈ks,k<M+1:=λk hk=>by have:=lt k hk;lia
 have pm:=ub lt' nd;have el:es.size=ks.length:=by
  have:=congrArg Vq hk;rw[Rc,Rc,RZ]at this;o_rec
 have ea:es.map (·.1)=(ks.map λ(k:Nat)=>(k:Int)).toArray:=by
  rw[<- hk];apply V6.mp;simp
 have nk:∀ (i:Nat) (e:Int×Value),es[i]?=some e->∃k,ks[i]?=some k/\e.1=(k:Int):=λi e he=>by
  have:=congrArg (λl=>l[i]?) hk;rw[Ro,Ro,Sy,he]at this;cases q:ks[i]? with
  | none=>rw[q]at this;cases this
  | some k=>rw[q]at this;exact⟨k,rfl,RW this⟩
 have key:∀ (l:AT),(∀j∈l,j∈ks)->((l.map λj=>ks.idxOf j).filterMap (es[·]?)).map (·.1)=l.map λ(k:Nat)=>(k:Int):=λl=>by
  induction l with
  | nil=>intro _;rfl
  | cons j l ih =>
   intro h;have hj:=h j Rr;have il:ks.idxOf j<es.size:=by rw[el];exact R6 hj
   have he:=R9 il;obtain⟨k,hk1,hk2⟩:=nk _ _ he;have:k=j:=by
    rw[Q8 (R6 hj),U0]at hk1;exact(RW hk1).symm
   subst this;rw[Si,Uk,he];show _ :: _=_ :: _;dsimp only;rw[hk2,ih λx hx=>h x (Rp _ hx)]
 have k2:=key (bV M ks) λj hj=>(xp lt').mp hj;have l2:((((bV M ks).map λj=>ks.idxOf j).toArray).filterMap (es[·]?)).toList=(((bV M ks).map λj=>ks.idxOf j).filterMap (es[·]?)):=by simp
 have z2:((((bV M ks).map λj=>ks.idxOf j).toArray).filterMap (es[·]?)).size=(bV M ks).length:=by
  rw[<- RZ,l2];have:=congrArg Vq k2
  rwa[Rc,Rc]at this
 have c1:coversAll ((bV M ks).map λj=>ks.idxOf j).toArray es.size=true:=by
  unfold coversAll;rw[List.isPerm_iff,el,<- Kz nd];exact pm.map _
 refine⟨(((bV M ks).map λj=>ks.idxOf j).toArray).filterMap (es[·]?),{ mask:=M,place:=(bV M ks).toArray,dummies:=#[],finger:=t.finger,led:=t.led,moves:=t.movedTo M,plain:=t.plain },bV M ks,?_,⟨hp,hl,rfl,?_,?_,?_,?_,?_,?_⟩,pm⟩
 .unfold relayAll SetTable.relaid;rw[hM,ea,Ji lt m23 nd];dsimp only;rw[c1];have f:Wc { mask:=M,place:=(bV M ks).toArray,dummies:=#[],finger:=t.finger,led:=t.led,moves:=t.movedTo M,plain:=t.plain } ((((bV M ks).map λj=>ks.idxOf j).toArray).filterMap (es[·]?)).size=true:=by
   unfold Wc Xh;have:=pm.length_eq;rw[z2];simp;lia
  rw[f];rfl
 .show (bV M ks).toArray.size=_;rw[z2];simp
 .show (bV M ks).toArray.toList.Pairwise (· < ·);exact Ua _ S3
 .rw[l2];exact k2
 .exact pm.nodup_iff.mpr nd
 .exact λk hk=>lt k (pm.mem_iff.mp hk)
 .refine .inr ⟨?_,rfl⟩;rw[z2,pm.length_eq,<- el];exact h2
theorem Good.fresh(led:Bool):Good led #[] (.fresh 0 0 led) []:=⟨rfl,rfl,rfl,rfl,WX,rfl,Vj,(λk hk=>by cases hk),.inl ⟨rfl,R5 _,λj hj=>by cases hj⟩⟩
theorem sL{α:Type}(xs:Array α)(p:Nat)(x:α):(UC xs p x).size=xs.size+1:=by
 have:=(SetTable.insertAt_perm xs p x).length_eq;rw[RZ,RZ,Array.size_push]at this;o_rec
theorem Good.add{led:Bool}(g:Good led es t ks){k:Nat}(hk:k<23)(hn:k∉ks)(x:Value) :
  ∃ZD t1,layNew t es (k:Int) x=(ZD,t1,false,false)/\t1.plain=true/\((t1.tooFull=false/\∃ks1,Good led ZD t1 ks1/\ks1.Perm (k :: ks))\/(t1.tooFull=true/\∃K' t2 X!,relayAll t1 ZD (WQ ZD.size)=(K',t2,false)/\Good led K' t2 X!/\X!.Perm (k :: ks))):=by
 have el:=g.len;have nd1:(k :: ks).Nodup:=R8.mpr ⟨hn,g.nd⟩;have lt1:∀y∈k :: ks,y<23:=λy hy=>by
  rcases RA.mp hy with rfl|hy
  .exact hk
  .exact g.lt y hy
 have l23:=ig nd1 lt1;rw[Sb]at l23;obtain⟨j,hf,hj,hb⟩:∃j,t.freeSlot (k:Int)=some (j,false)/\j∉t.place.toList/\((t.mask=7/\es.size<=4/\(∀y∈t.place.toList,y<8)/\j<8)\/((t.mask=31/\es.size<=18\/t.mask=127)/\t.place.toList=ks/\j=k)):=by
  rcases g.st with ⟨h1,h2,h3⟩|⟨h1,h2⟩
  .obtain⟨j,a,b,c⟩:=O6 h1 g.dum g.rise h3 (by rw[g.size];exact h2) hk
   exact⟨j,a,c,.inl ⟨h1,h2,h3,b⟩⟩
  .have kp:k∉t.place.toList:=by rw[h2];exact hn
   exact⟨k,LY (by lia) g.dum g.rise hk kp,kp,.inr ⟨h1,h2,rfl⟩⟩
 have hput:t.put j=({ t with place:=UC t.place (Sx t.place j) j,dummies:=#[] },Sx t.place j):=by
  unfold SetTable.put;rw[g.dum];rfl
 have rise1:=Ic g.rise hj;have z1:=sL t.place (Sx t.place j) j;have z2:=sL es (Sx t.place j) ((k:Int),x);have y!:=Cr g.keys (Sx t.place j) k x;have pm:=Co (ks:=ks) (Sx t.place j) k;generalize hP:UC t.place (Sx t.place j) j=pl at hput rise1 z1;generalize hE:UC es (Sx t.place j) ((k:Int),x)=ZD at z2 y!;have fits:Wc { t with place:=pl,dummies:=#[] } ZD.size=true:=by
  unfold Wc Xh;rw[Tu];refine⟨by simp[z1,z2,g.size],decide_eq_true ?_⟩
  show pl.size+0<=t.mask;rw[z1,g.size];lia
 have nd2:=pm.nodup_iff.mpr nd1;have lt2:∀y∈ks.take (Sx t.place j)++k :: ks.drop (Sx t.place j),y<23:=λy hy=>lt1 y (pm.mem_iff.mp hy);refine⟨ZD,{ t with place:=pl,dummies:=#[] },?_,g.plain,?_⟩
 .unfold layNew;rw[hf];dsimp only;rw[hput];dsimp only;rw[hE];unfold SetTable.orStandIn;rw[fits];rfl
 .have tf:SetTable.tooFull { t with place:=pl,dummies:=#[] }=decide ((es.size+1) * 5 >= t.mask * 3):=by
   unfold SetTable.tooFull Xh;show decide ((pl.size+0) * 5 >= t.mask * 3)=_;rw[z1,g.size]
  rw[tf]
  by_cases c:(es.size+1) * 5 >= t.mask * 3
  .refine .inr ⟨decide_eq_true c,?_⟩;rcases hb with ⟨b1,b2,b3,b4⟩|⟨b1,b2,b3⟩
   .have e5:ZD.size=5:=by lia
    obtain⟨K',t2,X!,w1,w2,w3⟩:=vk (led:=led) (t:={ t with place:=pl,dummies:=#[] }) (wanted:=WQ ZD.size) (M:=31) g.plain g.led y! nd2 lt2 (by rw[e5];decide) (.inl ⟨rfl,by lia⟩)
    exact⟨K',t2,X!,w1,w2,w3.trans pm⟩
   .rcases b1 with ⟨b1,b4⟩|b1
    .have e5:ZD.size=19:=by lia
     obtain⟨K',t2,X!,w1,w2,w3⟩:=vk (led:=led) (t:={ t with place:=pl,dummies:=#[] }) (wanted:=WQ ZD.size) (M:=127) g.plain g.led y! nd2 lt2 (by rw[e5];decide) (.inr rfl)
     exact⟨K',t2,X!,w1,w2,w3.trans pm⟩
    .lia
  .refine .inl ⟨decide_eq_false c,_,⟨g.plain,g.led,rfl,?_,rise1,y!,nd2,lt2,?_⟩,pm⟩
   .show pl.size=_;rw[z1,z2,g.size]
   .rcases hb with ⟨b1,b2,b3,b4⟩|⟨b1,b2,b3⟩
    .refine .inl ⟨b1,by lia,λy hy=>?_⟩
     rw[<- hP,UD]at hy;have C':y∈t.place.toList\/y=j:=by
      rcases Rq.mp hy with z|z
      .exact .inl (Vh z)
      .rcases RA.mp z with z|z
       .exact .inr z
       .exact .inl (V8 z)
     rcases C' with z|rfl
     .exact b3 y z
     .exact b4
    .refine .inr ⟨?_,?_⟩
     .show t.mask=31/\ZD.size<=18\/t.mask=127;rcases b1 with ⟨b1,b4⟩|b1
      .exact .inl ⟨b1,by lia⟩
      .exact .inr b1
     .show pl.toList=_;rw[<- hP,UD,b2,b3]
end L2
namespace L2
open PySem PySem.Spec PyProof.Rows
variable {C a f it:Addr}{es es':Y3}{g:Array VX}{G:Array VX->Array VX->Prop}{items:Z2}{led:Bool}{X:Cx}{d:Drawn}{h h':Heap}{H:Hp}{e:Int×Value}{Za:Y0}{fs:List (Str×V)}{fp:Y9}{ifs:Y8}{fr ks l ns:AT}{own ps:Z0}{ep i k n:Nat}{P:Nat->Value->Prop}{di:Z5}{os:OsState}{pos:Pos}{K:Q7}{prog:RB}{s:Rg}{scope:Scope}{A:Sj}{sp:Sp}{st:Stmt}{name y:Str}{mA mg:Y5}{te:TE}{t:TF}{wi:TI}{tt:TT}{v:Value}{E Q:Value->Rg->Prop}{w:World}{R:XF->Rg->Prop}
noncomputable def aX(w:World):Bool:=w.params.followText "set-order"
theorem AL(h:k<23):hashInt (k:Int)=(k:Int):=by
 have:∀i:_root_.Fin 23,hashInt ((i.val:Nat):Int)=((i.val:Nat):Int):=by trivial
 exact this ⟨k,h⟩
noncomputable def Nums(es:Y3):Prop:=∀e∈es.toList,∃ (k:Nat) (tk:Tok),k<23/\e=((k:Int),Ui (k:Int) tk)
theorem Nums.elems(h:Nums es):ElemsOf (intKind prog w) es.toList:=λe he=>by
 obtain⟨k,tk,hk,rfl⟩:=h e he;exact⟨⟨(k:Int),Ya _ _ _ _,(AL hk).symm⟩,rfl⟩
theorem Nums.perm(h:Nums es)(p:es'.toList.Perm es.toList):Nums es':=λe he=>h e (p.mem_iff.mp he)
theorem Good.fits(g:Good led es t ks):t.fits es.size=true:=by
 unfold Wc Xh;have l:=g.len;have n:=ig g.nd g.lt;have z:=g.size;rw[g.dum,Tu];refine⟨by simp[z],decide_eq_true ?_⟩
 show t.place.size+0<=t.mask;rcases g.st with ⟨h1,h2,_⟩|⟨h1,_⟩ <;> lia
noncomputable def e8(h:Heap)(a:Addr)(led:Bool)(ks:AT):Prop:=∃o es ep t,h.get? a=some o/\o.ExactSet/\o.data=.set es ep t/\Nums es/\Good led es t ks
section
theorem Jr{tk:Tok}{Q:Bool->Rg->Prop}(hk:k<23)(hS:e8 s.heap a led ks)
  (h:∀b h' ks',Vr a s.heap h'->e8 h' a led ks'->(∀x,x∈ks'↔x∈ks\/x=k)->Q b { s with heap:=h' }) :
  wpAny (model prog w) A (setAddHashed a (.int k tk) (hashInt (k:Int))) Q E s:=by
 obtain⟨o,es,ep,t,ho,hex,hd,l!,g⟩:=hS;have l:=g.len;have n:=ig g.nd g.lt;have hb:es.size<scanBound:=by show es.size<4096;lia
 have hel:=l!.elems (prog:=prog) (w:=w);have D!:∀j,j∈ks↔∃e∈es.toList,(intKind prog w).is (j:Int) e.2=true:=λj=>by
  have kk:=g.keys;constructor
  .intro hj;have:(j:Int)∈es.toList.map (·.1):=by rw[kk];exact Rw.mpr ⟨j,hj,rfl⟩
   obtain⟨e,he,e1⟩:=Rw.mp this;obtain⟨k',tk',_,rfl⟩:=l! e he;refine⟨_,he,?_⟩;dsimp only at e1 ⊢;rw[e1];exact Ya _ _ _ _
  .rintro⟨e,he,q⟩;obtain⟨k',tk',_,rfl⟩:=l! e he;have e2:(j:Int)=(k':Int):=(intKind prog w).inj _ _ _ q (Ya _ _ _ _);have:(j:Int)∈ks.map λ(k:Nat)=>(k:Int):=by rw[<- kk,e2];exact Rw.mpr ⟨_,he,rfl⟩
   obtain⟨j',f',e3⟩:=Rw.mp this;have:j'=j:=by lia
   exact this ▸ f'
 unfold setAddHashed setAddHashedIn;refine SA (Ra (UE ho hd g.fits ?_));dsimp only;rw[byScan_of rfl hb hel,if_pos rfl];unfold setAddByScan;refine Ra (Ra (X7 (Ra (wpAny_setScan_of (knd:=intKind prog w) (Ya _ _ _ _) ho hd g.fits hel ?_))));cases hr:List.findIdx? (λe=>(intKind prog w).is (k:Int) e.2) es.toList with
 | some j =>
  obtain⟨hj,q,_⟩:=List.findIdx?_eq_some_iff_getElem.mp hr;have ZX:k∈ks:=(D! k).mpr ⟨_,Sd hj,q⟩;dsimp only;refine Rm (Rm ?_);exact h false s.heap ks (Heap.SameBut.refl a s.heap) ⟨o,es,ep,t,ho,hex,hd,l!,g⟩ λx=>⟨.inl,λz=>z.elim id λz=>z ▸ ZX⟩
 | none =>
  have hn:k∉ks:=λz=>by
   obtain⟨e,he,q⟩:=(D! k).mp z;have:=List.findIdx?_eq_none_iff.mp hr e he;rw[q]at this;cases this
  dsimp only;have lp:=layNew_perm t es (k:Int) (.int k tk);obtain⟨ZD,t1,hl,ZG,alt⟩:=g.add hk hn (.int k tk);rw[AL hk,hl];rw[hl,Array.toList_push]at lp;dsimp only at lp;have num1:Nums ZD:=λe he=>by
   rcases Rq.mp (lp.mem_iff.mp he) with z|z
   .exact l! e z
   .exact⟨k,tk,hk,Rj.mp z⟩
  dsimp only;refine Ra (Rm ?_);rw[ZG,if_pos rfl];refine Ra ?_;rw[hashByValue_scannable 8 rfl];refine Rm ?_;rw[if_pos (show plainKind (Ui (k:Int) tk)=true from rfl)];have s1:ZD.size<scanBound:=by
   have:=lp.length_eq;rw[RZ,Rt,RZ,Uq]at this;show ZD.size<4096;lia
  have o1:(s.heap.update a (W5 ZD t1)).get? a=some { o with data:=.set ZD (ep+1) t1 }:=by
   have:=S7 (W5 ZD t1) ho (by rw[YO ZD t1 hd];rfl)
   rw[YO ZD t1 hd]at this;o_rec
  have b1:=Ul s.heap a (W5 ZD t1);have mm:∀ {ks':AT},ks'.Perm (k :: ks)->∀x,x∈ks'↔x∈ks\/x=k:=λp x=>by rw[p.mem_iff,RA];exact Or.comm
  refine Ra (wpAny_storeSet_of ho hd ?_ (fits_of_scanBound s1));rcases alt with ⟨tf,ks1,g1,p1⟩|⟨tf,K',t2,X!,hrl,g2,p2⟩
  .rw[tf];refine Rm (Rm ?_);exact h true _ ks1 b1 ⟨_,ZD,ep+1,t1,o1,hex,rfl,num1,g1⟩ (mm p1)
  .have rp:=relayAll_perm t1 ZD (WQ ZD.size);rw[tf,hrl];rw[hrl]at rp;dsimp only at rp;have s2:K'.size<scanBound:=by
    have:=rp.length_eq;rw[RZ,RZ]at this;show K'.size<4096;have:ZD.size<4096:=s1;lia
   refine Ra (Rm (Ra (wpAny_storeSet_of o1 rfl ?_ (fits_of_scanBound s2))));have o2:((s.heap.update a (W5 ZD t1)).update a (W5 K' t2)).get? a=some { o with data:=.set K' (ep+1+1) t2 }:=by
    have:=S7 (W5 K' t2) o1 (by rw[YO K' t2 rfl];rfl)
    rw[YO K' t2 rfl]at this;o_rec
   refine Rm (Rm ?_);exact h true _ X! (b1.trans (Ul _ a _)) ⟨_,K',ep+1+1,t2,o2,hex,rfl,num1.perm rp,g2⟩ (mm p2)
theorem Hf{I:Addr}{wr:Y9}{St:Nat->Rg->Prop}(W:WalksS prog w A.in1 I fp wr G n P St)(a:Addr)(ha:a∉fp) 
  (val:Nat->Nat) (hval:∀i v,P i v->∃t,v=.int (val i:Int) t) (ZV:∀i,i<n->val i<23) :
  ∀ (k i:Nat) (s:Rg) (ks:AT),n - i=k->i<=n->St i s->e8 s.heap a led ks->(∀x,x∈ks↔∃j,j<i/\val j=x) ->
   (∀s' ks',Moved (a :: wr) G s s'->e8 s'.heap a led ks'->(∀x,x∈ks'↔∃j,j<n/\val j=x)->R (.ok (.ret .none)) s') ->
   codeAny (model prog w) A (.builtin "set.update.loop" ⟨[.ref a,.ref I],[]⟩) R s:=by
 have haw:a∉wr:=λz=>ha (W.sub _ z);have up:∀b∈wr,b∈a :: wr:=λb hb=>Rp _ hb;have keepS:∀ {s s':Rg} {ks:AT},Moved wr G s s'->e8 s.heap a led ks->e8 s'.heap a led ks:=λhm ⟨o,es,ep,t,ho,r⟩=>⟨o,es,ep,t,hm.heap a _ haw ho,r⟩;intro k
 induction k with
 | zero =>
  intro i s ks hk hi Zp hS hm hR;have e:i=n:=by lia
  subst e;refine SQ Xi ?_;rw[Sn VF _];show wpAny _ A.in1 (pyNext (.ref I) >>= _) _ _ s;refine Ra (W.done s _ _ Zp λs' mv=>?_);exact Rm (hR s' ks (mv.mono up) (keepS mv hS) hm)
 | succ k ih =>
  intro i s ks hk hi Zp hS hm hR;have il:i<n:=by lia
  refine SQ Xi ?_;rw[Sn VF _];show wpAny _ A.in1 (pyNext (.ref I) >>= _) _ _ s;refine Ra (W.item i s _ _ il Zp λv s' hP E! mv=>?_);obtain⟨tk,rfl⟩:=hval i v hP;show wpAny _ A.in1 (holding [Ui (val i:Int) tk] (setAdd a (.int (val i:Int) tk)) >>= _) _ _ s';refine Ra (SA ?_);unfold setAdd;refine SA (Ra ((intKind prog w).pyHash (k:=(val i:Int)) (Ya _ _ _ _) ?_));refine Jr (s:={ s' with toks:=s'.toks+1 }) (ZV i il) (show e8 s'.heap a led ks from keepS mv hS) λb h' ks' sb Zz hm'=>?_;refine Rm ⟨Tg VF _,ih (i+1) _ ks' (by lia) il (W.frame _ s' _ _ E! (S6 _) λb hb o e=>?_) Zz (λx=>?_) λS! ks'' mv' hS'' hm''=>?_⟩
  .rw[sb.2 b (λz=>ha (z ▸ hb))];exact e
  .rw[hm' x,hm x];constructor
   .rintro (⟨j,hj,e⟩|rfl)
    .exact⟨j,by lia,e⟩
    .exact⟨i,by lia,rfl⟩
   .rintro⟨j,hj,e⟩;rcases Rz j i with z|z
    .exact .inl ⟨j,z,e⟩
    .have:j=i:=by lia
     exact .inr (by rw[<- e,this])
  .refine hR S! ks'' (Moved.trans W.gtrans ((mv.mono up).then_heap (S6 _) λb o hb e=>?_) mv') hS'' hm'';rw[sb.2 b (λz=>hb (z ▸ Rr))];exact e
noncomputable abbrev jW(w:World):Obj:={ cls:=.type "set",dict:=none,data:=.set #[] 0 (.fresh 0 0 (!aX w)) }
theorem Fp(x:Value)(h:Q (.ref s.heap.objs.size) { s with heap:=s.heap.push (jW w) }) :
  codeAny (model prog w) A (.call (.builtin "set.__new__") ⟨[.type "set",x],[]⟩) (wants Q E) s:=by
 refine codeAny_of_tree ?_;show wpAny _ A.in1 (do checkBuiltinCall "set.__new__" ⟨[.type "set",x],[]⟩;again (.builtin "set.__new__" ⟨[.type "set",x],[]⟩)) _ _ s;refine Ra (YQ (F.newCall_set_1 x) (Rm ⟨Tg F.plain_set_new _,SQ F.entry_set_new ?_⟩));rw[Sn F.plain_set_new _];unfold Uu.«set.__new__» Builtin.Frozenset.newClass;have hsub:=sub_set_self;obtain⟨hp,g,d,tk,os⟩:=s;dsimp only
 wp_walk
 refine Xr (Rm ?_);dsimp only;simp only[newObj];refine Ra (wpAny_alloc (Rm ?_));exact Rm h
set_option maxHeartbeats 3200000 in
theorem EN{l:Addr}(hh:A.handled=none)(hl:s.heap.IsList l items)(hi:V3 items.toList (ns.map λ(n:Nat)=>(n:Int)))(ZV:∀x∈ns,x<23)
  (h:∀ (h':Heap) (tk:Nat) (ks:AT),e8 h' s.heap.objs.size (!aX w) ks->(∀x,x∈ks↔x∈ns)->(∀b o,b<s.heap.objs.size->s.heap.get? b=some o->h'.get? b=some o)->Q (.ref s.heap.objs.size) { s with heap:=h',toks:=tk }) :
  wpAny (model prog w) A (call (.type "set") [.ref l]) Q E s:=by
 have hz:items.size=ns.length:=by
  have:=hi.length;rw[RZ,Rc]at this;o_rec
 obtain⟨c,tl,hmro⟩:=Vb.mro;have hmade:=Vb.made;have hsub:=Vb.sub;refine wpAny_call (codeAny_of_tree ?_);show wpAny _ _ (callAny (.type "set") _) _ _ _;refine Rm ⟨Code.quiet_builtin _ (by trivial),SQ F.entry_type_call ?_⟩
 rw[Around.under_plain (weight_type_call_type "set" [.ref l] []) rfl];have h1:=Vb.notType;have h2:=Vb.canCreate;have hct:=F.typeCall_set_1 (.ref l)
 repeat (any_goals (first|assumption|wp_step))
 refine V0 (Fp (.ref l) (E:=E) (Q:=λobj s₁=>obj=.ref s.heap.objs.size/\s₁={ s with heap:=s.heap.push (jW w) }) ⟨rfl,rfl⟩) λr s₁ hr=>?_;cases r with
 | error e=>exact hr
 | ok fl =>
  cases fl with
  | next=>exact hr.elim
  | brk=>exact hr.elim
  | cont=>exact hr.elim
  | ret obj =>
   obtain⟨rfl,rfl⟩:=hr;have hS:(s.heap.push (jW w)).get? s.heap.objs.size=some (jW w):=RC _ rfl;have hT:Yw { s with heap:=s.heap.push (jW w) } (.ref s.heap.objs.size) "set":=⟨_,hS,rfl⟩;have hli:=Vb.init.lookup;have hbi:=Vb.init.bind (.ref s.heap.objs.size)
   repeat (any_goals (first|assumption|wp_step))
   refine V0 (codeAny_call_builtin (R:=wants (λr s₂=>r=.none/\∃h' tk ks,s₂={ s with heap:=h',toks:=tk }/\e8 h' s.heap.objs.size (!aX w) ks/\(∀x,x∈ks↔x∈ns)/\∀b o,b<s.heap.objs.size->s.heap.get? b=some o->h'.get? b=some o) E) Vb.init.plain F.entry_set_init (check_set_init_1 hT ?_)) λr₂ s₂ hr₂=>?_
   .have hlS:l<s.heap.objs.size:=by obtain⟨_,ho,_⟩:=hl;exact Rv ho
    have hl1:(s.heap.push (jW w)).IsList l items:=hl.push _;obtain⟨⟨lc,ld,ldt,lsl⟩,hol,hcl,nl,hdl⟩:=id hl1;simp only at hcl hdl;subst hcl;subst hdl;have hsls:=F.sub_list_set;have hslf:=F.sub_list_frozenset;have Zj:(X6 "list" == X6 "dict")=false:=by decide
    unfold Uu.«set.__init__» noKeywords Builtin.Frozenset.updateFrom;generalize hPI:pyIter=PI
    wp_walk
    subst hPI;refine Vc hl1 (Ra (Yi ?_));have hh3:A.in1.in1.in1.handled=none:=by simp[hh]
    have z1:(s.heap.push (jW w)).objs.size=s.heap.objs.size+1:=S0 ..;have hval:∀ (i:Nat) (v:Value),items[i]?=some v->∃t,v=.int ((ns.getD i 0:Nat):Int) t:=λi v hv=>by
     obtain⟨t,e⟩:=IntsAre.int_at hi i v (by rw[Sy];exact hv)
     refine⟨t,?_⟩;rw[e,Rf,Rf,Ro];cases ns[i]? <;> rfl
    refine Hf (led:=!aX w) ((X9 hh3 _ l (by rw[z1];exact Ry (Sw hlS)) items).toS) s.heap.objs.size (by rw[z1];simp only[RA,Tb,or_false,not_or];exact⟨Ry (Tt _),T3 hlS⟩) (λi=>ns.getD i 0) hval (λi hil=>?_) (items.size - 0) 0 _ [] (by lia) (R5 _)
     ⟨⟨_,RC _ rfl,rfl,rfl⟩,(hl1.push _)⟩ ?hS0 (λx=>?_) ?hR
    .have:i<ns.length:=by lia
     rw[Rf,Q8 this];exact ZV _ (Sd this)
    case hS0=>exact⟨jW w,#[],0,.fresh 0 0 (!aX w),Rl _ hS,⟨rfl,rfl,rfl⟩,rfl,(λe he=>by cases he),Good.fresh _⟩
    .exact⟨(λz=>by cases z),λ⟨j,hj,_⟩=>absurd hj (UB _)⟩
    case hR =>
     intro s' ks mv Zz hm;obtain⟨h',g',d',tk',os'⟩:=s';have eg:g'=s.gens:=mv.gens;have ed:d'=s.drawn:=mv.drawn;have eo:os'=s.os:=mv.os;subst eg;subst ed;subst eo;refine Rm (Rm ⟨rfl,h',tk',ks,rfl,Zz,λx=>?_,λb o hb e=>?_⟩)
     .rw[hm x,hz];constructor
      .rintro⟨j,hj,e⟩;rw[Rf,Q8 hj]at e;rw[<- show ns[j]=x from e];exact Sd hj
      .intro hx;obtain⟨j,hj,e⟩:=Wh hx;exact⟨j,hj,by rw[Rf,Q8 hj];exact e⟩
     .exact mv.heap b o (by rw[z1];simp only[RA,Tb,or_false,not_or];exact⟨Ry hb,Ry (Sw hb)⟩) (Rl _ (Rl _ e))
   .cases r₂ with
    | error e=>exact hr₂
    | ok fl₂ =>
     cases fl₂ with
     | next=>exact hr₂.elim
     | brk=>exact hr₂.elim
     | cont=>exact hr₂.elim
     | ret r =>
      obtain⟨rfl,h',tk,ks,rfl,Zz,hm,Zv⟩:=hr₂
      repeat (any_goals (first|assumption|wp_step))
      exact h _ _ ks Zz hm Zv
end
theorem Ba:entryFor table "set.__iter__" = some Uu.«frozenset.__iter__»:=Yg (id':="frozenset.__iter__") (by kernel_rfl) rfl (by trivial) (by kernel_rfl)
theorem jt:Slot "set_iterator" "__next__" "set_iterator.__next__" :=
 .of (owner:="set_iterator") (n:="__next__") (by rw[Wk,U8];kernel_rfl) (by trivial) (by trivial) (by trivial)
  (by first|exact .inl (by trivial)|exact .inr (by trivial)) (by rw[Yf];kernel_rfl)
theorem xi:entryFor table "set_iterator.__next__" = some Uu.«set_iterator.__next__»:=entryFor_of_tree (by kernel_rfl)
theorem xQ:Manifest.owners.lookup (String.ofList ['r','o','t','a','r','e','t','i','_','t','e','s'].reverse)=some Manifest.sig_set_iterator:=by kernel_rfl
theorem w9(a:Value):argsOk "set_iterator.__next__" ⟨[a],[]⟩:=by
 unfold argsOk;rw[signature?_of (id:="set_iterator.__next__") (n:=['_','_','t','x','e','n','_','_']) (o:=['r','o','t','a','r','e','t','i','_','t','e','s']) (by kernel_rfl) xQ];kernel_rfl
noncomputable def cF(h:Heap)(it a:Addr)(slot i n ep:Nat):Prop:=h.get? it=some { cls:=.type "set_iterator",dict:=none,data:=.fields #[.int slot 0,.int i 0,.ref a,.int n 0,.int ep 0],slots:=#[] }
theorem Eo{α:Type}{l:List α}(h:i<l.length):(l[i] :: l.eraseIdx i).Perm l:=by
 have e:l=l.take i++l[i] :: l.drop (i+1):=by rw[List.getElem_cons_drop,Va]
 rw[List.eraseIdx_eq_take_drop_succ];exact Xq.symm.trans (List.Perm.of_eq e.symm)
theorem Dp{α:Type}(next:Nat->Nat):∀ (fuel k:Nat) (left:List α) (out:Array α),fuel=left.length->(YI next fuel k left out).toList.Perm (out.toList++left)
 | 0,k,left,out,h=>by
  have:left=[]:=Th.mp h.symm;subst this;unfold YI;simp
 | fuel+1,k,left,out,h=>by
  unfold YI;have hl:next k % left.length<left.length:=RT _ (by lia)
  rw[Q8 hl];dsimp only;refine(Dp next fuel (k+1) _ _ (by rw[List.length_eraseIdx,if_pos hl];lia)).trans ?_
  rw[Array.toList_push,Uw];exact List.Perm.append_left _ (Eo hl)
theorem Ha{α:Type}(next:Nat->Nat)(xs:Array α):(pickOrder next xs).toList.Perm xs.toList:=by
 have:=Dp next xs.size 0 xs.toList #[] (by simp)
 simpa[pickOrder] using this
noncomputable def jm(h:Heap)(a:Addr)(es:Y3)(ep:Nat)(t:TF):Prop:=∃o,h.get? a=some o/\o.ExactSet/\o.data=.set es ep t
noncomputable def dN(w:World)(a:Addr)(es:Y3)(ep:Nat):Y3:=if aX w=true then pickOrder (w.params.setOrder a ep) es else es
theorem yh :(dN w a es ep).toList.Perm es.toList:=by
 unfold dN
 split
 .exact Ha _ _
 .exact List.Perm.refl _
theorem mR :(dN w a es ep).size=es.size:=by
 have:=(yh (w:=w) (a:=a) (es:=es) (ep:=ep)).length_eq
 rwa[RZ,RZ]at this
noncomputable def slotAt(t:TF)(i:Nat):Nat:=if i=0 then 0 else t.place.getD (i - 1) 0+1
theorem below_at(g:Good led es t ks)(hi:i<=es.size):Sx t.place (slotAt t i)=i:=by
 obtain⟨h1,h2,h3⟩:=uy g.rise (slotAt t i);have z:=g.size;have gd:∀k,k<t.place.size->t.place[k]?=some (t.place.getD k 0):=λk hk=>by
  rw[R9 hk,TJ,R9 hk];rfl
 have mono:∀ (a b:Nat),a<b->b<t.place.size->t.place.getD a 0<t.place.getD b 0:=λa b hab hb=>by
  have ha:=gd a (by lia)
  have Zi:=gd b hb;rw[<- Sy]at ha Zi;obtain⟨x1,x2⟩:=Q9.mp ha;obtain⟨y1,y2⟩:=Q9.mp Zi;rw[<- x2,<- y2];exact R7.mp g.rise a b x1 y1 hab
 rcases S2 (Sx t.place (slotAt t i)) i with c|c|c
 .have q:=h3 (i - 1) _ (by lia) (gd (i - 1) (by lia))
  unfold slotAt at q;rw[if_neg (by lia)]at q
  lia
 .exact c
 .have q:=h2 i _ c (gd i (by lia))
  unfold slotAt at q
  split at q
  .lia
  .have:=mono (i - 1) i (by lia) (by lia)
   lia
theorem cF.typeIs{slot:Nat}(x:cF s.heap it a slot i n ep):s.TypeIs (.ref it) "set_iterator":=⟨_,x,rfl⟩
theorem tQ{Q:Bool->Rg->Prop}(h:Q (aX w) s):wpAny (model prog w) A setsByText Q E s:=by
 unfold setsByText;exact Ra (Xr (Rm h))
theorem Eu{Q:Array (Int×Value)->Rg->Prop}(g:Good (!aX w) es t ks)(hS:jm s.heap a es ep t)(ht:aX w=true)(hQ:Q (dN w a es ep) s):wpAny (model prog w) A (setWalk a) Q E s:=by
 walk_at "130";unfold setWalk;refine Ra (UE d! n! g.fits ?_);dsimp only;refine Ra (tQ ?_);rw[if_pos ht];refine Ra (Xr (Rm ?_));unfold dN at hQ;rw[if_pos ht]at hQ;exact hQ
theorem xj{sl:Nat}{Q:Option (Value×Nat)->Rg->Prop}(g:Good (!aX w) es t ks)(hS:jm s.heap a es ep t)(hi:i<=es.size)(hsl:aX w=false->sl=slotAt t i)
  (hQ:Q ((dN w a es ep)[i]?.map λe=>(e.2,if aX w=true then sl else slotAt t (i+1))) s):wpAny (model prog w) A (setNext a sl i ep) Q E s:=by
 walk_at "130";unfold setNext;refine Ra (UE d! n! g.fits ?_);dsimp only;refine Ra (tQ ?_);cases ht:aX w with
 | true =>
  rw[if_pos rfl,if_neg (by simp)]
  refine Ra (Eu g hS ht (Rm ?_));rw[ht]at hQ
  simpa using hQ
 | false =>
  rw[if_neg RE]
  split
  .rename_i hdr
   have:(!t.plain && decide (es.size > 1))=true:=hdr;rw[g.plain]at this;cases this
  refine Ra ?_;have hled:t.led=true:=by rw[g.led,ht];rfl
  show wpAny _ _ (if (!t.led && !es.isEmpty)=true then unsupported "set:maker-not-led" else pure ()) _ _ _;rw[if_neg (by rw[hled];exact RE)]
  refine Rm (Rm ?_);rw[hsl ht,below_at g hi];rw[ht]at hQ;unfold dN at hQ;rw[ht,if_neg RE,if_neg RE]at hQ;rcases Rz i es.size with c|c
  .have pl:i<t.place.size:=by rw[g.size];exact c
   rw[R9 c]at hQ ⊢;rw[R9 pl];have e1:slotAt t (i+1)=t.place[i]+1:=by
    unfold slotAt;rw[if_neg (by lia),Nat.add_sub_cancel,TJ,R9 pl]
    rfl
   rw[e1]at hQ;exact hQ
  .rw[TV c]at hQ ⊢;exact hQ
theorem Fm{Q:Option Value->Rg->Prop}(g:Good (!aX w) es t ks)(Zj:a≠it)(hit:cF s.heap it a (slotAt t i) i es.size ep\/(aX w=true/\∃sl,cF s.heap it a sl i es.size ep))(hS:jm s.heap a es ep t)(he:(dN w a es ep)[i]?=some e)
  (hQ:∀h',(cF h' it a (slotAt t (i+1)) (i+1) es.size ep\/(aX w=true/\∃sl,cF h' it a sl (i+1) es.size ep))->Vr it s.heap h'->Q (some e.2) { s with heap:=h' }) :
  wpAny (model prog w) A (pyNext (.ref it)) Q E s:=by
 obtain⟨sl,d5,hsl⟩:∃sl,cF s.heap it a sl i es.size ep/\(aX w=false->sl=slotAt t i):=by
  rcases hit with z|⟨z,sl,z'⟩
  .exact⟨_,z,λ_=>rfl⟩
  .exact⟨sl,z',λc=>by rw[z]at c;cases c⟩
 have ho:=d5;unfold cF at ho;walk_at "130";unfold pyNext;refine Ra (Wb (UP (name:=Vu "__next__") d5.typeIs jt (TM jt d5.typeIs xi ?_ (w9 _))));show wpAny _ _ (fieldsOf (.ref it) >>= _) _ _ s;refine Ra (wpAny_fieldsOf ho rfl ?_);dsimp only;refine Ra (Ra (UE d! n! g.fits (Rm ?_)));dsimp only;rw[if_neg (by simp)]
 have hi:i<es.size:=by
  have:=(Wx.mp he).1
  rwa[mR]at this
 rw[S1,S1,S1];refine Ra (xj g hS (TL hi) hsl ?_);rw[he];show wpAny _ _ (setField (RN it) 0 _ >>= _) _ _ _;refine Ra (VD ho (by show 0<5;decide) λh1 e1 b1=>?_)
 refine Ra (VD (s:={ s with heap:=h1 }) e1 (by show 1<5;decide) λh2 e2 b2=>?_)
 refine Rm ⟨_,rfl,Rm (hQ h2 ?_ (b1.trans b2))⟩;cases ht:aX w with
 | true =>
  refine .inr ⟨rfl,sl,?_⟩;rw[ht]at e2;exact e2
 | false =>
  rw[ht]at e2;exact .inl e2
theorem G8{Q:Option Value->Rg->Prop}(hh:A.handled=none)(g:Good (!aX w) es t ks)(hit:cF s.heap it a (slotAt t es.size) es.size es.size ep\/(aX w=true/\∃sl,cF s.heap it a sl es.size es.size ep))(hS:jm s.heap a es ep t)
  (hQ:∀h',Heap.ExtBut it s.heap h'->Q none { s with heap:=h' }):wpAny (model prog w) A (pyNext (.ref it)) Q E s:=by
 obtain⟨sl,d5,hsl⟩:∃sl,cF s.heap it a sl es.size es.size ep/\(aX w=false->sl=slotAt t es.size):=by
  rcases hit with z|⟨z,sl,z'⟩
  .exact⟨_,z,λ_=>rfl⟩
  .exact⟨sl,z',λc=>by rw[z]at c;cases c⟩
 have ho:=d5;unfold cF at ho;walk_at "130";unfold pyNext;refine Ra (Wb (UP (name:=Vu "__next__") d5.typeIs jt (TM jt d5.typeIs xi ?_ (w9 _))));show wpAny _ _ (fieldsOf (.ref it) >>= _) _ _ s;refine Ra (wpAny_fieldsOf ho rfl ?_);dsimp only;refine Ra (Ra (UE d! n! g.fits (Rm ?_)));dsimp only;rw[if_neg (by simp)]
 rw[S1,S1,S1];refine Ra (xj g hS (Ru _) hsl ?_);rw[TV (by rw[mR];exact Ru _)]
 show wpAny _ _ (setField (RN it) 2 _ >>= _) _ _ _;refine Ra (VD ho (by show 2<5;decide) λh1 e1 b1=>?_)
 refine Ra ?_;simp only[newExc,newTuple];refine Ra (TY ?_ (by size_fits))
 refine Ra (m:=firstArgMember _ _) (YQ (a:=SF) (by first|rfl|(simp only[firstArgMember];rfl)) ?_)
 refine TY ?_ (by size_fits)
 simp only[raiseNew];refine Ra (wpAny_handled ?_);rw[show A.in1.handled=none from hh];refine Ra (Rm (wpAny_throw ?_));refine Ra (V5 (T:="StopIteration") (b:=true) ⟨_,RC _ rfl,rfl⟩ isSubtype_stop ?_);exact Rm (hQ _ ((b1.extBut.push _).push _))
theorem uR:Slot "set_iterator" "__iter__" "set_iterator.__iter__" :=
 .of (owner:="set_iterator") (n:="__iter__") (by rw[Wk,U8];kernel_rfl) (by trivial) (by trivial) (by trivial)
  (by first|exact .inl (by trivial)|exact .inr (by trivial)) (by rw[Yf];kernel_rfl)
theorem B0:entryFor table "set_iterator.__iter__" = some Uu.«dict_keyiterator.__iter__»:=Yg (id':="dict_keyiterator.__iter__") (by kernel_rfl) rfl (by trivial) (by kernel_rfl)
theorem CJ(a:Value):argsOk "set_iterator.__iter__" ⟨[a],[]⟩:=by
 unfold argsOk;rw[signature?_of (id:="set_iterator.__iter__") (n:=['_','_','r','e','t','i','_','_']) (o:=['r','o','t','a','r','e','t','i','_','t','e','s']) (by kernel_rfl) xQ];kernel_rfl
noncomputable def oN(w:World)(h:Heap)(it a:Addr)(t:TF)(i n ep:Nat):Prop:=cF h it a (slotAt t i) i n ep\/(aX w=true/\∃sl,cF h it a sl i n ep)
theorem oN.typeIs(x:oN w s.heap it a t i n ep):s.TypeIs (.ref it) "set_iterator":=by
 rcases x with z|⟨_,sl,z⟩ <;> exact⟨_,z,rfl⟩
theorem oN.keep(x:oN w h it a t i n ep)(k:∀o,h.get? it=some o->h'.get? it=some o):oN w h' it a t i n ep:=by
 rcases x with z|⟨c,sl,z⟩
 .exact .inl (k _ z)
 .exact .inr ⟨c,sl,k _ z⟩
theorem jm.keep(x:jm h a es ep t)(k:∀o,h.get? a=some o->h'.get? a=some o):jm h' a es ep t:=let ⟨o,ho,r⟩:=x;⟨o,k _ ho,r⟩
theorem Fz(hh:A.handled=none)(I a:Addr)(Zj:a≠I)(g:Good (!aX w) es t ks) :
  Walks prog w A I [I,a] [I] es.size (λi v=>∃e,(dN w a es ep)[i]?=some e/\v=e.2) (λi h=>oN w h I a t i es.size ep/\jm h a es ep t) where
 sub:=λb hb=>by simp at hb;simp[hb]
 frame:=λi h h' st hk=>⟨st.1.keep λo e=>hk I (by simp) o e,st.2.keep λo e=>hk a (by simp) o e⟩
 item:=λi s Q E hi st hQ=>by
  have hl:i<(dN w a es ep).size:=by rw[mR];exact hi
  refine Fm g Zj st.1 st.2 (R9 hl) λh' it' sb=>?_;exact hQ _ h' s.toks ⟨_,R9 hl,rfl⟩ ⟨it',st.2.keep λo e=>(sb.2 a Zj).trans e⟩ λb o hb e=>(sb.2 b (λz=>hb (by simp[z]))).trans e
 done:=λs Q E st hQ=>G8 hh g st.1 st.2 λh' he=>hQ h' s.toks λb o hb e=>he b o (λz=>hb (by simp[z])) e
 self:=λi s Q E st hQ=>by
  refine wpAny_pyIter_slot st.1.typeIs uR (TM uR st.1.typeIs B0 ?_ (CJ _));show wpAny _ _ (ret (.ref I)) _ _ s;exact Rm ⟨_,rfl,"set_iterator",_,st.1.typeIs,jt.lookup,hQ⟩
theorem En(g:Good (!aX w) es t ks)(hS:jm s.heap a es ep t)
  (hQ:∀h',oN w h' s.heap.objs.size a t 0 es.size ep->(∀b o,s.heap.get? b=some o->h'.get? b=some o)->h'.objs.size=s.heap.objs.size+1->Q (.ref s.heap.objs.size) { s with heap:=h' }) :
  wpAny (model prog w) A (pyIter (.ref a)) Q E s:=by
 walk_at "130";have hT:s.TypeIs (.ref a) "set":=⟨os,d!,hex.1⟩;refine wpAny_pyIter_slot hT F.slot_set_iter (TM F.slot_set_iter hT Ba ?_ (F.args_set_iter_1 _));unfold Uu.«frozenset.__iter__» Builtin.Frozenset.slot0 slotArgs;simp only[List.isEmpty_nil,Bool.not_true,Sv,↓reduceIte,bind_assoc,VB,bne_self_eq_false];unfold Builtin.Frozenset.addrOf Builtin.Frozenset.sizeOf setDrawn;refine Ra (Rm ?_);dsimp only;refine Ra (Rm ?_);refine Ra (Ra (wpAny_setEntries_of d! n! g.fits (Rm ?_)));refine Ra (Ra (UE d! n! g.fits ?_));dsimp only;refine Ra (tQ (Rm ?_));have dr:∀b:Bool,(b && (!t.plain && decide (es.size > 1)))=false:=λb=>by rw[g.plain];cases b <;> rfl
 split
 .rename_i hc
  have:(!aX w && (!t.plain && decide (es.size > 1)))=true:=hc;rw[dr]at this;cases this
 refine Ra (Rm ?_);refine Ra (wpAny_setEpoch_of d! n! g.fits ?_);refine Ra (TY (Rm ⟨_,rfl,"set_iterator",_,⟨_,RC _ rfl,rfl⟩,jt.lookup,?_⟩));exact hQ _ (.inl (RC _ rfl)) (λb o e=>Rl _ e) (S0 ..)
theorem Cu{Q:List Value->Rg->Prop}(hh:A.handled=none)(g:Good (!aX w) es t ks)(hS:jm s.heap a es ep t)
  (hQ:∀ (h':Heap) (tk:Nat),s.heap.objs.size<=h'.objs.size->(∀b o,s.heap.get? b=some o->h'.get? b=some o)->Q ((dN w a es ep).toList.map (·.2)) { s with heap:=h',toks:=tk }):wpAny (model prog w) A (collect (.ref a)) Q E s:=by
 have Zw:=ig g.nd g.lt;have el:=g.len;walk_at "130";have alt:a<s.heap.objs.size:=Rv d!;unfold collect;refine Ra (Yi (SQ XU ?_));rw[Sn XW _];show wpAny _ A.in1 (newList [] >>= λl=>again (.builtin "list.__iadd__" ⟨[l,.ref a],[]⟩)) _ _ s;refine Ra (TY ?_);refine Rm ⟨Tg VT _,SQ F.entry_list_iadd ?_⟩;rw[Sn VT _];show wpAny _ A.in1 (SW (.ref s.heap.objs.size) (.ref a) (.ref s.heap.objs.size)) _ _ _;generalize ZG:s.heap.push { cls:=.type "list",data:=.seq ([]:Y7).toArray }=h1;have o1:h1.get? s.heap.objs.size=some { cls:=.type "list",data:=.seq ([]:Y7).toArray }:=by rw[<- ZG];exact RC _ rfl
 have k1:∀b o,s.heap.get? b=some o->h1.get? b=some o:=λb o e=>by rw[<- ZG];exact Rl _ e
 have z1:h1.objs.size=s.heap.objs.size+1:=by rw[<- ZG];exact S0 ..
 have hS1:jm h1 a es ep t:=hS.keep λo e=>k1 _ _ e;unfold SW;have hT1:Yw { s with heap:=h1 } (.ref a) "set":=⟨os,k1 _ _ d!,hex.1⟩;refine Ra (Vt hT1 ?_);have nS:UA (.ref s.heap.objs.size) (.ref a)=false:=by
  have:s.heap.objs.size≠a:=T3 alt;simp[UA,this]
 rw[if_neg (by rw[nS];decide)]
 refine Ra (En g hS1 λh2 it2 k2 z2=>?_);have o2:=k2 _ _ o1;have hT2:Yw { s with heap:=h2 } (.ref a) "set":=⟨os,k2 _ _ (k1 _ _ d!),hex.1⟩;refine Ra (SA ?_);unfold Wl;refine Ra (Wi hT2 F.slot_set_len.lookup ?_);generalize hid:("set.__len__" : String)=id0
 (fail_if_success (clear hid id0))
 wp_delta
 rw[show splitId id0=some ("set","__len__") from by subst hid;decide +kernel]
 subst hid;refine Ra (V5 (b:=true) hT2 sub_set_self ?_);show wpAny _ _ (typeOf (.ref a) >>= _) _ _ _;refine Ra (Vt hT2 ?_);refine Rm ?_;show wpAny _ A.in1 (rule "list.extend.makes-room" >>= λ_=>Builtin.List.listTouch (.ref s.heap.objs.size) >>= λ_=>again (.builtin "list.extend.loop" ⟨[.ref s.heap.objs.size,.ref h1.objs.size,.ref s.heap.objs.size],[]⟩)) _ _ _;refine Ra (X7 (Ra ?_));show wpAny _ A.in1 (updateSeq s.heap.objs.size (·.push .none) >>= λ_=>updateSeq s.heap.objs.size (·.pop)) _ _ _;refine Ra (U9 o2 rfl ?_);have o3:=S7 (RY (·.push SF)) o2 rfl;refine U9 (hz:=by seq_fits) o3 rfl ?_
 have o4:=S7 (RY (·.pop)) o3 rfl;have k4:∀b o,b≠s.heap.objs.size->h2.get? b=some o->((h2.update s.heap.objs.size (RY (·.push SF))).update s.heap.objs.size (RY (·.pop))).get? b=some o :=
  λb o hb e=>(SI _ _ (TR hb)).trans ((SI _ _ (TR hb)).trans e)
 have ne1:h1.objs.size≠s.heap.objs.size:=by rw[z1];exact T3 (Tt _)
 have ne2:a≠s.heap.objs.size:=Ry alt;have ne3:a≠h1.objs.size:=by rw[z1];exact Ry (Sw alt)
 have W:=(Fz (prog:=prog) (A:=A.in1) (by simp[hh]) h1.objs.size a ne3 (ep:=ep) g).toS
 refine Rm ⟨Tg Yn _,Yc W (by rw[RO];lia) s.heap.objs.size (by simp only[RA,Tb,or_false,not_or];exact⟨TR ne1,TR ne2⟩) _ es.size 0 _ _ _ rfl (R5 _)
  ⟨it2.keep λo e=>k4 _ _ ne1 e,(hS1.keep λo e=>k2 _ _ e).keep λo e=>k4 _ _ ne2 e⟩ o4 (ItemsOf.nil _) λs' acc c' mv o5 items=>?_⟩
 obtain⟨h',g',d',tk',os'⟩:=s';have eg:g'=s.gens:=mv.gens;have ed:d'=s.drawn:=mv.drawn;have eo:os'=s.os:=mv.os;subst eg;subst ed;subst eo;show wpAny _ A (load s.heap.objs.size >>= _) _ _ _;refine Ra (wpAny_load o5 (Rm ?_));have ea:acc.toList=(dN w a es ep).toList.map (·.2):=by
  refine SV λj=>?_;rw[Ro,Sy,Sy];rcases Rz j acc.size with c|c
  .have q:=R9 c;obtain⟨e,he,ev⟩:=items.2 j _ q;rw[q,he,ev];rfl
  .rw[TV c,TV (by rw[mR,<- items.1];exact c)]
   rfl
 rw[ea];refine hQ h' tk' (TL (Rv o5)) λb o e=>mv.heap b o ?_ (k4 b o ?_ (k2 _ _ (k1 _ _ e)))
 .have:=Rv e;simp only[RA,Tb,or_false,not_or];exact⟨Ry this,by rw[z1];exact Ry (Sw this)⟩
 .exact Ry (Rv e)
theorem xI:∀ {es:List (Int×Value)},(∀e∈es,∃ (k:Nat) (tk:Tok),k<23/\e=((k:Int),Ui (k:Int) tk))->V3 (es.map (·.2)) ((es.map λe=>e.1.toNat).map λ(k:Nat)=>(k:Int))
 | [],_=>.nil
 | e :: es,h=>by
  obtain⟨k,tk,_,rfl⟩:=h e Rr;exact .cons _ _ (xI λe he=>h e (Rp _ he))
theorem HU{es:List (Int×Value)}(h:es.map (·.1)=ks.map λ(k:Nat)=>(k:Int)):es.map (λe=>e.1.toNat)=ks:=by
 have:=congrArg (List.map WZ) h;rw[T4,T4]at this;have e:(WZ ∘ λ(k:Nat)=>(k:Int))=id:=by funext n;rfl
 rw[e,Wg]at this;o_rec
theorem EI(hh:A.handled=none)(hS:e8 s.heap a (!aX w) ks)
  (h:∀ (h':Heap) (tk:Nat) (d:Addr) (out:Z2) (c:Nat) (l:AT),V3 out.toList (l.map λ(k:Nat)=>(k:Int))->l.Perm ks->l.Pairwise (·<=·)->s.heap.objs.size<=d->h'.get? d=some (seqObj "list" out c)->(∀b o,s.heap.get? b=some o->h'.get? b=some o)->Q (.ref d) { s with heap:=h',toks:=tk }) :
  wpAny (model prog w) A (call (.builtin "sorted") [.ref a]) Q E s:=by
 obtain⟨o,es,ep,t,ho,hex,hd,l!,g⟩:=hS;have Zw:=ig g.nd g.lt;have el:=g.len;refine Vl Yp XX XY (YJ _) ?_;l_fit;refine Ra (Cu (by simp[hh]) g ⟨o,ho,hex,hd⟩ λh1 tk1 kz k1=>?_)
 have wp:=yh (w:=w) (a:=a) (es:=es) (ep:=ep);have hI:=xI (es:=(dN w a es ep).toList) λe he=>l! e (wp.mem_iff.mp he);have kp:((dN w a es ep).toList.map λe=>e.1.toNat).Perm ks:=by
  have:=wp.map λe=>e.1.toNat
  rwa[HU g.keys]at this
 generalize (dN w a es ep).toList.map (λe=>e.1.toNat)=kw at hI kp;generalize hv:(dN w a es ep).toList.map (·.2)=vs at hI;have vl:vs.length<64:=by
  have:=hI.length;rw[Rc,kp.length_eq]at this;lia
 refine Ra (VG ?_);have oL:(h1.push (seqObj "list" vs.toArray 0)).get? h1.objs.size=some (seqObj "list" vs.toArray 0):=RC _ rfl;refine Ra (SA (TM WR ⟨_,oL,rfl⟩ Ws (list_sort_tree oL hI vl λout U' a1 a2 a3=>⟨_,rfl,?_⟩) (Yj _)));obtain⟨c,hc⟩:=sortedHeap_at (out:=out) oL;obtain⟨l,rfl,lp⟩:=qJ a2;refine Rm ⟨_,rfl,h _ tk1 _ out c l a1 (lp.trans kp) ?_ kz hc λb ob e=>?_⟩
 .rw[Vd]at a3;exact a3.imp λz=>by lia
 .have e1:=k1 _ _ e;rw[sortedHeap_old (Ry (Rv e1)) (by rw[S0];exact Sw (Rv e1))]
  exact Rl _ e1
theorem e8.there(x:e8 h a led ks):∃o,h.get? a=some o:=let ⟨o,_,_,_,ho,_⟩:=x;⟨o,ho⟩
theorem e8.nd(x:e8 h a led ks):ks.Nodup/\∀k∈ks,k<23:=let ⟨_,_,_,_,_,_,_,_,g⟩:=x;⟨g.nd,g.lt⟩
theorem e8.keep(x:e8 h a led ks)(k:∀o,h.get? a=some o->h'.get? a=some o):e8 h' a led ks:=let ⟨o,es,ep,t,ho,r⟩:=x;⟨o,es,ep,t,k _ ho,r⟩
noncomputable abbrev fC(w:World)(a:Addr)(ks:AT):HO:=.ext λh=>e8 h a (!aX w) ks
theorem K2{P:RB}(e:e8 h a (!aX w) ks):bR P w H h a (fC w a ks) :=
 ⟨e,e.there,λ_ _ x k=>x.keep k⟩
noncomputable def EJ(w:World)(K:Q7):List V->Hp->VK->Prop:=λxs H Q=>∃ (p:Addr) (ns:AT),xs=[.ref p]/\SqL K H p ((ns.map λ(n:Nat)=>(n:Int)).map V.int)/\(∀x∈ns,x<23) /\
 ∀ (a:Addr) (ks:AT),H a=none->(∀x,x∈ks↔x∈ns)->ks.Nodup->Q (.ref a) (upd H a (fC w a ks))
theorem G5(hc:X.calm=true):cz X (.type "set") (EJ X.w X.K):=by
 k_asm;obtain⟨p,ns,rfl,hS,ZV,q⟩:=h;f_int;have hi:=pb rv;refine EN (I.ok.hd hc) pl.isList (by simpa using hi) ZV λh' tk ks hG hm hk=>?_
 exact⟨.ref s.heap.objs.size,_,I.laid (o:=fC X.w s.heap.objs.size ks) (λb o e=>hk b o (Rv e) e) (Ru _) (K2 hG),rfl,q _ ks (I.hok.fresh (Ru _)) hm hG.nd.1⟩
theorem uV(K:Q7)(hK:X.K=K)(w:World)(hw:X.w=w)(hc:X.calm=true):cz X (.type "set") (EJ w K):=by subst hK;subst hw;exact G5 hc
noncomputable def tI(w:World):List V->Hp->VK->Prop:=λxs H Q=>∃ (a:Addr) (ks:AT),xs=[.ref a]/\H a=some (fC w a ks) /\
 ∀ (d:Addr) (l:AT),H d=none->l.Perm ks->l.Pairwise (·<=·)->Q (.ref d) (upd H d (.lst (au l)))
theorem AD(hc:X.calm=true):cz X (.builtin "sorted") (tI X.w):=by
 k_asm;obtain⟨a,ks,rfl,hx,q⟩:=h;obtain⟨u,rfl,ru⟩:=vals1 r;cases(show u=RN a from ru);obtain⟨p,_,_⟩:=(show bR X.prog X.w H s.heap a (fC X.w a ks) from I.hok a _ hx);have hG:e8 s.heap a (!aX X.w) ks:=p;have Zw:=ig hG.nd.1 hG.nd.2;refine EI (I.ok.hd hc) hG λh' tk d out c l a1 a2 a3 hd ho hk=>?_;have hn:H d=none:=I.hok.fresh hd;refine⟨.ref d,_,I.laid (o:=.lst (au l)) hk hd ⟨?_,out.toList,c,?_,?_⟩,rfl,q d l hn a2 a3⟩
 .unfold au;rw[Rc,a2.length_eq];exact small (by lia)
 .rw[i7];exact mn a1
 .simpa[seqObj] using ho
theorem pK(w:World)(hw:X.w=w)(hc:X.calm=true):cz X (.builtin "sorted") (tI w):=by subst hw;exact AD hc
section
variable {Q:VK}{v:V} 
theorem Fw(h:At K H v l)(ZV:∀x∈l,x<23)(q:∀ (a:Addr) (ks:AT),H a=none->(∀x,x∈ks↔x∈l)->ks.Nodup->Q (.ref a) (upd H a (fC w a ks))):EJ w K [v] H Q:=by
 obtain⟨p,rfl,hS⟩:=lz h;have e:=i7 l;unfold au at e;exact⟨p,l,rfl,by rw[<- e];exact hS,ZV,q⟩
theorem xV(h:H a=some (fC w a ks))(q:∀ (d:Addr) (l:AT),H d=none->l.Perm ks->l.Pairwise (·<=·)->Q (.ref d) (upd H d (.lst (au l)))):tI w [.ref a] H Q:=⟨a,ks,rfl,h,q⟩
end
section
variable {elt tg iter:Expr}{g:TG} 
theorem dP{py iz:Pos}(hc:X.calm=true)(hN:X.N.Nodup)(ZJ:X.N[i]?=some y)(hy:Loc X.env.scope y)(S:aT X.env.scope X.N scope own fr)(hi:PI X tg iter wi)
  (hb:∀C s₂ H₂ fp,PG (cA X scope own fr C s₂ H₂ fp) tg g/\PIf (cA X scope own fr C s₂ H₂ fp) ifs tt/\PE (cA X scope own fr C s₂ H₂ fp) elt te)
  (hsw:swapsWith (.ListComp elt [⟨tg,iter,ifs,0⟩] scope pos) (some (.Name y py)) iz.line X.env=pure true)
  (hs:∀x,foldedSetIterable iter X.env x=pure x:=by intro _;rfl) (hf:X.fn y=true\/X.env.scope.names.lookup y=some .local:=by first|exact .inl rfl|exact .inr rfl|assumption) :
  PS X (.Assign [.Name y py] (.ListComp elt [⟨tg,iter,ifs,0⟩] scope pos) iz) (Bh (zq own fr wi g tt te) (eQ i)):=by
 l_idx;rw[exec_Assign_Name_used _ _ _ _ hsw];refine Ra (Wa (Ra ?_));show wpAny _ X.A (do let _ <- comprehension (.ListComp elt [⟨tg,iter,ifs,0⟩] scope pos) scope X.env _ (newList []) false (eval iter X.env) (some (assign (.Name y py) X.env))) _ _ s;refine Ra (TX (W2 (use:=some (assign (.Name y py) X.env)) (Q:=λ_ s'=>SP X Za D .next s') rfl hs (C7 (S.cells I.ok)) S.kind S.names ?_) (λ_ s' hq=>Rm (Rm hq)) λ_ _ e=>e);refine vd (RR:=λacc C=>compPost (model X.prog X.w) X.A X.xe (some (assign (.Name y py) X.env)) (λ_ s'=>SP X Za D .next s') acc C) hc S hi hb I h ?_;intro D' C s' H' m' I' q f hn;show wpAny _ _ (assign (.Name y py) X.env (.ref D')) _ _ _;refine wpAny_assign_Name (yb I' hN ZJ hy (v:=.ref D') rfl (λs2 I2 ⟨a,sb,ha⟩=>?_) hf);obtain⟨f0,f1,f2,f3,f4,f5⟩:=f;have hCa:C≠a:=by
  rcases ha with e|e
  .rw[e];exact f1
  .exact λz=>f4 y a e z.symm
 refine⟨m',hn.sameBut sb hCa,λh' sb'=>?_⟩;exact⟨_,H',I2.turned (t':=s2.toks) (λb o hb e=>(sb'.2 b hb).trans e) f0 f1 f3 f4 f5,q⟩
end
section
variable {t:Nat} 
end
section
variable {x:Addr} 
end
section
variable {σ:St}{i dx:Addr}{f:Str}{y:V}{u:Value} 
end
section
variable {env:Env}{Q:Flow->Rg->Prop}
end
section
variable {σ:St}{E:XK} 
end
section
open PySem.Calls PySem.Builtin PySem.Builtin.ObjectAttr
variable {x dx:Addr}{t:Nat} 
end
section
variable {σ:St}{Q:VK}{D:Ends}{ta tv:TE}{tA:TA}{f:Str}{E:XK} 
end
section
variable {P:RB}{base:Heap}{x qual:Str}{fd:SO}{N:Z0} 
end
section
variable {x:Str}{j:Nat}{p:Pos}{e:Expr}{es:Y8}{t:TA}{E:XK}
end
section
variable {fr:Y9}{s₂:Rg}{H₂:Hp}{E:XK}{σ:St}
end
section
variable {elt tg iter:Expr}{g:TG} 
end
end L2
namespace L2
open PySem PySem.W PyProof.Rows
noncomputable def fP{α:Type}(lt:Nat->Nat->Bool):KasT α->α
 | .ret a=>a
 | .ask i j k=>fP lt (k (lt i j))
theorem iN{α β:Type}(lt:Nat->Nat->Bool)(f:α->KasT β):∀t:KasT α,fP lt (t.bind f)=fP lt (f (fP lt t))
 | .ret _=>rfl
 | .ask i j k=>iN lt f (k (lt i j))
theorem iJ{α:Type}{lt:Nat->Nat->Bool}{c:Prop}[Decidable c]{t u:KasT α}{p:α->Prop}(h1:p (fP lt t))(h2:p (fP lt u)):p (fP lt (if c then t else u)):=by
 split
 .exact h1
 .exact h2
section
variable {lt:Nat->Nat->Bool}{p:Z3}{n m:Nat}
theorem getD_eq{p:Z3}{i:Nat}:p.getD i 0=(p[i]?).getD 0:=by
 by_cases h:i<p.size <;> simp[Array.getD,h]
theorem oO{i j:Nat}:(kas_rev p i j).Perm p:=mirror_perm _ _ _ _
theorem oZ:∀f (p:Z3) n q,(fP lt (kas_desc f p n q)).1.Perm p
 | 0,_,_,_=>UG _
 | f+1,p,n,q=>iJ (p:=λ(r:Z3×Nat×Nat)=>r.1.Perm p) (iJ (p:=λ(r:Z3×Nat×Nat)=>r.1.Perm p) ((oZ f _ _ _).trans oO) (oZ f _ _ _)) (iJ (p:=λ(r:Z3×Nat×Nat)=>r.1.Perm p) (UG _) (oZ f _ _ _))
theorem Bq:(fP lt (kas_tail3 n m p)).2.Perm p:=by
 unfold kas_tail3;rw[iN];exact oO
theorem rg:(fP lt (YK n m p)).2.Perm p:=by
 unfold YK;rw[iN];have:=oZ (lt:=lt) (m - (n+1)) p (n+1) 0;exact iJ (p:=λ(r:Nat×Z3)=>r.2.Perm p) (Bq.trans (oO.trans this)) (Bq.trans this)
theorem xR:(fP lt (kas_count m p)).2.Perm p:=by
 unfold kas_count;rw[iN];exact iJ (p:=λ(r:Nat×Z3)=>r.2.Perm p) (UG _) (iJ (p:=λ(r:Nat×Z3)=>r.2.Perm p) (iJ (p:=λ(r:Nat×Z3)=>r.2.Perm p) (UG _) (rg.trans oO)) rg)
theorem CN:∀f (p:Z3) k,(fP lt (kas_bin f p k)).Perm p
 | 0,_,_=>UG _
 | f+1,p,k=>by
  unfold kas_bin;rw[iN];exact(CN f _ _).trans (bubble_perm _ _ _)
theorem zO:(fP lt (Wd n)).Perm (R1 (Rh n)):=by
 unfold Wd;rw[iN];exact iJ (p:=λ(r:Z3)=>r.Perm _) ((CN _ _ _).trans xR) xR
end
end L2
namespace L2
end L2
namespace L2
open PySem PySem.W PySem.Spec PyProof.Rows
variable {p:Z3}{vs:Y7}{n:Nat}{cmp:Nat->Nat->(Bool->Rg->Prop)->Rg->Prop}{lt:Nat->Nat->Bool}{s:Rg}{E Q:Value->Rg->Prop}{P:YR->Rg->Prop}
noncomputable def InR{α:Type}(n:Nat)(G:α->Prop):KasT α->Prop
 | .ret a=>G a
 | .ask i j k=>i<n/\j<n/\∀b,InR n G (k b)
theorem InR.bind{α β:Type}{n:Nat}{G:α->Prop}{G':β->Prop}{f:α->KasT β}:∀ {t:KasT α},InR n G t->(∀a,G a->InR n G' (f a))->InR n G' (t.bind f)
 | .ret a,h,hf=>hf a h
 | .ask _ _ _,h,hf=>⟨h.1,h.2.1,λb=>InR.bind (h.2.2 b) hf⟩
noncomputable def Below(n:Nat)(p:Z3):Prop:=∀i,p.getD i 0<n
theorem qf(h1:0<n):Below n p↔∀x∈p,x<n:=by
 constructor
 .intro h x hx;obtain⟨i,hi,rfl⟩:=Array.mem_iff_getElem.mp hx;have:=h i;rw[getD_eq,R9 hi]at this;o_rec
 .intro h i;rw[getD_eq]
  by_cases c:i<p.size
  .rw[R9 c];exact h _ (Array.getElem_mem c)
  .rw[TV (by lia)]
   exact h1
theorem ve{p':Z3}(h1:0<n)(hp:p'.Perm p)(h:Below n p):Below n p':=(qf h1).mpr λx hx=>(qf h1).mp h x (hp.mem_iff.mp hx)
theorem jV{i j:Nat}(h1:0<n)(h:Below n p):Below n (kas_rev p i j):=ve h1 (mirror_perm _ _ _ _) h
theorem wm{p:Z3}(h:Below n p):∀f k,InR n (λ_=>True) (kas_asc p f k)
 | 0,k=>trivial
 | f+1,k=>⟨h _,h _,λb=>by
  cases b with
  | true=>simp only[if_true];trivial
  | false=>simp only[Sv,if_false];exact wm h f (k+1)⟩
theorem pE(h1:0<n):∀f (p:Z3) k q,Below n p->InR n (λr=>Below n r.1) (kas_desc f p k q)
 | 0,p,k,q,h=>h
 | f+1,p,k,q,h=>⟨h _,h _,λb=>by
  cases b with
  | true =>
   simp only[if_true]
   split
   .exact pE h1 f _ _ _ (jV h1 h)
   .exact pE h1 f _ _ _ h
  | false =>
   simp only[Sv,if_false];exact⟨h _,h _,λb=>by
    cases b with
    | true=>simp only[if_true];exact h
    | false=>simp only[Sv,if_false];exact pE h1 f _ _ _ h⟩⟩
theorem BB(h1:0<n)(h:Below n p)(k m:Nat):InR n (λr=>Below n r.2) (kas_tail3 k m p) :=
 (wm (jV h1 h) _ _).bind λ_ _=>jV h1 h
theorem qt(h1:0<n)(h:Below n p)(k m:Nat):InR n (λr=>Below n r.2) (YK k m p) :=
 (pE h1 _ _ _ _ h).bind λr hr=>by
  split
  .exact BB h1 (jV h1 hr) _ _
  .exact BB h1 hr _ _
theorem FI(h1:0<n)(h:Below n p)(m:Nat):InR n (λr=>Below n r.2) (kas_count m p) :=
 (wm h _ _).bind λk _=>by
  split
  .exact h
  .split
   .exact⟨h _,h _,λb=>by
     cases b with
     | true=>simp only[if_true];exact h
     | false=>simp only[Sv,if_false];exact qt h1 (jV h1 h) _ _⟩
   .exact qt h1 h _ _
theorem qZ{p:Z3}(h:Below n p)(k:Nat):∀f l r,InR n (λ_=>True) (kas_place p k f l r)
 | 0,l,r=>trivial
 | f+1,l,r=>by
  unfold kas_place
  split
  .trivial
  .exact⟨h _,h _,λb=>by
    cases b with
    | true=>simp only[if_true];exact qZ h k f _ _
    | false=>simp only[Sv,if_false];exact qZ h k f _ _⟩
theorem DC(h1:0<n):∀f (p:Z3) k,Below n p->InR n (λ_=>True) (kas_bin f p k)
 | 0,p,k,h=>trivial
 | f+1,p,k,h=>(qZ h k _ _ _).bind λl _=>DC h1 f _ _ (ve h1 (bubble_perm _ _ _) h)
theorem Au(h1:0<n):InR n (λ_=>True) (Wd n):=by
 unfold Wd;refine(FI h1 ((qf h1).mpr λx hx=>by simpa using hx) n).bind λr hr=>?_
 split
 .exact DC h1 _ _ _ hr
 .trivial
theorem ni{α:Type}{cmp:Nat->Nat->(Bool->Rg->Prop)->Rg->Prop}{lt:Nat->Nat->Bool}{n:Nat}{s:Rg}{G:α->Prop}(hc:∀i j (C:Bool->Rg->Prop),i<n->j<n->C (lt i j) s->cmp i j C s){Q:α->Rg->Prop}:∀t:KasT α,InR n G t->Q (fP lt t) s->t.kasWp cmp Q s
 | .ret _,_,h=>h
 | .ask i j k,hr,h=>hc i j _ hr.1 hr.2.1 (ni hc (k (lt i j)) (hr.2.2 _) h)
section
variable {prog:RB}{w:World}{A:Sj} 
noncomputable def Kp(h h':Heap)(a:Addr):Prop:=∀b o,b≠a->h.get? b=some o->h'.get? b=some o
theorem yQ{a:Addr}(ho:s.heap.get? a=some (seqObj "list" vs.toArray n))(Z9:vs.length<64)
  (hT:∀h',Kp s.heap h' a->∀v∈vs,Looks (model prog w) h' (typeOf v) (.type "list"))
  (hk:∀h',Kp s.heap h' a->∀i j (C:Bool->Rg->Prop),i<vs.length->j<vs.length->C (lt i j) { s with heap:=h' }->YV prog w A oneType' vs i j C { s with heap:=h' })
  (h:∀p:Z3,p.Perm (R1 (Rh vs.length))->P (.done (.ret .none)) { s with heap:=sortedHeap s.heap a vs (R1 (p.toList.map λi=>vs.getD i SF)) }) :
  wpAny (model prog w) A (Uu.«list.sort» ⟨[.ref a],[]⟩) P E s:=by
 rw[list_sort_plain];have ha:a<s.heap.objs.size:=Rv ho;refine Ra (YL ho rfl ?_);refine Ra (Ve ho rfl ?_ (by rw[Rx,RO];lia) (R5 _))
 obtain⟨e1,ho1⟩:∃e1,(s.heap.update a (RY λ_=>#[])).get? a=some (seqObj "list" #[] e1):=⟨_,Wt ho (λ_=>#[])⟩;refine Ra (Xj ho1 rfl ?_);refine Ra (Yh ?_ (by show vs.length<=_;rw[RO];lia))
 refine Ra (VG ?_ (R5 _));refine SA ?_;have ho6:(((s.heap.update a (RY λ_=>#[])).push (seqObj "tuple" vs.toArray 0)).push (seqObj "list" #[] 0)).get? a=some (seqObj "list" #[] e1):=by
  rw[UH _ _ _ (by rw[Yz,Vp];exact Ry (Sw ha)),UH _ _ _ (by rw[Vp];exact Ry ha)]
  exact ho1
 have kp:Kp s.heap (((s.heap.update a (RY λ_=>#[])).push (seqObj "tuple" vs.toArray 0)).push (seqObj "list" #[] 0)) a:=λb o hb e =>
  Rl _ (Rl _ ((Wu _ _ _ _ hb).trans e))
 show wpAny (model prog w) A _ P E { s with heap:=((s.heap.update a (RY λ_=>#[])).push (seqObj "tuple" vs.toArray 0)).push (seqObj "list" #[] 0) };dsimp only;have hsz:vs.toArray.size=vs.length:=by simp
 by_cases h2:vs.toArray.size<2
 .rw[if_pos h2,if_pos h2];refine Ra (Rm ?_);rw[StateT.run_pure];refine Ra (Rm ?_);dsimp only;refine Ra (Xj ho6 rfl ?_);refine Ra (Ve ho6 rfl ?_ (hsz2:=by rw[Array.size_map];show (pairsOf vs).size<=_;rw[pairsOf_size,RO];lia))
  simp only[bne_self_eq_false,Sv,if_false];refine Rm ?_;have:=h (R1 (Rh vs.length)) (UG _);have e:(arrOf (YA general' (vs.toArray.zip vs.toArray) #[] 7 none)).map (·.2)=R1 ((R1 (Rh vs.length)).toList.map λi=>vs.getD i SF):=by
   have e1:(Rh vs.length).map (λi=>vs.getD i SF)=vs:=by
    apply SV;intro i;rw[Ro]
    by_cases c:i<vs.length
    .rw[S8 c,Q8 c];simp[c]
    .rw[RF (by simp;lia),RF (by lia)]
     rfl
   show (vs.toArray.zip vs.toArray).map (·.2)=R1 ((Rh vs.length).map λi=>vs.getD i SF);rw[e1];apply V6.mp;rw[Xs,Array.toList_zip];exact List.map_snd_zip (Ru _)
  rw[e];o_rec
 .rw[if_neg h2,if_neg h2];refine Ra (kas_kind (by lia) (hT _ kp) (by decide) (by decide) ?_)
  have est:YA oneType' (vs.toArray.zip vs.toArray) #[] 7 none=kas_st oneType' (pairsOf vs) (R1 (Rh vs.length)):=by
   have e:=kas_range (pairsOf vs);rw[pairsOf_size]at e;show YA oneType' (pairsOf vs) #[] 7 none=YA oneType' ((R1 (Rh vs.length)).map (kas_item (pairsOf vs))) #[] 7 none;rw[e]
  have fin:=zO (lt:=lt) (n:=vs.length);have ask:=ni (Q:=λp s'=>p=fP lt (Wd vs.length)/\s'={ s with heap:=((s.heap.update a (RY λ_=>#[])).push (seqObj "tuple" vs.toArray 0)).push (seqObj "list" #[] 0) }) (hk _ kp) (Wd vs.length) (Au (by lia)) ⟨rfl,rfl⟩
  rw[kas_ask_eq]at ask;have run:=kas_runs (E:=E) (Q:=λ_ ZY s'=>s'={ s with heap:=((s.heap.update a (RY λ_=>#[])).push (seqObj "tuple" vs.toArray 0)).push (seqObj "list" #[] 0) }/\∃p:Z3,p=fP lt (Wd vs.length)/\p.size=vs.length/\arrOf ZY=p.map (kas_item (pairsOf vs))/\failedOf ZY=none)
   (by lia) Z9 (λp' ZY s' a1 a2 a3 a4=>⟨a4.2,p',a4.1,a1,a2,a3⟩) ask
  rw[<- est]at run;refine Ra (TX run ?_ λ_ _ e=>e);rintro⟨⟨⟩,ZY⟩ s' ⟨es,p,ep,hp,har,hf⟩;dsimp only at es har hf;subst es;dsimp only;have hout:(arrOf ZY).map (·.2)=R1 (p.toList.map λi=>vs.getD i SF):=by
   apply V6.mp;rw[har,Array.map_map,Xs];exact UO λi _=>by show (kas_item (pairsOf vs) i).2=_;rw[kas_item_eq]
  have hsz2:(R1 (p.toList.map λi=>vs.getD i SF)).size=vs.length:=by rw[Rx,Rc,RZ,hp]
  rw[hout];refine Ra (Xj ho6 rfl ?_);refine Ra (Ve ho6 rfl ?_ (R5 _) (RU (U2 hsz2) (by rw[RO];lia)))
  rw[hf];simp only[bne_self_eq_false,Sv,if_false];subst ep;exact Rm (h _ fin)
theorem EW{l:Addr}(hl:s.heap.IsList l vs.toArray)(Z9:vs.length<64)
  (hT:∀h',(∀b o,s.heap.get? b=some o->h'.get? b=some o)->∀v∈vs,Looks (model prog w) h' (typeOf v) (.type "list"))
  (hk:∀h',(∀b o,s.heap.get? b=some o->h'.get? b=some o)->∀i j (C:Bool->Rg->Prop),i<vs.length->j<vs.length->C (lt i j) { s with heap:=h' }->YV prog w A.in1.in1 oneType' vs i j C { s with heap:=h' })
  (h:∀p:Z3,p.Perm (R1 (Rh vs.length))->Q (.ref (s.heap.objs.size+1)) { s with heap:=sortedAll s.heap vs (R1 (p.toList.map λi=>vs.getD i SF)) }) :
  wpAny (model prog w) A (call (.builtin "sorted") [.ref l]) Q E s:=by
 refine Vl Yp XX XY (YJ _) ?_;l_fit;refine Ra (collect_list hl ?_ (by rw[RO];lia))
 refine Ra (VG ?_ (by rw[RO];lia))
 have hsz:((s.heap.push (seqObj "list" #[] 0)).update s.heap.objs.size (RY (·++vs.toArray))).objs.size=s.heap.objs.size+1:=by
  rw[Vp,Yz]
 have hoL:(((s.heap.push (seqObj "list" #[] 0)).update s.heap.objs.size (RY (·++vs.toArray))).push (seqObj "list" vs.toArray 0)).get? (s.heap.objs.size+1)=some (seqObj "list" vs.toArray 0):=by
  rw[<- hsz];exact RC _ rfl
 have keep:∀b o,s.heap.get? b=some o->b≠s.heap.objs.size+1/\(((s.heap.push (seqObj "list" #[] 0)).update s.heap.objs.size (RY (·++vs.toArray))).push (seqObj "list" vs.toArray 0)).get? b=some o:=λb o q=>by
  have Zd:b<s.heap.objs.size:=Rv q;refine⟨Ry (Sw Zd),?_⟩;rw[UH _ _ _ (by rw[hsz];exact Ry (Sw Zd)),Wu _ _ _ _ (Ry Zd),UH _ _ _ (Ry Zd)]
  exact q
 show wpAny _ _ _ _ _ { s with heap:=((s.heap.push (seqObj "list" #[] 0)).update s.heap.objs.size (RY (·++vs.toArray))).push (seqObj "list" vs.toArray 0) };rw[hsz];refine Ra (SA (TM WR ⟨_,hoL,rfl⟩ Ws (yQ hoL Z9 (λh' k=>hT h' λb o e=>k b o (keep b o e).1 (keep b o e).2) (λh' k=>hk h' λb o e=>k b o (keep b o e).1 (keep b o e).2) λp a1=>⟨_,rfl,?_⟩) (Yj _)));exact Rm ⟨_,rfl,h p a1⟩
end
end L2
namespace L2
open PySem PySem.W PySem.Spec PyProof.Rows
theorem CC{h h':Heap}{a:Addr}{items:Z2}(hl:h.IsList a items)(k:∀b o,h.get? b=some o->h'.get? b=some o):h'.IsList a items:=by
 obtain⟨o,ho,r⟩:=hl;exact⟨o,k _ _ ho,r⟩
theorem v5{α:Type}(l:List α)(d:α):(Rh l.length).map (λi=>l.getD i d)=l:=by
 apply SV;intro i;rw[Ro]
 by_cases c:i<l.length
 .rw[S8 c,Q8 c];simp[c]
 .rw[RF (by simp;lia),RF (by lia)]
  rfl
theorem Jo{vs:Y6}{L:AC}(h:vs.length=L.length):(Rh vs.length).map (λi=>(vs.getD i .non,L.getD i []))=vs.zip L:=by
 apply SV;intro i;rw[Ro]
 by_cases c:i<vs.length
 .have c':i<L.length:=by lia
  rw[S8 c,Q8 (by simp;lia)]
  simp[c,c']
 .rw[RF (by simp;lia),RF (by simp;lia)]
  rfl
theorem ql{vs:Y6}{Zb:Y7}(r:Vals vs Zb):∀l:AT,(∀i∈l,i<vs.length)->Vals (l.map λi=>vs.getD i .non) (l.map λi=>Zb.getD i SF)
 | [],_=>.nil
 | i :: l,h=>by
  have hi:=h i Rr;have hj:i<Zb.length:=by rw[<- r.length];exact hi
  refine .cons ?_ (ql r l λj hj=>h j (Rp _ hj));have e1:vs.getD i .non=vs[i]:=by simp[hi]
  have e2:Zb.getD i SF=Zb[i]:=by simp[hj]
  show RelV (vs.getD i .non) (Zb.getD i SF);rw[e1,e2];exact Vals.getL r (Q8 hi) (Q8 hj)
noncomputable def Rows(H H':Hp)(d:Addr)(L:AC):Prop:=H d=none/\∃ps:Y9,H' d=some (.lst (ps.map V.ref))/\Sz (λp r=>H p=none/\p≠d/\H' p=some (.lst (au r))) ps L
theorem Rows.since{H0 H H':Hp}{d:Addr}{L:AC}(s:ag H0 H)(h:Rows H H' d L):Rows H0 H' d L:=by
 obtain⟨h1,ps,h2,h3⟩:=h;exact⟨s.free h1,ps,h2,Paired.b5 h3 λ_ _ z=>⟨s.free z.1,z.2⟩⟩
theorem Rows.mono{H H' Zn:Hp}{d:Addr}{L:AC}(s:ag H' Zn)(h:Rows H H' d L):Rows H Zn d L:=by
 obtain⟨h1,ps,h2,h3⟩:=h;exact⟨h1,ps,s _ _ h2,Paired.b5 h3 λ_ _ z=>⟨z.1,z.2.1,s _ _ z.2.2⟩⟩
theorem sM{α β γ:Type}{F:α->γ->Prop}{G:β->γ->Prop}{f:β->α}(h:∀b c,G b c->F (f b) c):∀ {l:List β} {m:List γ},Sz G l m->Sz F (l.map f) m
 | _,_,.nil=>.nil
 | _,_,.cons r t=>.cons (h _ _ r) (sM h t)
theorem vE{F:Addr->AT->Prop}{ps:Y9}{L:AC}(hP:Sz F ps L){zs:List (V×AT)}(hz:zs.Perm ((ps.map V.ref).zip L)):∃ZK,zs.map (·.1)=ZK.map V.ref/\Sz F ZK (zs.map (·.2)):=by
 have key:∀ {ps:Y9} {L:AC},Sz F ps L->∀z∈(ps.map V.ref).zip L,∃p,z.1=.ref p/\F p z.2:=by
  intro ps L h
  induction h with
  | nil=>intro z hz;simp at hz
  | cons r t ih =>
   intro z hz;rcases RA.mp hz with e|e
   .subst e;exact⟨_,rfl,r⟩
   .exact ih z e
 have all:∀z∈zs,∃p,z.1=.ref p/\F p z.2:=λz h=>key hP z (hz.mem_iff.mp h)
 clear hz
 induction zs with
 | nil=>exact⟨[],rfl,.nil⟩
 | cons z zs ih =>
  obtain⟨ZK,e,h⟩:=ih λz h=>all z (Rp _ h);obtain⟨p,e1,f1⟩:=all z Rr;exact⟨p :: ZK,by rw[Si,Si,e1,e],.cons f1 h⟩
theorem sR:∀ {ps:Y6} {L:AC},ps.length=L.length->(ps.zip L).map (·.2)=L
 | [],[],_=>rfl
 | _ :: ps,_ :: L,h=>by
  rw[List.zip_cons_cons,Si,sR (by simpa using h)]
theorem Rows.nil{H H':Hp}{d:Addr}(hd:H d=none)(h:H' d=some (.lst [])):Rows H H' d []:=⟨hd,[],h,.nil⟩
theorem Cq{H H5:Hp}{d dr:Addr}{L:AC}{r:AT}{Q:VK}(h:Rows H H5 d L)(hl:L.length<=100000)(hr:H dr=none)(hn:dr≠d)(hr5:H5 dr=some (.lst (au r)))
  (q:∀H',Rows H H' d (L++[r])->(∀a o,a≠d->H5 a=some o->H' a=some o)->Q .non H'):jB (.ref d) [.ref dr] H5 Q:=by
 obtain⟨h1,ps,h2,h3⟩:=h;have e:=h3.length;refine⟨d,_,_,rfl,rfl,h2,Sf (show (ps.map V.ref).length<=100000 by rw[Rc];lia) (by rw[RO];decide),?_⟩
 refine q _ ⟨h1,ps++[dr],by rw[ai];simp,Paired.app (Paired.b5 h3 λ_ _ z=>⟨z.1,z.2.1,by rw[ak z.2.1];exact z.2.2⟩) (.cons ⟨hr,hn,by rw[ak hn];exact hr5⟩ .nil)⟩ λa o ha z=>by rw[ak ha];exact z
theorem B7{H H5:Hp}{d b:Addr}{L M:AC}{Q:VK}(h:Rows H H5 d L)(h':Rows H H5 b M)(Zj:∀r∈M,r≠[])(hl:L.length+M.length<=100000)
  (q:∀H',Rows H H' d (L++M)->(∀a o,a≠d->H5 a=some o->H' a=some o)->Q .non H'):Dx (.ref d) [.ref b] H5 Q:=by
 obtain⟨h1,ps,h2,h3⟩:=h;obtain⟨k1,qs,k2,k3⟩:=h';have e:=h3.length;have e':=k3.length;refine⟨d,b,_,_,rfl,rfl,h2,k2,RU (show (ps.map V.ref).length+(qs.map V.ref).length<=100000 by rw[Rc,Rc];lia) (by rw[RO];decide),?_⟩
 have hd:∀ (p:Addr) (r:AT),r∈M->H5 p=some (.lst (au r))->p≠d:=λp r hr hp q=>by
  subst q;rw[h2]at hp;have e1:=HO.lst.inj (RW hp);cases r with
  | nil=>exact Zj _ hr rfl
  | cons a r =>
   cases ps with
   | nil=>cases e1
   | cons p ps=>cases e1
 have k3':Sz (λp r=>H p=none/\p≠d/\H5 p=some (.lst (au r))) qs M:=by
  have go:∀ {qs:Y9} {M':AC},(∀r∈M',r∈M)->Sz (λp r=>H p=none/\p≠b/\H5 p=some (.lst (au r))) qs M'->Sz (λp r=>H p=none/\p≠d/\H5 p=some (.lst (au r))) qs M':=by
   intro qs M' hm hp
   induction hp with
   | nil=>exact .nil
   | cons r t ih=>exact .cons ⟨r.1,hd _ _ (hm _ Rr) r.2.2,r.2.2⟩ (ih λr hr=>hm r (Rp _ hr))
  exact go (λr hr=>hr) k3
 refine q _ ⟨h1,ps++qs,by rw[ai];simp,Paired.app (Paired.b5 h3 λ_ _ z=>⟨z.1,z.2.1,by rw[ak z.2.1];exact z.2.2⟩) (Paired.b5 k3' λ_ _ z=>⟨z.1,z.2.1,by rw[ak z.2.1];exact z.2.2⟩)⟩ λa o ha z=>by rw[ak ha];exact z
end L2
namespace L2
open PySem PySem.W PySem.Spec PyProof.Rows
section
variable {prog:RB}{w:World}{A:Sj}{E:Value->Rg->Prop}{s:Rg}
theorem yr{T:String}{r d:Addr}{n:Nat}{P:Nat->Value->Prop}{OK:Heap->Prop}{R:XF->Rg->Prop}(K:KdlSrc prog w T r d n P OK)(hh:A.handled=none)(hok:OK s.heap)(S:Addr)(hSr:S≠r)(hSd:S≠d)(c₀:Nat)(hS:s.heap.get? S=some { cls:=.type "list",data:=.seq #[] c₀ })(hn:n<=RV)
  (hR:∀h' tk Zl c',(∀b o,b≠S->s.heap.get? b=some o->h'.get? b=some o)->h'.get? S=some { cls:=.type "list",dict:=none,data:=.seq Zl c',slots:=#[] }->YX P Zl n->R (.ok (.ret (.ref S))) { s with heap:=h',toks:=tk }) :
  codeAny (model prog w) A (.builtin "list.__iadd__" ⟨[.ref S,.ref r],[]⟩) R s:=by
 refine SQ F.entry_list_iadd ?_;rw[Sn VT _];show wpAny _ A.in1 (SW (.ref S) (.ref r) (.ref S)) _ _ _;exact kdl_extend K hh hok S hSr hSd (.ref S) c₀ hS hR hn
theorem CK{T:String}{r d:Addr}{n:Nat}{P:Nat->Value->Prop}{OK:Heap->Prop}(K:KdlSrc prog w T r d n P OK){Q:List Value->Rg->Prop}(hh:A.handled=none)(hok:OK s.heap)(hn:n<=RV)
  (hQ:∀ (h':Heap) (tk:Nat) (vs:Y7),s.heap.objs.size<=h'.objs.size->(∀b o,s.heap.get? b=some o->h'.get? b=some o)->vs.length=n->(∀j v,vs[j]?=some v->P j v)->Q vs { s with heap:=h',toks:=tk }):wpAny (model prog w) A (collect (.ref r)) Q E s:=by
 unfold collect;refine Ra (Yi (SQ XU ?_));rw[Sn XW _];show wpAny _ A.in1 (newList [] >>= λl=>again (.builtin "list.__iadd__" ⟨[l,.ref r],[]⟩)) _ _ s;refine Ra (TY ?_);have Zd:=K.there _ hok;have hS:(s.heap.push { cls:=.type "list",data:=.seq #[] }).get? s.heap.objs.size=some { cls:=.type "list",data:=.seq #[] }:=RC _ rfl;refine Rm ⟨Tg VT _,yr (s:={ s with heap:=s.heap.push { cls:=.type "list",data:=.seq #[] } }) K hh (K.keep _ _ hok λb _ o e=>Rl _ e) _ (T3 Zd.1) (T3 Zd.2) _ hS hn λh' tk Zl c' hk Zz ZC=>?_⟩;show wpAny _ A (load s.heap.objs.size >>= _) _ _ _;refine Ra (wpAny_load Zz (Rm ?_));exact hQ h' tk Zl.toList (TL (Rv Zz)) (λb o e=>hk b o (Ry (Rv e)) (Rl _ e)) (by rw[RZ];exact ZC.1) λj v e=>ZC.2 j v (by rw[<- Sy];exact e)
theorem Ez{T:String}{r d:Addr}{n:Nat}{P:Nat->Value->Prop}{OK:Heap->Prop}(K:KdlSrc prog w T r d n P OK){ks:AT}(hks:ks.length=n)(hP:∀ (j:Nat) (v:Value),P j v->∃ (k:Nat) (tk:Tok),ks[j]?=some k/\v=Ui (k:Int) tk){Q:Value->Rg->Prop}(hh:A.handled=none)(hok:OK s.heap)(hn:n<64)
  (h:∀ (h':Heap) (tk:Nat) (d:Addr) (out:Z2) (c:Nat) (l:AT),V3 out.toList (l.map λ(k:Nat)=>(k:Int))->l.Perm ks->l.Pairwise (·<=·)->s.heap.objs.size<=d->h'.get? d=some (seqObj "list" out c)->(∀b o,s.heap.get? b=some o->h'.get? b=some o)->Q (.ref d) { s with heap:=h',toks:=tk }) :
  wpAny (model prog w) A (call (.builtin "sorted") [.ref r]) Q E s:=by
 refine Vl Yp XX XY (YJ _) ?_;l_fit;refine Ra (CK K (by simp[hh]) hok (by rw[RO];lia) λh1 tk1 vs kz k1 vl hv=>?_)
 have hI:V3 vs (ks.map λ(k:Nat)=>(k:Int)):=by
  have go:∀ (vs:Y7) (ks:AT),vs.length=ks.length->(∀ (j:Nat) (v:Value),vs[j]?=some v->∃ (k:Nat) (tk:Tok),ks[j]?=some k/\v=Ui (k:Int) tk)->V3 vs (ks.map λ(k:Nat)=>(k:Int)):=by
   intro vs
   induction vs with
   | nil =>
    intro ks hl _;cases ks with
    | nil=>exact .nil
    | cons _ _=>simp at hl
   | cons v vs ih =>
    intro ks hl hv;cases ks with
    | nil=>simp at hl
    | cons k ks =>
     obtain⟨k',tk,e1,e2⟩:=hv 0 v rfl;simp at e1;subst e1;subst e2;exact .cons _ _ (ih ks (by simpa using hl) λj v e=>by simpa using hv (j+1) v (by simpa using e))
  exact go vs ks (by lia) λj v e=>hP j v (hv j v e)
 refine Ra (VG ?_);have oL:(h1.push (seqObj "list" vs.toArray 0)).get? h1.objs.size=some (seqObj "list" vs.toArray 0):=RC _ rfl;refine Ra (SA (TM WR ⟨_,oL,rfl⟩ Ws (list_sort_tree oL hI (by lia) λout U' a1 a2 a3=>⟨_,rfl,?_⟩) (Yj _)))
 obtain⟨c,hc⟩:=sortedHeap_at (out:=out) oL;obtain⟨l,rfl,lp⟩:=qJ a2;refine Rm ⟨_,rfl,h _ tk1 _ out c l a1 lp ?_ kz hc λb ob e=>?_⟩
 .rw[Vd]at a3;exact a3.imp λz=>by lia
 .have e1:=k1 _ _ e;rw[sortedHeap_old (Ry (Rv e1)) (by rw[S0];exact Sw (Rv e1))]
  exact Rl _ e1
end
noncomputable def zP:List V->Hp->VK->Prop:=λxs H Q=>∃ (a:Addr) (kvs:Y1) (ks:AT),xs=[.ref a]/\H a=some (.dK kvs)/\kvs.map (·.1)=ks.map nk/\ks.length<64 /\
 ∀ (d:Addr) (l:AT),H d=none->l.Perm ks->l.Pairwise (·<=·)->Q (.ref d) (upd H d (.lst (au l)))
theorem yX{X:Cx}(hc:X.calm=true):cz X (.builtin "sorted") zP:=by
 k_asm;obtain⟨a,kvs,ks,rfl,hx,hk,Z9,q⟩:=h;obtain⟨u,rfl,ru⟩:=vals1 r;cases(show u=RN a from ru);obtain⟨z,hd,vs,rel,dd⟩:=zj I.hok hx;obtain⟨ep,da⟩:=dd.dictAt;have kl:kvs.length=ks.length:=by have:=congrArg Vq hk;simpa using this
 have hl:=rel.length;refine Ez (kdl_dict (knd:=ck X.prog X.w) (kvs:=vs) (ep:=ep) hd) (ks:=ks) (by lia) (λj v ⟨k,x,e,Zv⟩=>?_) (I.ok.hd hc) da (by lia) λh' tk d out c l a1 a2 a3 dh ho Zv=>?_
 .have jl:j<kvs.length:=by rw[hl];exact(Q9.mp e).1
  obtain⟨q',hq,e1,r1⟩:=rel.get (Q8 jl);rw[e]at hq;cases hq;have kj:j<ks.length:=by lia
  have ek:kvs[j].1=nk ks[j]:=by
   have:=congrArg (λl=>l[j]?) hk;simp only[Ro,Q8 jl,Q8 kj,S9]at this;exact RW this
  have kr:=DB Zv;rw[show k=nk ks[j] from e1.symm.trans ek]at kr;obtain⟨t,et⟩:=(show RelV (.int (ks[j]:Int)) v from kr);exact⟨ks[j],t,Q8 kj,et⟩
 .have hn:H d=none:=I.hok.fresh dh;refine⟨.ref d,_,I.laid (o:=.lst (au l)) Zv dh ⟨?_,out.toList,c,?_,?_⟩,rfl,q d l hn a2 a3⟩
  .unfold au;rw[Rc,a2.length_eq];exact small (by lia)
  .rw[i7];exact mn a1
  .simpa[seqObj] using ho
theorem GK{H:Hp}{Q:VK}{a:Addr}{kvs:Y1}{ks:AT}(h:H a=some (.dK kvs))(hk:kvs.map (·.1)=ks.map nk)(hl:ks.length<64)
  (q:∀ (d:Addr) (l:AT),H d=none->l.Perm ks->l.Pairwise (·<=·)->Q (.ref d) (upd H d (.lst (au l)))):zP [.ref a] H Q:=⟨a,kvs,ks,rfl,h,hk,hl,q⟩
end L2
namespace L2
open PySem PySem.Spec PyProof.Rows
variable {f:Addr}{K! sl:Array (Z6)}{h:Heap}{fr:AT}{N own:Z0}{n:Nat}{an dd od:Z5}{K:Q7}{fd:SO}{sc scope:Scope}{st:Stmt}{p1 p2 p3 p4 p5 qual x:Str}{mg:Y5}
section
variable {oc kV dc pm cd ct:Value} 
theorem bd1(hb:∀u1:Value,bindArgs fd ⟨[u1],[]⟩=pure [(p1,u1)]:=by intros;rfl):Binds K fd [p1] []:=.all λus hl=>by obtain⟨u1,rfl⟩:=EC hl;exact hb _
noncomputable def df1(X:K.In h)(G:h.Ns Se mg)(a:Uh K Se x=some (some (.ref f)):=by k_is)(l:K.lookup f=some ⟨oc,od,.func (Sa x x (bB st) (bj st) (ah st) .none kV dc pm an cd ct),sl⟩:=by k_is)(c:SR K cd x=true:=by k_is)(k:Sk K (.ref f)=true:=by k_is)
  (hb:∀u1:Value,bindArgs (Sa x x (bB st) (bj st) (ah st) .none kV dc pm an cd ct) ⟨[u1],[]⟩=pure [(p1,u1)]:=by intros;rfl):Df K mg x st [p1]:=⟨f,_,nQ l c k,bd1 hb,Uc X G a⟩
theorem bd2(hb:∀u1 u2:Value,bindArgs fd ⟨[u1,u2],[]⟩=pure [(p1,u1),(p2,u2)]:=by intros;rfl):Binds K fd [p1,p2] []:=.all λus hl=>by obtain⟨u1,u2,rfl⟩:=Bt hl;exact hb _ _
noncomputable def df2(X:K.In h)(G:h.Ns Se mg)(a:Uh K Se x=some (some (.ref f)):=by k_is)(l:K.lookup f=some ⟨oc,od,.func (Sa x x (bB st) (bj st) (ah st) .none kV dc pm an cd ct),sl⟩:=by k_is)(c:SR K cd x=true:=by k_is)(k:Sk K (.ref f)=true:=by k_is)
  (hb:∀u1 u2:Value,bindArgs (Sa x x (bB st) (bj st) (ah st) .none kV dc pm an cd ct) ⟨[u1,u2],[]⟩=pure [(p1,u1),(p2,u2)]:=by intros;rfl):Df K mg x st [p1,p2]:=⟨f,_,nQ l c k,bd2 hb,Uc X G a⟩
theorem bd3(hb:∀u1 u2 u3:Value,bindArgs fd ⟨[u1,u2,u3],[]⟩=pure [(p1,u1),(p2,u2),(p3,u3)]:=by intros;rfl):Binds K fd [p1,p2,p3] []:=.all λus hl=>by obtain⟨u1,u2,u3,rfl⟩:=zF hl;exact hb _ _ _
noncomputable def df3(X:K.In h)(G:h.Ns Se mg)(a:Uh K Se x=some (some (.ref f)):=by k_is)(l:K.lookup f=some ⟨oc,od,.func (Sa x x (bB st) (bj st) (ah st) .none kV dc pm an cd ct),sl⟩:=by k_is)(c:SR K cd x=true:=by k_is)(k:Sk K (.ref f)=true:=by k_is)
  (hb:∀u1 u2 u3:Value,bindArgs (Sa x x (bB st) (bj st) (ah st) .none kV dc pm an cd ct) ⟨[u1,u2,u3],[]⟩=pure [(p1,u1),(p2,u2),(p3,u3)]:=by intros;rfl):Df K mg x st [p1,p2,p3]:=⟨f,_,nQ l c k,bd3 hb,Uc X G a⟩
theorem bd4(hb:∀u1 u2 u3 u4:Value,bindArgs fd ⟨[u1,u2,u3,u4],[]⟩=pure [(p1,u1),(p2,u2),(p3,u3),(p4,u4)]:=by intros;rfl):Binds K fd [p1,p2,p3,p4] []:=.all λus hl=>by obtain⟨u1,u2,u3,u4,rfl⟩:=zH hl;exact hb _ _ _ _
noncomputable def df4(X:K.In h)(G:h.Ns Se mg)(a:Uh K Se x=some (some (.ref f)):=by k_is)(l:K.lookup f=some ⟨oc,od,.func (Sa x x (bB st) (bj st) (ah st) .none kV dc pm an cd ct),sl⟩:=by k_is)(c:SR K cd x=true:=by k_is)(k:Sk K (.ref f)=true:=by k_is)
  (hb:∀u1 u2 u3 u4:Value,bindArgs (Sa x x (bB st) (bj st) (ah st) .none kV dc pm an cd ct) ⟨[u1,u2,u3,u4],[]⟩=pure [(p1,u1),(p2,u2),(p3,u3),(p4,u4)]:=by intros;rfl):Df K mg x st [p1,p2,p3,p4]:=⟨f,_,nQ l c k,bd4 hb,Uc X G a⟩
theorem bd5(hb:∀u1 u2 u3 u4 u5:Value,bindArgs fd ⟨[u1,u2,u3,u4,u5],[]⟩=pure [(p1,u1),(p2,u2),(p3,u3),(p4,u4),(p5,u5)]:=by intros;rfl):Binds K fd [p1,p2,p3,p4,p5] []:=.all λus hl=>by obtain⟨u1,u2,u3,u4,u5,rfl⟩:=Nv hl;exact hb _ _ _ _ _
noncomputable def df5(X:K.In h)(G:h.Ns Se mg)(a:Uh K Se x=some (some (.ref f)):=by k_is)(l:K.lookup f=some ⟨oc,od,.func (Sa x x (bB st) (bj st) (ah st) .none kV dc pm an cd ct),sl⟩:=by k_is)(c:SR K cd x=true:=by k_is)(k:Sk K (.ref f)=true:=by k_is)
  (hb:∀u1 u2 u3 u4 u5:Value,bindArgs (Sa x x (bB st) (bj st) (ah st) .none kV dc pm an cd ct) ⟨[u1,u2,u3,u4,u5],[]⟩=pure [(p1,u1),(p2,u2),(p3,u3),(p4,u4),(p5,u5)]:=by intros;rfl):Df K mg x st [p1,p2,p3,p4,p5]:=⟨f,_,nQ l c k,bd5 hb,Uc X G a⟩
end
section
variable {D:Addr}{oc kV dc pm cd ct dcl:Value} 
noncomputable def ToD(x qual:Str)(st:Stmt)(args:Args)(bs:List (Str×Value)):Prop:=∀ (D:Addr) (kV doc pm:Value) (an:Z5) (cdv ct:Value),∃k:Option (Z2)->Sem (List (Str×Value)),bindArgs (Sa x qual (bB st) (bj st) (ah st) (.ref D) kV doc pm an cdv ct) args=seqItems? (.ref D) >>= k/\k (some #[.none])=pure bs
theorem bc2(F:fj K x qual st f fd)(hb:∀u1 u2:Value,ToD x qual st ⟨[u1,u2],[]⟩ [(p1,u1),(p2,u2)]:=by intros;intro _ _ _ _ _ _ _;exact⟨_,rfl,rfl⟩):Binds K fd [p1,p2] []:=λs us KI hl=>by rw[Vy]at hl ⊢;obtain⟨u1,u2,rfl⟩:=Bt hl;exact F.to KI (hb _ _)
theorem bn2(F:fj K x qual st f fd)(hb:∀u1:Value,ToD x qual st ⟨[u1],[]⟩ [(p1,u1),(p2,.none)]:=by intros;intro _ _ _ _ _ _ _;exact⟨_,rfl,rfl⟩):Binds K fd [p1,p2] [.none]:=kX rfl λs us KI hl=>by obtain⟨u1,rfl⟩:=EC hl;exact F.to KI (hb _)
theorem bk2(F:fj K x qual st f fd)(hb:∀u1 u2:Value,ToD x qual st ⟨[u1],[(p2,u2)]⟩ [(p1,u1),(p2,u2)]:=by intros;intro _ _ _ _ _ _ _;exact⟨_,rfl,rfl⟩):n6 K fd [p1,p2] [p2] (byName 1) (byName 1):=kM rfl λs us w KI hl=>by obtain⟨u1,rfl⟩:=EC hl;exact F.to KI (hb _ w)
noncomputable def dd2(X:K.In h)(G:h.Ns Se mg)(a:Uh K Se x=some (some (.ref f)):=by k_is)(l:K.lookup f=some ⟨oc,od,.func (Sa x x (bB st) (bj st) (ah st) (.ref D) kV dc pm an cd ct),sl⟩:=by k_is)(e:K.lookup D=some ⟨dcl,dd,.seq #[.none] n,K!⟩:=by k_is)(c:SR K cd x=true:=by k_is)(k:Sk K (.ref f)=true:=by k_is)
  (ha:∀u1 u2:Value,ToD x x st ⟨[u1,u2],[]⟩ [(p1,u1),(p2,u2)]:=by intros;intro _ _ _ _ _ _ _;exact⟨_,rfl,rfl⟩) (hb:∀u1:Value,ToD x x st ⟨[u1],[]⟩ [(p1,u1),(p2,.none)]:=by intros;intro _ _ _ _ _ _ _;exact⟨_,rfl,rfl⟩) (hc:∀u1 u2:Value,ToD x x st ⟨[u1],[(p2,u2)]⟩ [(p1,u1),(p2,u2)]:=by intros;intro _ _ _ _ _ _ _;exact⟨_,rfl,rfl⟩):DfD K mg x st [p1,p2] p2 1:=⟨f,_,cQ l e c k,bc2 (cQ l e c k) ha,bn2 (cQ l e c k) hb,bk2 (cQ l e c k) hc,Uc X G a⟩
theorem bc3(F:fj K x qual st f fd)(hb:∀u1 u2 u3:Value,ToD x qual st ⟨[u1,u2,u3],[]⟩ [(p1,u1),(p2,u2),(p3,u3)]:=by intros;intro _ _ _ _ _ _ _;exact⟨_,rfl,rfl⟩):Binds K fd [p1,p2,p3] []:=λs us KI hl=>by rw[Vy]at hl ⊢;obtain⟨u1,u2,u3,rfl⟩:=zF hl;exact F.to KI (hb _ _ _)
theorem bn3(F:fj K x qual st f fd)(hb:∀u1 u2:Value,ToD x qual st ⟨[u1,u2],[]⟩ [(p1,u1),(p2,u2),(p3,.none)]:=by intros;intro _ _ _ _ _ _ _;exact⟨_,rfl,rfl⟩):Binds K fd [p1,p2,p3] [.none]:=kX rfl λs us KI hl=>by obtain⟨u1,u2,rfl⟩:=Bt hl;exact F.to KI (hb _ _)
theorem bk3(F:fj K x qual st f fd)(hb:∀u1 u2 u3:Value,ToD x qual st ⟨[u1,u2],[(p3,u3)]⟩ [(p1,u1),(p2,u2),(p3,u3)]:=by intros;intro _ _ _ _ _ _ _;exact⟨_,rfl,rfl⟩):n6 K fd [p1,p2,p3] [p3] (byName 2) (byName 2):=kM rfl λs us w KI hl=>by obtain⟨u1,u2,rfl⟩:=Bt hl;exact F.to KI (hb _ _ w)
noncomputable def dd3(X:K.In h)(G:h.Ns Se mg)(a:Uh K Se x=some (some (.ref f)):=by k_is)(l:K.lookup f=some ⟨oc,od,.func (Sa x x (bB st) (bj st) (ah st) (.ref D) kV dc pm an cd ct),sl⟩:=by k_is)(e:K.lookup D=some ⟨dcl,dd,.seq #[.none] n,K!⟩:=by k_is)(c:SR K cd x=true:=by k_is)(k:Sk K (.ref f)=true:=by k_is)
  (ha:∀u1 u2 u3:Value,ToD x x st ⟨[u1,u2,u3],[]⟩ [(p1,u1),(p2,u2),(p3,u3)]:=by intros;intro _ _ _ _ _ _ _;exact⟨_,rfl,rfl⟩) (hb:∀u1 u2:Value,ToD x x st ⟨[u1,u2],[]⟩ [(p1,u1),(p2,u2),(p3,.none)]:=by intros;intro _ _ _ _ _ _ _;exact⟨_,rfl,rfl⟩) (hc:∀u1 u2 u3:Value,ToD x x st ⟨[u1,u2],[(p3,u3)]⟩ [(p1,u1),(p2,u2),(p3,u3)]:=by intros;intro _ _ _ _ _ _ _;exact⟨_,rfl,rfl⟩):DfD K mg x st [p1,p2,p3] p3 2:=⟨f,_,cQ l e c k,bc3 (cQ l e c k) ha,bn3 (cQ l e c k) hb,bk3 (cQ l e c k) hc,Uc X G a⟩
theorem bc4(F:fj K x qual st f fd)(hb:∀u1 u2 u3 u4:Value,ToD x qual st ⟨[u1,u2,u3,u4],[]⟩ [(p1,u1),(p2,u2),(p3,u3),(p4,u4)]:=by intros;intro _ _ _ _ _ _ _;exact⟨_,rfl,rfl⟩):Binds K fd [p1,p2,p3,p4] []:=λs us KI hl=>by rw[Vy]at hl ⊢;obtain⟨u1,u2,u3,u4,rfl⟩:=zH hl;exact F.to KI (hb _ _ _ _)
theorem bn4(F:fj K x qual st f fd)(hb:∀u1 u2 u3:Value,ToD x qual st ⟨[u1,u2,u3],[]⟩ [(p1,u1),(p2,u2),(p3,u3),(p4,.none)]:=by intros;intro _ _ _ _ _ _ _;exact⟨_,rfl,rfl⟩):Binds K fd [p1,p2,p3,p4] [.none]:=kX rfl λs us KI hl=>by obtain⟨u1,u2,u3,rfl⟩:=zF hl;exact F.to KI (hb _ _ _)
theorem bk4(F:fj K x qual st f fd)(hb:∀u1 u2 u3 u4:Value,ToD x qual st ⟨[u1,u2,u3],[(p4,u4)]⟩ [(p1,u1),(p2,u2),(p3,u3),(p4,u4)]:=by intros;intro _ _ _ _ _ _ _;exact⟨_,rfl,rfl⟩):n6 K fd [p1,p2,p3,p4] [p4] (byName 3) (byName 3):=kM rfl λs us w KI hl=>by obtain⟨u1,u2,u3,rfl⟩:=zF hl;exact F.to KI (hb _ _ _ w)
noncomputable def dd4(X:K.In h)(G:h.Ns Se mg)(a:Uh K Se x=some (some (.ref f)):=by k_is)(l:K.lookup f=some ⟨oc,od,.func (Sa x x (bB st) (bj st) (ah st) (.ref D) kV dc pm an cd ct),sl⟩:=by k_is)(e:K.lookup D=some ⟨dcl,dd,.seq #[.none] n,K!⟩:=by k_is)(c:SR K cd x=true:=by k_is)(k:Sk K (.ref f)=true:=by k_is)
  (ha:∀u1 u2 u3 u4:Value,ToD x x st ⟨[u1,u2,u3,u4],[]⟩ [(p1,u1),(p2,u2),(p3,u3),(p4,u4)]:=by intros;intro _ _ _ _ _ _ _;exact⟨_,rfl,rfl⟩) (hb:∀u1 u2 u3:Value,ToD x x st ⟨[u1,u2,u3],[]⟩ [(p1,u1),(p2,u2),(p3,u3),(p4,.none)]:=by intros;intro _ _ _ _ _ _ _;exact⟨_,rfl,rfl⟩) (hc:∀u1 u2 u3 u4:Value,ToD x x st ⟨[u1,u2,u3],[(p4,u4)]⟩ [(p1,u1),(p2,u2),(p3,u3),(p4,u4)]:=by intros;intro _ _ _ _ _ _ _;exact⟨_,rfl,rfl⟩):DfD K mg x st [p1,p2,p3,p4] p4 3:=⟨f,_,cQ l e c k,bc4 (cQ l e c k) ha,bn4 (cQ l e c k) hb,bk4 (cQ l e c k) hc,Uc X G a⟩
theorem bc5(F:fj K x qual st f fd)(hb:∀u1 u2 u3 u4 u5:Value,ToD x qual st ⟨[u1,u2,u3,u4,u5],[]⟩ [(p1,u1),(p2,u2),(p3,u3),(p4,u4),(p5,u5)]:=by intros;intro _ _ _ _ _ _ _;exact⟨_,rfl,rfl⟩):Binds K fd [p1,p2,p3,p4,p5] []:=λs us KI hl=>by rw[Vy]at hl ⊢;obtain⟨u1,u2,u3,u4,u5,rfl⟩:=Nv hl;exact F.to KI (hb _ _ _ _ _)
theorem bn5(F:fj K x qual st f fd)(hb:∀u1 u2 u3 u4:Value,ToD x qual st ⟨[u1,u2,u3,u4],[]⟩ [(p1,u1),(p2,u2),(p3,u3),(p4,u4),(p5,.none)]:=by intros;intro _ _ _ _ _ _ _;exact⟨_,rfl,rfl⟩):Binds K fd [p1,p2,p3,p4,p5] [.none]:=kX rfl λs us KI hl=>by obtain⟨u1,u2,u3,u4,rfl⟩:=zH hl;exact F.to KI (hb _ _ _ _)
theorem bk5(F:fj K x qual st f fd)(hb:∀u1 u2 u3 u4 u5:Value,ToD x qual st ⟨[u1,u2,u3,u4],[(p5,u5)]⟩ [(p1,u1),(p2,u2),(p3,u3),(p4,u4),(p5,u5)]:=by intros;intro _ _ _ _ _ _ _;exact⟨_,rfl,rfl⟩):n6 K fd [p1,p2,p3,p4,p5] [p5] (byName 4) (byName 4):=kM rfl λs us w KI hl=>by obtain⟨u1,u2,u3,u4,rfl⟩:=zH hl;exact F.to KI (hb _ _ _ _ w)
noncomputable def dd5(X:K.In h)(G:h.Ns Se mg)(a:Uh K Se x=some (some (.ref f)):=by k_is)(l:K.lookup f=some ⟨oc,od,.func (Sa x x (bB st) (bj st) (ah st) (.ref D) kV dc pm an cd ct),sl⟩:=by k_is)(e:K.lookup D=some ⟨dcl,dd,.seq #[.none] n,K!⟩:=by k_is)(c:SR K cd x=true:=by k_is)(k:Sk K (.ref f)=true:=by k_is)
  (ha:∀u1 u2 u3 u4 u5:Value,ToD x x st ⟨[u1,u2,u3,u4,u5],[]⟩ [(p1,u1),(p2,u2),(p3,u3),(p4,u4),(p5,u5)]:=by intros;intro _ _ _ _ _ _ _;exact⟨_,rfl,rfl⟩) (hb:∀u1 u2 u3 u4:Value,ToD x x st ⟨[u1,u2,u3,u4],[]⟩ [(p1,u1),(p2,u2),(p3,u3),(p4,u4),(p5,.none)]:=by intros;intro _ _ _ _ _ _ _;exact⟨_,rfl,rfl⟩) (hc:∀u1 u2 u3 u4 u5:Value,ToD x x st ⟨[u1,u2,u3,u4],[(p5,u5)]⟩ [(p1,u1),(p2,u2),(p3,u3),(p4,u4),(p5,u5)]:=by intros;intro _ _ _ _ _ _ _;exact⟨_,rfl,rfl⟩):DfD K mg x st [p1,p2,p3,p4,p5] p5 4:=⟨f,_,cQ l e c k,bc5 (cQ l e c k) ha,bn5 (cQ l e c k) hb,bk5 (cQ l e c k) hc,Uc X G a⟩
end
section
variable {C D:Addr}{oc kV dc pm cd ct dcl:Value}{v:Value} 
theorem fnk(l:K.lookup f=some ⟨oc,od,.func (Sa x qual (bB st) (bj st) (ah st) .none kV dc pm an cd ct),sl⟩:=by k_is)(c:SR K cd qual=true:=by k_is)(k:Sk K (.ref f)=true:=by k_is) :
  Fun K x qual st f (Sa x qual (bB st) (bj st) (ah st) .none kV dc pm an cd ct):=nQ l c k
theorem fDk(l:K.lookup f=some ⟨oc,od,.func (Sa x qual (bB st) (bj st) (ah st) (.ref D) kV dc pm an cd ct),sl⟩:=by k_is)(e:K.lookup D=some ⟨dcl,dd,.seq #[.none] n,K!⟩:=by k_is)(c:SR K cd qual=true:=by k_is)(k:Sk K (.ref f)=true:=by k_is) :
  fj K x qual st f (Sa x qual (bB st) (bj st) (ah st) (.ref D) kV dc pm an cd ct):=cQ l e c k
theorem mgk(X:K.In h)(G:h.Ns Se mg)(a:Uh K Se x=some (some v):=by k_is):mg x=some v:=Uc X G a
theorem mgz(X:K.In h)(G:h.Ns Se mg)(a:Uh K Se x=some none:=by k_is):mg x=none:=PySem.W.mg_none_of X G a
theorem Bc(a:Vn K C Str.empty=true:=by k_is)(b:VM K C=true:=by k_is)(c:WV K C=true:=by k_is)(d:SX K (.ref C) "__setattr__" = some (some (.builtin "object.__setattr__")):=by k_is):Cls K C:=⟨a,b,c,d⟩
theorem mkk(a:XG K C=true:=by k_is)(b:SX K (.ref C) "__init__" = some (some (.ref f)):=by k_is)(c:WB K (.ref f)=true:=by k_is)(d:Sk K (.ref C)=true:=by k_is):Mk K C f:=⟨a,b,c,d⟩
theorem rZ(a:SX K (.ref C) x=some (some (.ref f)):=by k_is)(b:WB K (.ref f)=true:=by k_is)(c:Sk K (.ref f)=true:=by k_is):Meth K C x f:=⟨a,b,c⟩
theorem Ob(a:VO K (.ref C) "__getattribute__" = some (some (.builtin "type.__getattribute__")):=by k_is)(b:PySem.W.readsIn K C (.type "type")=true:=by k_is)(c:PySem.W.findCls K (.ref C) (.type "type") x=some (.val (.ref f)):=by k_is)(d:Sk K (.ref f)=true:=by k_is):DX K C x f:=⟨a,b,c,d⟩
theorem ei(a:SX K (.ref C) x=some none:=by k_is):bE K C x:=a
theorem krf{α:Type}{a b:α}(e:a=b:=by kernel_rfl):a=b:=e
end
theorem fsc{P:Z0}(h1:sc.kind=.function:=by rfl)(h2:sc.isCoroutine=false:=by rfl)(h3:sc.isGenerator=false:=by rfl)(h5:N.take P.length=P:=by rfl)(h:N.Nodup/\(∀x∈P,sc.names.lookup x=some .local\/sc.names.lookup x=some .cell)/\(∀y∈sc.names,y.2≠.free):=by trivial):aw N P sc:=⟨h1,h2,h3,h.1,h5,h.2.1,h.2.2⟩
theorem cY(h1:scope.kind=.function:=by rfl)(h:(∀y∈scope.names,y.2=.cell->(y.1,Te)∉scope.names)/\(∀y∈scope.names,y.2=.local->scope.names.lookup y.1=some .local)/\(∀y∈scope.names,y.2=.free->sc.names.lookup y.1=some .cell\/sc.names.lookup y.1=some .free)/\(∀i∈fr,(N[i]?.bind λx=>scope.names.lookup x)=some .free)/\(oI own fr N).Nodup:=by trivial):aT sc N scope own fr:=⟨h1,h.1,h.2.1,h.2.2.1,h.2.2.2.1,h.2.2.2.2⟩
section
variable {X:Cx}
end
end L2
namespace L2
open PySem PySem.W PySem.Spec PyProof.Rows
section
variable {X:Cx}{x y:Str}{st:Stmt}{ps:Z0}{k j:Nat}{sp:Sp}{p pos:Pos}{e:Expr}{es:Y8}{t:TA}{E:XK}
end
end L2
namespace L2
open PySem PySem.W PyProof.Rows PySem.SeqAt
variable {items Zc:Z2}{Za:Y0}{s:Rg}{A:Sj}
open AutoSeq1 (wpAny_loadPart')
open MeetsSeq MeetsSeq2 MeetsSeq3
noncomputable def qy(A:Sj)(s:Rg)(y x:Value)(b:Bool):Prop :=
 ∀ (prog:RB) (w:World) (E:Value->Rg->Prop) (Q:Value->Rg->Prop),Q (.bool b) s->wpAny (model prog w) A (richCompare .Lt y x) Q E s
noncomputable def ku{α:Type}[DecidableEq α](lt:α->α->Bool):List α->List α->Bool
 | [],[]=>false
 | [],_ :: _=>true
 | _ :: _,[]=>false
 | a :: as,b :: bs=>if a=b then ku lt as bs else lt a b
section
variable {α:Type}[DecidableEq α]{lt:α->α->Bool}
structure zk(lt:α->α->Bool)(A:Sj)(s:Rg)(items Zc:Z2)(as bs:List α):Prop where
 eq:∀j (h1:j<items.size) (h2:j<Zc.size) a b,as[j]?=some a->bs[j]?=some b->EqAt A s items[j] Zc[j] (decide (a=b))
 lt:∀j (h1:j<items.size) (h2:j<Zc.size) a b,as[j]?=some a->bs[j]?=some b->a≠b->qy A s items[j] Zc[j] (lt a b)
theorem IG(l b:Addr)(items Zc:Z2)(n n2:Nat)(dd dd2:Z5)(sl J!:Array (Z6))(as bs:List α)(lx:as.length=items.size)(ly:bs.length=Zc.size)(k:Nat) :
  ∀i:Nat,items.size - i=k->i<=items.size->i<=Zc.size->Meets (Uu.«list.__eq__.loop» ⟨[.ref l,.ref b,rawInt i,rawInt 0],[]⟩)
   (λA R s=>s.heap.get? l=some { cls:=.type "list",dict:=dd,data:=.seq items n,slots:=sl }/\s.heap.get? b=some { cls:=.type "list",dict:=dd2,data:=.seq Zc n2,slots:=J! } /\
    zk lt A.in1 s items Zc as bs/\R (.ok (.ret (.bool (ku lt (as.drop i) (bs.drop i))))) s):=by
 induction k with
 | zero =>
  intro i hk h1 h2 prog w A R s h;obtain⟨hp,g,d,tk,os⟩:=s;obtain⟨hl,hb,hc,h⟩:=h
  wp_walk using Ta hl,Ta hb
  have hi1:items[((i:Nat):Int).toNat]?=none:=by simp;lia
  rw[hi1];have hd:as.drop i=[]:=by simp;lia
  rw[hd]at h;have e:ku lt [] (bs.drop i)=decide (items.size<Zc.size):=by
   rcases Rz i bs.length with c|c
   .rw[Vm c];show true=_;rw[eq_comm,decide_eq_true_iff];lia
   .rw[List.drop_of_length_le c];show false=_;rw[eq_comm,decide_eq_false_iff_not];lia
  rw[e]at h
  wp_walk using Ta hl,Ta hb
  exact h
 | succ k ih =>
  intro i hk h1 h2 prog w A R s h;obtain⟨hp,g,d,tk,os⟩:=s;obtain⟨hl,hb,hcm,h⟩:=h
  wp_walk using Ta hl,Ta hb
  have Zd:i<items.size:=by lia
  have hi1:items[((i:Nat):Int).toNat]?=some items[i]:=by simp[Zd]
  have hdx:as.drop i=as[i] :: as.drop (i+1):=Vm (by lia)
  rcases Rz i Zc.size with V!|hge2
  .have hi2:Zc[((i:Nat):Int).toNat]?=some Zc[i]:=by simp[V!]
   have hdy:bs.drop i=bs[i] :: bs.drop (i+1):=Vm (by lia)
   have hc:((i:Int)+1)=((i+1:Nat):Int):=by push_cast;rfl
   have ga:as[i]?=some as[i]:=Q8 (by lia)
   have gb:bs[i]?=some bs[i]:=Q8 (by lia)
   rw[hi1,hi2];rw[hdx,hdy]at h;refine Ra (hcm.eq i Zd V! _ _ ga gb prog w _ _ ?_)
   by_cases e:as[i]=bs[i]
   .rw[decide_eq_true e];have h':R (.ok (.ret (.bool (ku lt (as.drop (i+1)) (bs.drop (i+1)))))) ⟨hp,g,d,tk,os⟩:=by
     simp only[ku,if_pos e]at h;exact h
    wp_walk
    rw[hc];exact⟨Tg plain_eq_loop _,SQ entry_eq_loop (by
     rw[Sn plain_eq_loop _];exact ih (i+1) (by lia) (by lia) (by lia) prog w A R _ ⟨hl,hb,hcm,h'⟩)⟩
   .rw[decide_eq_false e];have h':R (.ok (.ret (.bool (lt as[i] bs[i])))) ⟨hp,g,d,tk,os⟩:=by
     simp only[ku,if_neg e]at h;exact h
    wp_walk using Ta hl,Ta hb
    rw[hi1,hi2];refine Ra (hcm.lt i Zd V! _ _ ga gb e prog w _ _ (Rm ?_));exact h'
  .have hi2:Zc[((i:Nat):Int).toNat]?=none:=by simp;lia
   rw[hi1,hi2];have hdy:bs.drop i=[]:=by simp;lia
   rw[hdx,hdy]at h;have e:decide (items.size<Zc.size)=false:=by
    rw[decide_eq_false_iff_not];lia
   wp_walk using Ta hl,Ta hb
   show R (.ok (.ret (.bool (decide (items.size<Zc.size))))) _;rw[e];exact h
theorem An(l b:Addr)(items Zc:Z2)(n n2:Nat)(dd dd2:Z5)(sl J!:Array (Z6))(as bs:List α)(lx:as.length=items.size)(ly:bs.length=Zc.size) :
  Meets (Uu.«list.__lt__» ⟨[.ref l,.ref b],[]⟩)
   (λA R s=>s.heap.get? l=some { cls:=.type "list",dict:=dd,data:=.seq items n,slots:=sl }/\s.heap.get? b=some { cls:=.type "list",dict:=dd2,data:=.seq Zc n2,slots:=J! } /\
    zk lt A.in1 s items Zc as bs/\R (.ok (.ret (.bool (ku lt as bs)))) s):=by
 intro prog w A R s h;obtain⟨hp,g,d,tk,os⟩:=s;obtain⟨hl,hb,hc,h⟩:=h;have f3:=AutoSeq1.sub_list_list
 wp_walk using Ta hl,Ta hb
 exact⟨Tg plain_eq_loop _,SQ entry_eq_loop (by
  rw[Sn plain_eq_loop _];exact IG l b items Zc n n2 dd dd2 sl J! as bs lx ly _ 0 rfl (R5 _) (R5 _) prog w A R _ ⟨hl,hb,hc,by simpa using h⟩)⟩
theorem qy.lists{l b:Addr}{as bs:List α}(hl:s.heap.IsList l items)(hb:s.heap.IsList b Zc)(lx:as.length=items.size)(ly:bs.length=Zc.size)(hu:A.units<cLine)(hc:zk lt A.in1 s items Zc as bs):qy A s (.ref l) (.ref b) (ku lt as bs):=λprog w E Q h=>by
 obtain⟨⟨cls,dd,data,sl⟩,ho,ZH,n,hd⟩:=id hl;obtain⟨⟨cls2,dd2,data2,J!⟩,J',N',n2,hd2⟩:=id hb;simp only at ZH hd N' hd2;subst ZH hd N' hd2;exact VJ (op:=.Lt) ⟨_,ho,rfl⟩ ⟨_,J',rfl⟩ Yk F.entry_list_lt (F.args_list_lt_2 _ _) (An l b items Zc n n2 dd dd2 sl J! as bs lx ly)
  ⟨ho,J',hc,show WT (ku lt as bs)≠Yb/\Q (.bool (ku lt as bs)) s from ⟨(λx=>nomatch x),h⟩⟩ hu
end
class cT(α:Type)[Rep α][DecidableEq α][aJ α] where
 lt:α->α->Bool
 rc:∀ {X:Cx} {Za:Y0} {σ:St} {H:Hp} {s:Rg} {A:Sj} {x y:V} {u v:Value} {a b:α},Inv X Za σ H s->At X.K H x a->At X.K H y b->RelV x u->RelV y v->A.units+aJ.depth α<cLine->qy A s u v (lt a b)
noncomputable instance:cT Int where
 lt:=λa b=>decide (a<b)
 rc:=λ{X Za σ H s A x y u v a b} _ hx hy ru rv _ prog w E Q h=>by
  cases hx;cases hy;obtain⟨t,rfl⟩:∃t,u=.int a t:=ru;obtain⟨t',rfl⟩:∃t,v=.int b t:=rv;exact Xz (VQ _ a t) (VQ _ b t') slot_int_lt (call_int_lt ⟨nofun,h⟩)
theorem Bp{X:Cx}{σ:St}{H:Hp}{α:Type}[Rep α][DecidableEq α][aJ α][cT α]{p q:Addr}{xs ys:Y6}{as bs:List α}
  (I:Inv X Za σ H s) (h1:SqL X.K H p xs) (r1:Sz (Rep.is X.K H) xs as) (h2:SqL X.K H q ys) (r2:Sz (Rep.is X.K H) ys bs) (hu:A.units+(aJ.depth α+1)<cLine) :
  ∃Zb Ze:Y7,s.heap.IsList p Zb.toArray/\s.heap.IsList q Ze.toArray/\as.length=Zb.toArray.size/\bs.length=Ze.toArray.size/\zk cT.lt A.in1 s Zb.toArray Ze.toArray as bs:=by
 walk_at "122";have key:∀j (k1:j<Zb.toArray.size) (k2:j<Ze.toArray.size) a b,as[j]?=some a->bs[j]?=some b->∃x y,At X.K H x a/\At X.K H y b/\RelV x Zb.toArray[j]/\RelV y Ze.toArray[j]:=λj k1 k2 a b ha hb=>by
  have k1':j<Zb.length:=by simpa using k1
  have k2':j<Ze.length:=by simpa using k2
  have hx:j<xs.length:=by lia
  have hy:j<ys.length:=by lia
  obtain⟨u,hu1,ru⟩:=v1.get (i:=j) (x:=xs[j]) (by simp[hx])
  obtain⟨v,hv1,rv⟩:=v2.get (i:=j) (x:=ys[j]) (by simp[hy])
  obtain⟨a',A',ra⟩:=Paired.getL r1 (i:=j) (a:=xs[j]) (by simp[hx])
  obtain⟨b',Zi,rb⟩:=Paired.getL r2 (i:=j) (a:=ys[j]) (by simp[hy])
  rw[ha]at A';rw[hb]at Zi;cases A';cases Zi;have eu:Zb.toArray[j]=u:=by
   have:Zb[j]?=some Zb[j]:=by simp[k1']
   rw[this]at hu1
   simpa using hu1
  have ev:Ze.toArray[j]=v:=by
   have:Ze[j]?=some Ze[j]:=by simp[k2']
   rw[this]at hv1
   simpa using hv1
  rw[eu,ev];exact⟨_,_,ra,rb,ru,rv⟩
 refine⟨Zb,Ze,p1.isList,p2.isList,by simp;lia,by simp;lia,λj k1 k2 a b ha hb=>?_,λj k1 k2 a b ha hb _=>?_⟩
 .obtain⟨x,y,ra,rb,ru,rv⟩:=key j k1 k2 a b ha hb;exact aJ.eq (A:=A.in1) I ra rb ru rv (tD hu)
 .obtain⟨x,y,ra,rb,ru,rv⟩:=key j k1 k2 a b ha hb;exact cT.rc (A:=A.in1) I ra rb ru rv (tD hu)
noncomputable instance {α:Type}[Rep α][DecidableEq α][aJ α][cT α]:cT (List α) where
 lt:=ku cT.lt
 rc:=λ{X Za σ H s A x y u v a b} I hx hy ru rv hu=>by
  walk_at "125";obtain⟨Zb,Ze,l1,l2,e1,e2,hc⟩:=Bp (A:=A) I h1 r1 h2 r2 hu;exact qy.lists l1 l2 e1 e2 (by lia) hc
end L2
namespace L2
noncomputable def ltP{α β:Type}[DecidableEq α][DecidableEq β](lt:α->α->Bool)(lt':β->β->Bool)(x y:α×β):Bool:=if x.1=y.1 then (if x.2=y.2 then false else lt' x.2 y.2) else lt x.1 y.1
end L2
namespace L2
open PySem PySem.W PySem.Spec PyProof.Rows
variable {a:Addr}{Q:Bool->Rg->Prop}{X:Cx}{H:Hp}{Za:Y0}{vs:Y7}{s:Rg}{σ:St}{u:Value}{E:Value->Rg->Prop}{P:YR->Rg->Prop}
section
noncomputable abbrev Cx.in2(X:Cx):Cx:={ X with A:=X.A.in1.in1,xe:=λ_ _=>False }
theorem Cx.Ok.in2(ok:X.Ok):X.in2.Ok :=
 ⟨ok.mod,ok.kind,ok.glob,ok.blt,ok.above,ok.inj,ok.has,ok.cab,ok.hd,ok.frames,ok.stk,ok.exf,ok.bs,ok.bsz,ok.tw,ok.tW,ok.jd,ok.frf⟩
theorem Cx.Ok.Jk(ok:X.in2.Ok):X.Ok :=
 ⟨ok.mod,ok.kind,ok.glob,ok.blt,ok.above,ok.inj,ok.has,ok.cab,ok.hd,ok.frames,ok.stk,ok.exf,ok.bs,ok.bsz,ok.tw,ok.tW,ok.jd,ok.frf⟩
theorem Inv.in2(I:Inv X Za σ H s):Inv X.in2 Za σ H s:=⟨I.ok.in2,I.os,I.bare,I.base,I.loc,I.cell,I.free,I.gn,I.pin,I.hok,I.len⟩
theorem Inv.Jk(I:Inv X.in2 Za σ H s):Inv X Za σ H s:=⟨I.ok.Jk,I.os,I.bare,I.base,I.loc,I.cell,I.free,I.gn,I.pin,I.hok,I.len⟩
structure mX(X:Cx)(Za:Y0)(a:Addr):Prop where
 ab:X.s₀.heap.objs.size<=a
 nl:a≠X.env.locals
 nc:∀x c,X.env.cells.lookup x=some c->c≠a
 px:∀p∈X.pn++Za,p.1≠a
 nf:a∉X.fs
theorem Inv.Nj(I:Inv X Za σ H s)(h:s.heap.objs.size<=a):mX X Za a :=
 ⟨RU I.sz h,T3 (RH I.lt h),λx c e=>by
  obtain⟨v,o,ho,_⟩:=I.cell x c e;exact Ry (RH (Rv ho) h),λp hp=>Ry (RH (Rv (I.pin p hp).1) h),I.Nf h⟩
theorem Inv.adopt{x:Addr}{o:HO}(I:Inv X Za σ H s)(fx:H x=none)(m:mX X Za x)(new:bR X.prog X.w (upd H x o) s.heap x o):Inv X Za σ (upd H x o) s:=by
 have nn:∀b u,H b=some u->b≠x:=λb u e z=>by rw[z,fx]at e;cases e
 refine⟨I.ok,I.os,I.bare,⟨I.base.keep,I.base.slot,λb ob e n hx=>?_,I.base.there,λb xs e=>?_,λb ob u e=>?_,λb ps e=>?_⟩,I.loc,I.cell,?_,λy c e=>?_,λp hp=>?_,λb u e=>?_,I.len⟩
 .rw[ak (Ry (RH (Rv e) m.ab))];exact I.base.free b ob e n hx
 .have q:=I.base.oY b xs e;rw[ak (nn _ _ q)];exact q
 .have q:=I.base.m9 b ob u e;rw[ak (nn _ _ q)];exact q
 .obtain⟨m,q⟩:=I.base.oy b ps e;exact⟨m,by rw[ak (nn _ _ q)];exact q⟩
 .rw[ak m.nl.symm];exact I.free
 .rw[ak (m.nc y c e)];exact I.gn y c e
 .obtain⟨e,n,ne,nf,d⟩:=I.pin p hp;exact⟨e,by rw[ak (m.px p hp)];exact n,ne,nf,d⟩
 .by_cases hb:b=x
  .subst hb;rw[ai]at e;cases e;exact new
  .rw[ak hb]at e;refine(I.hok b u e).tL (λc v _ q=>q) (λc q=>by rw[ak (nn _ _ q)];exact q) λc xs q=>by rw[ak (nn _ _ q)];exact q
structure vm(X:Cx)(Za:Y0)(σ:St)(a kS:Addr)(e1:Nat)(H:Hp)(s:Rg)(ks:Y6):Prop where
 inv:Inv X Za σ H s
 fa:H a=none
 fk:H kS=none
 ea:s.heap.get? a=some (seqObj "list" #[] e1)
 ek:∃kv n,Vals ks kv/\s.heap.get? kS=some (seqObj "list" (R1 kv) n)
variable {kS:Addr}{e1:Nat}{f:Value}{xs ks:Y6} 
theorem JC(J:Nat->List V->Hp->Prop)(rv:Vals xs vs)(Z9:vs.length<64)(ma:mX X Za a)(mk:mX X Za kS)(hka:kS≠a)
  (turn:∀ (pins':Y0) (s':Rg) (H':Hp) (i:Nat) (x:V) (v:Value) (ks:Y6),Inv X pins' σ H' s'->xs[i]?=some x->RelV x v->J i ks H'->wpAny (model X.prog X.w) X.A (call f [v]) (EP X pins' σ λk Zn=>J (i+1) (ks++[k]) Zn) (λ_ _=>False) s')
  (done:∀ (s':Rg) (H':Hp) (ks:Y6) (keys:Y7) (n:Nat),vm X Za σ a kS e1 H' s' ks->ks.length=xs.length->J xs.length ks H'->Vals ks keys->s'.heap.get? kS=some (seqObj "list" (R1 keys) n) ->
   wpAny (model X.prog X.w) X.A (ksk_end a false vs.toArray e1 (.ref kS) (R1 keys)) P E s')
  (I:vm X Za σ a kS e1 H s []) (j0:J 0 [] H):wpAny (model X.prog X.w) X.A (ksk_rest a f false vs.toArray e1 (.ref kS)) P E s:=by
 unfold ksk_rest;refine Ra (X7 ?_)
 first
  | rw[WH]
  | (rw[<- Array.forIn_toList];simp only[List.toList_toArray])
  | rw[<- Array.forIn_toList]
 refine Ra (ksk_fold (λi s'=>∃H' ks,vm X Za σ a kS e1 H' s' ks/\ks.length=i/\J i ks H') vs 0 s ⟨H,[],I,rfl,j0⟩ ?step ?done)
 case step =>
  rintro j v s' hv ⟨H',ks,K,hl,hJ⟩;simp only[Tj]at hl hJ ⊢;have hj:j<vs.length:=(Q9.mp hv).1;have hjx:j<xs.length:=by rw[rv.length];exact hj
  have hx:xs[j]?=some xs[j]:=Q8 hjx;obtain⟨kv,n,rk,ek⟩:=K.ek;have W!:=rk.length;have Ip:=K.inv.rS (pins':=(a,seqObj "list" #[] e1) :: (kS,seqObj "list" (R1 kv) n) :: Za) λp hp=>by
   rcases RA.mp hp with rfl|hp
   .exact⟨K.ea,K.fa,ma.nl,ma.nf,λv z=>nomatch z⟩
   .rcases RA.mp hp with rfl|hp
    .exact⟨ek,K.fk,mk.nl,mk.nf,λv z=>nomatch z⟩
    .exact K.inv.pin p (RX _ hp)
  refine Ra (Wb (TX (turn _ s' H' j _ v ks Ip hx (Vals.getL rv hx hv) hJ) (λu S! he=>?_) λ_ _ hF=>hF.elim));obtain⟨k,Zn,I2,r2,hJ2⟩:=he
  try dsimp only
  have na:=I2.pin (a,seqObj "list" #[] e1) (RX _ (.head _));have nk:=I2.pin (kS,seqObj "list" (R1 kv) n) (RX _ (.tail _ (.head _)));have s1:=Ul S!.heap kS (RY (·.push u));obtain⟨c2,N'⟩:∃c2,(S!.heap.update kS (RY (·.push u))).get? kS=some (seqObj "list" ((R1 kv).push u) c2):=⟨_,Wt nk.1 (·.push u)⟩;have I3:Inv X Za σ Zn S!:=I2.rS λp hp=>I2.pin p (RX _ (.tail _ (.tail _ hp)));have I4:=I3.turned (h':=S!.heap.update kS (RY (·.push u))) (t':=S!.toks) (it:=kS) (λb o hb e=>(s1.2 b hb).trans e) nk.2.1 mk.nl (.inr mk.ab) mk.nc mk.px;refine Ra (Ve nk.1 rfl ?_ (by rw[Rx,RO];lia) (RU (U2 (Array.size_push ..)) (by rw[Rx,RO];lia)))
  exact Rm ⟨rfl,Zn,ks++[k],⟨I4,na.2.1,nk.2.1,(s1.2 a hka.symm).trans na.1,kv++[u],c2,rk.append (.cons r2 .nil),by rw[<- List.push_toArray];exact N'⟩,by rw[Rt,hl];rfl,hJ2⟩
 case done =>
  rintro s' ⟨H',ks,K,hl,hJ⟩;obtain⟨kv,n,rk,ek⟩:=K.ek;have e:0+vs.length=xs.length:=by rw[rv.length,Tj]
  rw[e]at hl hJ
  try dsimp only
  refine Ra (YL ek rfl ?_);exact done s' H' ks kv n K hl hJ rk ek
end
noncomputable def dX{α:Type}[Rep α](K:Q7)(H:Hp)(v:V)(z:Int×α):Prop:=∃p x,v=.ref p/\SqT K H p [.int z.1,x]/\At K H x z.2
section
variable {α:Type}[Rep α][DecidableEq α][aJ α][cT α]
theorem vB{v:V}{z:Int×α}(I:Inv X Za σ H s)(h:dX X.K H v z)(r:RelV v u) :
  ∃p t x w,u=.ref p/\IsTup s.heap p (R1 [.int z.1 t,w])/\At X.K H x z.2/\RelV x w:=by
 obtain⟨p,x,rfl,hS,ha⟩:=h;obtain⟨Zb,rv,ht,_⟩:=I.tuple hS;obtain⟨u1,w,rfl,r1,r2⟩:∃u1 w,Zb=[u1,w]/\RelV (.int z.1) u1/\RelV x w:=by
  cases rv with
  | cons h1 r =>
   cases r with
   | cons h2 r =>
    cases r with
    | nil=>exact⟨_,_,rfl,h1,h2⟩
 obtain⟨t,rfl⟩:∃t,u1=.int z.1 t:=r1;exact⟨p,t,x,w,r,ht,ha,r2⟩
noncomputable def ltK(z z':Int×α):Bool:=ltP (λa b:Int=>decide (a<b)) cT.lt z z'
theorem K9{A:Sj}{v v':V}{u':Value}{z z':Int×α}(I:Inv X Za σ H s)(h:dX X.K H v z)(h':dX X.K H v' z')(r:RelV v u)(r':RelV v' u')(hu:A.units+aJ.depth α<cLine)
  (q:Q (ltK z z') s):wpAny (model X.prog X.w) A (keyLt' (tuples' true) u u') Q E s:=by
 obtain⟨p,t,x,w,rfl,⟨o,ho,hc,n,hd⟩,ha,rx⟩:=vB I h r;obtain⟨p',t',x',w',rfl,⟨o',ho',ZH,n',dh⟩,A',rx'⟩:=vB I h' r';refine kat_lt ho hd ho' dh ?_;show KatLex X.prog X.w A true false Q [(.int z.1 t,.int z'.1 t'),(w,w')] 0 s;unfold ltK ltP at q;refine kat_cons (wpAny_eqBool_int ?_)
 by_cases e:z.1=z'.1
 .rw[if_pos e]at q;rw[show (z.1 == z'.1)=true from by rw[e];exact beq_self_eq_true _]
  refine kat_yes (kat_cons (aJ.eq (A:=A) I ha A' rx rx' hu X.prog X.w _ _ ?_))
  by_cases e2:z.2=z'.2
  .rw[if_pos e2]at q;rw[decide_eq_true e2];exact kat_yes (kat_nil q)
  .rw[if_neg e2]at q;rw[decide_eq_false e2];exact kat_no (kat_one _ _ (cT.rc (A:=A) I ha A' rx rx' hu X.prog X.w _ _ q))
 .rw[if_neg e]at q;rw[show (z.1 == z'.1)=false from by simpa using e]
  exact kat_no (oneLt_int q)
end
end L2
namespace L2
open PySem PySem.W PySem.Spec PyProof.Rows
variable {p:Z3}{Za:Y0}{keys vs:Y7}{n:Nat}{E:Value->Rg->Prop}{P:YR->Rg->Prop}
theorem Gf{α β:Type}{vs:List α}{L:List β}(d:α)(d':β)(h:vs.length=L.length):(Rh vs.length).map (λi=>(vs.getD i d,L.getD i d'))=vs.zip L:=by
 apply SV;intro i;rw[Ro]
 by_cases c:i<vs.length
 .have c':i<L.length:=by lia
  rw[S8 c,Q8 (by simp;lia)]
  simp[c,c']
 .rw[RF (by simp;lia),RF (by simp;lia)]
  rfl
section
variable {X:Cx}{σ:St}{H:Hp}{s:Rg}{a kS:Addr}{e1:Nat}{f:Value}{xs ks:Y6} 
theorem AQ{st:SortSt}(K:vm X Za σ a kS e1 H s ks)(ma:mX X Za a)(mk:mX X Za kS)(hka:kS≠a)(rv:Vals xs vs)(Z9:vs.length<64)(hkl:keys.length=vs.length)
  (ek:s.heap.get? kS=some (seqObj "list" (R1 keys) n)) (hout:(arrOf st).map (·.2)=R1 (p.toList.map λi=>vs.getD i SF)) (hp:p.size=vs.length) (ZX:∀i∈p.toList,i<xs.length) (hf:failedOf st=none)
  (fin:∀s',Inv X Za σ (upd H a (.lst (p.toList.map λi=>xs.getD i .non))) s'->P (.done (.ret .none)) s'):wpAny (model X.prog X.w) X.A (ksk_tail a false e1 (.ref kS) st) P E s:=by
 have s1:=Ul s.heap kS (RY λ_=>(#[]:Z2));have ea1:(s.heap.update kS (RY λ_=>(#[]:Z2))).get? a=some (seqObj "list" #[] e1):=(s1.2 a hka.symm).trans K.ea;have s2:=Ul (s.heap.update kS (RY λ_=>(#[]:Z2))) a (RY λ_=>R1 (p.toList.map λi=>vs.getD i SF));obtain⟨c2,N'⟩:∃c2,((s.heap.update kS (RY λ_=>(#[]:Z2))).update a (RY λ_=>R1 (p.toList.map λi=>vs.getD i SF))).get? a=some (seqObj "list" (R1 (p.toList.map λi=>vs.getD i SF)) c2) :=
  ⟨_,Wt ea1 λ_=>R1 (p.toList.map λi=>vs.getD i SF)⟩
 have I1:=K.inv.turned (h':=s.heap.update kS (RY λ_=>(#[]:Z2))) (t':=s.toks) (it:=kS) (λb o hb e=>(s1.2 b hb).trans e) K.fk mk.nl (.inr mk.ab) mk.nc mk.px;have I2:=I1.turned (h':=(s.heap.update kS (RY λ_=>(#[]:Z2))).update a (RY λ_=>R1 (p.toList.map λi=>vs.getD i SF))) (t':=s.toks) (it:=a) (λb o hb e=>(s2.2 b hb).trans e) K.fa ma.nl (.inr ma.ab) ma.nc ma.px;have I3:=I2.adopt (o:=.lst (p.toList.map λi=>xs.getD i .non)) K.fa ma ⟨by rw[Rc,RZ,hp,RO];lia,_,c2,ql rv p.toList ZX,N'⟩
 have hsz:(R1 (p.toList.map λi=>vs.getD i SF)).size=vs.length:=by rw[Rx,Rc,RZ,hp]
 unfold ksk_tail
 try dsimp only
 rw[hout];simp only[Sv,if_false];refine Ra (Ve ek rfl ?_ (by rw[Rx,RO];lia) (R5 _))
 refine Ra (Wm ?_);refine Ra (Xj ea1 rfl ?_);refine Ra (Ve ea1 rfl ?_ (R5 _) (RU (U2 hsz) (by rw[RO];lia)))
 rw[hf];simp only[bne_self_eq_false,Sv,if_false];exact Rm (fin _ I3)
variable {α:Type}[Rep α][DecidableEq α][aJ α][cT α][Inhabited α]
theorem xB(I:Inv X Za σ H s):∀ {ks:Y6} {kk:List (Int×α)} {keys:Y7},Sz (dX X.K H) ks kk->Vals ks keys->∃fs:Y7,KatTups s.heap keys fs/\fs.length=keys.length/\∀v∈fs,∃i t,v=Ui i t
 | [],_,_,_,.nil=>⟨[],KatTups.nil,rfl,λv hv=>absurd hv (by simp)⟩
 | _ :: _,[],_,h,_=>nomatch h
 | k :: ks,z :: kk,u :: keys,.cons h hs,.cons r rs=>by
  obtain⟨fs,t,hl,hi⟩:=xB I hs rs;obtain⟨p,tk,x,w,rfl,⟨o,ho,hc,n,hd⟩,ha,rx⟩:=vB I h r;refine⟨.int z.1 tk :: fs,KatTups.cons ho hc hd rfl t,by simp[hl],λv hv=>?_⟩
  rcases RA.mp hv with rfl|hv
  .exact⟨_,_,rfl⟩
  .exact hi v hv
theorem KN{kk:List (Int×α)}(K:vm X Za σ a kS e1 H s ks)(ma:mX X Za a)(mk:mX X Za kS)(hka:kS≠a)(rv:Vals xs vs)(Z9:vs.length<64)(rk:Vals ks keys)(hkl:ks.length=xs.length)
  (ek:s.heap.get? kS=some (seqObj "list" (R1 keys) n)) (hp:Sz (dX X.K H) ks kk) (hu:X.A.units+aJ.depth α<cLine)
  (fin:∀ (s':Rg) (zs:List (V×(Int×α))),Inv X Za σ (upd H a (.lst (zs.map (·.1)))) s'->zs.Perm (xs.zip kk)->P (.done (.ret .none)) s') :
  wpAny (model X.prog X.w) X.A (ksk_end a false vs.toArray e1 (.ref kS) (R1 keys)) P E s:=by
 have e1':=rv.length;have e2':=rk.length;have e3':=hp.length;have W!:keys.length=vs.length:=by lia
 have use:∀p:Z3,p.Perm (R1 (Rh vs.length))->∀s',Inv X Za σ (upd H a (.lst (p.toList.map λi=>xs.getD i .non))) s'->P (.done (.ret .none)) s':=λp a1 s' I'=>by
  have psz:p.size=vs.length:=by have:=a1.size_eq;simpa using this
  have pm:p.toList.Perm (Rh vs.length):=by
   have:=a1.toList
   simpa using this
  refine fin s' (p.toList.map λi=>(xs.getD i .non,kk.getD i (0,default))) ?_ ?_
  .rw[T4];exact I'
  .have:=pm.map λi=>(xs.getD i V.non,kk.getD i (0,default));rw[<- e1',Gf _ _ (by lia)]at this
   o_rec
 unfold ksk_end
 try dsimp only
 simp only[Sv,if_false]
 by_cases h2:vs.toArray.size<2
 .rw[if_pos h2,if_pos h2];refine Ra (Rm ?_);rw[StateT.run_pure];refine Ra (Rm ?_)
  try dsimp only
  rw[Rx]at h2;refine AQ (p:=R1 (Rh vs.length)) K ma mk hka rv Z9 W! ek (?_) (by simp) (λi hi=>?_) rfl (use _ (UG _))
  .show ((R1 keys).zip vs.toArray).map (·.2)=_;apply V6.mp;rw[Xs,Array.toList_zip];show (keys.zip vs).map (·.2)=(Rh vs.length).map λi=>vs.getD i SF;rw[v5];exact List.map_snd_zip (by lia)
  .have:i<vs.length:=by simpa using hi
   lia
 .rw[if_neg h2,if_neg h2];rw[Rx]at h2;obtain⟨fs,t,hl,hi⟩:=xB K.inv hp rk;refine Ra (kat_kind (T:=.type "int") t (by lia) (λv hv=>?_) (by decide) ?_)
  .obtain⟨i,tk,rfl⟩:=hi v hv;exact λA' Q' E' s' k' q'=>Vt (T:="int") (VQ _ i tk) q'
  show wpAny _ _ _ _ _ s;have f1:=zO (lt:=λi j=>ltK (kk.getD i ((0:Int),(default:α))) (kk.getD j ((0:Int),(default:α)))) (n:=vs.length);have ask:=ni (cmp:=YV X.prog X.w X.A (tuples' true) keys) (lt:=λi j=>ltK (kk.getD i (0,default)) (kk.getD j (0,default))) (n:=vs.length) (s:=s) (G:=λ_=>True)
   (Q:=λp s'=>p=fP (λi j=>ltK (kk.getD i (0,default)) (kk.getD j (0,default))) (Wd vs.length)/\s'=s) (λi j C hi hj hC=>by
    have k1:i<ks.length:=by lia
    have k2:j<ks.length:=by lia
    obtain⟨u,hu1,ru⟩:=rk.get (Q8 k1);obtain⟨u',hu2,ru'⟩:=rk.get (Q8 k2);obtain⟨z,hz,rz⟩:=Paired.getL hp (Q8 k1);obtain⟨z',hz',rz'⟩:=Paired.getL hp (Q8 k2);unfold YV;rw[Rf,Rf,hu1,hu2];rw[Rf,Rf,hz,hz']at hC;exact K9 K.inv rz rz' ru ru' hu hC) (Wd vs.length) (Au (by lia)) ⟨rfl,rfl⟩
  refine Ra (TX (kat_run (Q:=λZY s'=>s'=s/\∃p:Z3,p=fP (λi j=>ltK (kk.getD i (0,default)) (kk.getD j (0,default))) (Wd vs.length)/\p.size=vs.length/\arrOf ZY=p.map (kas_item ((R1 keys).zip vs.toArray))/\failedOf ZY=none)
   W! (by lia) Z9 (λp ZY s' a1 a2 a3 a4=>⟨a4.2,p,a4.1,a1,a2,a3⟩) ask) ?_ λ_ _ e=>e)
  rintro⟨⟨⟩,ZY⟩ s' ⟨rfl,p,rfl,hp',har,hf⟩
  try dsimp only
  exact AQ K ma mk hka rv Z9 W! ek (kat_snds W! har) hp' (λi hi=>by
   have pm:=f1.toList;have:i∈Rh vs.length:=by simpa using pm.mem_iff.mp hi
   have:=Ri.mp this;lia) hf (use _ f1)
end
end L2
namespace L2
open PySem PySem.W PySem.Spec PyProof.Rows
variable {X:Cx}{H:Hp}{Za:Y0}{ps:Z0}{vs:Y7}{sp:Sp}{σ:St}{te:TE}{Q:VK}{E:Value->Rg->Prop}{P:YR->Rg->Prop}
section
variable {s:Rg}{a kS:Addr}{e1:Nat}{f:Value}{xs ks:Y6}{α:Type}[Rep α][DecidableEq α][aJ α][cT α][Inhabited α]
theorem IF{n:Nat}(J:Nat->List V->Hp->Prop)(I:Inv X Za σ H s)(ho:s.heap.get? a=some (seqObj "list" vs.toArray n))(fa:H a=none)(ma:mX X Za a)(rv:Vals xs vs)(Z9:vs.length<64)(hu:X.A.units+aJ.depth α<cLine)
  (j0:J 0 [] H)
  (turn:∀ (pins':Y0) (s':Rg) (H':Hp) (i:Nat) (x:V) (v:Value) (ks:Y6),Inv X pins' σ H' s'->xs[i]?=some x->RelV x v->J i ks H'->wpAny (model X.prog X.w) X.A (call f [v]) (EP X pins' σ λk Zn=>J (i+1) (ks++[k]) Zn) (λ_ _=>False) s')
  (fin:∀ (s':Rg) (H':Hp) (ks:Y6),ks.length=xs.length->J xs.length ks H'->H' a=none->∃kk:List (Int×α),Sz (dX X.K H') ks kk /\
   ∀ (s':Rg) (zs:List (V×(Int×α))),Inv X Za σ (upd H' a (.lst (zs.map (·.1)))) s'->zs.Perm (xs.zip kk)->P (.done (.ret .none)) s') :
  wpAny (model X.prog X.w) X.A (ksk_tree a f false) P E s:=by
 have ha:a<s.heap.objs.size:=Rv ho;have s1:=Ul s.heap a (RY λ_=>(#[]:Z2));obtain⟨e1,ho1⟩:∃e1,(s.heap.update a (RY λ_=>(#[]:Z2))).get? a=some (seqObj "list" #[] e1):=⟨_,Wt ho λ_=>#[]⟩;have hkS:((s.heap.update a (RY λ_=>(#[]:Z2))).push (seqObj "tuple" vs.toArray 0)).objs.size=s.heap.objs.size+1:=by rw[Yz,Vp]
 have I1:=I.turned (h':=s.heap.update a (RY λ_=>(#[]:Z2))) (t':=s.toks) (it:=a) (λb o hb e=>(s1.2 b hb).trans e) fa ma.nl (.inr ma.ab) ma.nc ma.px;have I2:=I1.kept (h':=((s.heap.update a (RY λ_=>(#[]:Z2))).push (seqObj "tuple" vs.toArray 0)).push (seqObj "list" #[] 0)) (t':=s.toks) λb u e=>Rl _ (Rl _ e);have hle:s.heap.objs.size<=((s.heap.update a (RY λ_=>(#[]:Z2))).push (seqObj "tuple" vs.toArray 0)).objs.size:=by rw[hkS];exact S6 _
 have mk:mX X Za ((s.heap.update a (RY λ_=>(#[]:Z2))).push (seqObj "tuple" vs.toArray 0)).objs.size:=I.Nj hle;have hka:((s.heap.update a (RY λ_=>(#[]:Z2))).push (seqObj "tuple" vs.toArray 0)).objs.size≠a:=by rw[hkS];exact T3 (Sw ha)
 unfold ksk_tree;refine Ra (YL ho rfl ?_);refine Ra (Ve ho rfl ?_ (by rw[Rx,RO];lia) (R5 _))
 refine Ra (Xj ho1 rfl ?_);refine Ra (Yh ?_ (by show vs.length<=_;rw[RO];lia))
 refine Ra (VG ?_ (R5 _));refine SA ?_;refine JC J rv Z9 ma mk hka turn (λs' H' ks keys n K hl hJ rk ek=>?_) ⟨I2,fa,I.hok.fresh hle,Rl _ (Rl _ ho1),[],0,.nil,RC _ rfl⟩ j0;obtain⟨kk,hp,q⟩:=fin s' H' ks hl hJ K.fa;exact KN K ma mk hka rv Z9 rk hl ek hp hu q
theorem D1{l q:Addr}(J:Nat->List V->Hp->Prop)(I:Inv X Za σ H s)(hS:SqL X.K H l xs)(Z9:xs.length<64)(hu:X.A.units+2+aJ.depth α<cLine)(j0:J 0 [] H)
  (turn:∀ (pins':Y0) (s':Rg) (H':Hp) (i:Nat) (x:V) (v:Value) (ks:Y6),Inv X.in2 pins' σ H' s'->xs[i]?=some x->RelV x v->J i ks H'->wpAny (model X.prog X.w) X.in2.A (call (.ref q) [v]) (EP X.in2 pins' σ λk Zn=>J (i+1) (ks++[k]) Zn) (λ_ _=>False) s')
  (fin:∀ (H':Hp) (ks:Y6),ks.length=xs.length->J xs.length ks H'->∃kk:List (Int×α),Sz (dX X.K H') ks kk /\
   ∀ (d:Addr) (zs:List (V×(Int×α))),H' d=none->zs.Perm (xs.zip kk)->Q (.ref d) (upd H' d (.lst (zs.map (·.1))))) :
  wpAny (model X.prog X.w) X.A (call (.builtin "sorted") [.ref l] [(Vu "key",.ref q)]) (EP X Za σ Q) E s:=by
 obtain⟨vs,rv,pl,hz⟩:=I.list hS;have hl:=pl.isList;have e1:=rv.length;refine call_function_entry_kw Yp XX XY (ksk_s1 _ _) ?_;l_fit;refine Ra (collect_list hl ?_ (by rw[RO];lia))
 refine Ra (VG ?_ (by rw[RO];lia))
 have hsz:((s.heap.push (seqObj "list" #[] 0)).update s.heap.objs.size (RY (·++vs.toArray))).objs.size=s.heap.objs.size+1:=by
  rw[Vp,Yz]
 have hoL:(((s.heap.push (seqObj "list" #[] 0)).update s.heap.objs.size (RY (·++vs.toArray))).push (seqObj "list" vs.toArray 0)).get? (s.heap.objs.size+1)=some (seqObj "list" vs.toArray 0):=by
  rw[<- hsz];exact RC _ rfl
 have keep:∀b o,s.heap.get? b=some o->(((s.heap.push (seqObj "list" #[] 0)).update s.heap.objs.size (RY (·++vs.toArray))).push (seqObj "list" vs.toArray 0)).get? b=some o:=λb o q=>by
  have Zd:b<s.heap.objs.size:=Rv q;rw[UH _ _ _ (by rw[hsz];exact Ry (Sw Zd)),Wu _ _ _ _ (Ry Zd),UH _ _ _ (Ry Zd)]
  exact q
 show wpAny _ _ _ _ _ { s with heap:=((s.heap.push (seqObj "list" #[] 0)).update s.heap.objs.size (RY (·++vs.toArray))).push (seqObj "list" vs.toArray 0) };rw[hsz];refine Ra (SA (wpAny_call_entry_kw WR ⟨_,hoL,rfl⟩ Ws ?body (ksk_l1 _ _)))
 case body =>
  show wpAny (model X.prog X.w) X.in2.A (Uu.«list.sort» ⟨[.ref (s.heap.objs.size+1)],[(Vu "key",.ref q)]⟩) _ _ _;rw[ksk_t1];have I1:=(I.kept (h':=((s.heap.push (seqObj "list" #[] 0)).update s.heap.objs.size (RY (·++vs.toArray))).push (seqObj "list" vs.toArray 0)) (t':=s.toks) keep).in2;refine IF (X:=X.in2) J I1 hoL (I.hok.fresh (S6 _)) (I.in2.Nj (S6 _)) rv (by lia) (by show X.A.units+1+1+_<cLine;lia) j0 turn λs' H' ks hk hJ hn=>?_
  obtain⟨kk,hp,qq⟩:=fin H' ks hk hJ;exact⟨kk,hp,λs2 zs I2 z1=>⟨_,rfl,Rm ⟨_,rfl,⟨.ref (s.heap.objs.size+1),_,I2.Jk,rfl,qq _ zs hn z1⟩⟩⟩⟩
end
noncomputable def wY(α:Type)[Rep α][DecidableEq α][aJ α][cT α](K:Q7)(sp:Sp)(te:TE):TE:=λσ H Q=>te σ H λx H1=>∃ (l:Addr) (xs:Y6) (J:Nat->List V->Hp->Prop),x=.ref l/\SqL K H1 l xs/\xs.length<64/\J 0 [] H1 /\
 (∀i y ks H2,xs[i]?=some y->J i ks H2->sp [y] H2 (λk H3=>J (i+1) (ks++[k]) H3) E0) /\
 ∀ks H2,ks.length=xs.length->J xs.length ks H2->∃kk:List (Int×α),Sz (dX K H2) ks kk /\
  ∀ (d:Addr) (zs:List (V×(Int×α))),H2 d=none->zs.Perm (xs.zip kk)->Q (.ref d) (upd H2 d (.lst (zs.map (·.1))))
section
variable {k:Nat}{x:Str}{st:Stmt}{p pos kp R!:Pos}{e:Expr}{α:Type}[Rep α][DecidableEq α][aJ α][cT α][Inhabited α]
theorem CD(d:Df X.K X.mg x st ps)(G:aH X.prog X.w X.K X.mg X.base CX0 k d.f d.fd ps sp)(hr:bQ (k+2) X.A)(hz:aJ.depth α<32)(hg:Gl X "sorted")(hm:X.mg "sorted" = none)(hg':Gl X x)(he:PE X e te)(ZA:(x == ("__debug__" : Str))=false:=by decide)(hn:isStar e=false:=by rfl) :
  PE X (.Call (.Name "sorted" p) [e] [⟨some "key",.Name x kp,R!⟩] pos) (wY α X.K sp te):=by
 f_are;refine UY (fZ I hg hm boot_sorted ?_ (by decide) (by decide))
 refine callWith_kw ?_ (by rw[a7 hn];rfl) (cD (by simp[hn]))
 rw[a7 (e:=e) (es:=[]) hn];show wpAny _ _ (spliced ((false,eval e X.env) :: backTo pos (So [] X.env))) _ _ s;refine Vx (thn (he Za s σ H _ I h) λu s1 ⟨v,H1,I1,r1,l,xs,J,ev,hS,Z9,j0,step,fin⟩=>?_);subst ev;cases(show u=RN l from r1);refine VP ?_;show wpAny _ _ (evalAll [do let v <- eval (.Name x kp) X.env;standAt pos;pure v]) _ _ _;refine wpAny_evalAll_cons (Ra (nv I1 hg' d.nm (Ra (Wa (Rm (wpAny_evalAll_nil ?_)))) ZA));exact D1 J I1 hS Z9 (by have:=hr.un;lia) j0 (λpins' s' H' i y v ks I' hy ry hJ=>uA (X:=X.in2) (us:=[v]) (vs:=[y]) (dvs:=[]) (ds:=[]) G (bQ.in1 (bQ.in1 hr)) d.bd .nil jL I' (.cons ry .nil) (step i y ks H' hy hJ)) λH2 ks=>fin ks H2
end
theorem EG{α:Type}[Rep α][DecidableEq α][aJ α][cT α]{K:Q7}(h:te σ H λx H1=>∃ (l:Addr) (xs:Y6) (J:Nat->List V->Hp->Prop),x=.ref l/\SqL K H1 l xs/\xs.length<64/\J 0 [] H1 /\
 (∀i y ks H2,xs[i]?=some y->J i ks H2->sp [y] H2 (λk H3=>J (i+1) (ks++[k]) H3) E0) /\
 ∀ks H2,ks.length=xs.length->J xs.length ks H2->∃kk:List (Int×α),Sz (dX K H2) ks kk /\
  ∀ (d:Addr) (zs:List (V×(Int×α))),H2 d=none->zs.Perm (xs.zip kk)->Q (.ref d) (upd H2 d (.lst (zs.map (·.1))))):wY α K sp te σ H Q:=h
end L2
namespace L2
open PySem PySem.W PySem.Spec PyProof.Rows
variable {items:Z2}{bt:Nat->Nat->Bool}{E Q:Value->Rg->Prop}{R:XF->Rg->Prop}
section
variable {prog:RB}{w:World}{A:Sj}{s₀:Rg}{I l S:Addr} 
noncomputable def C6(prog:RB)(w:World)(A:Sj)(s₀:Rg)(items:Z2)(bt:Nat->Nat->Bool):Prop :=
 ∀i j vi vj (h':Heap) (tk:Nat) (Q:Value->Rg->Prop) (E:Value->Rg->Prop),(∀b o,s₀.heap.get? b=some o->h'.get? b=some o)->items[i]?=some vi->items[j]?=some vj->Q (.bool (bt i j)) { s₀ with heap:=h',toks:=tk } ->
  wpAny (model prog w) A (richCompare .Lt vi vj) Q E { s₀ with heap:=h',toks:=tk }
theorem Gm(hh:A.in1.handled=none)(hlI:l≠I)(hcmp:C6 prog w A.in1 s₀ items bt)(x!:S∉[I,l])(hold:∀b o,s₀.heap.get? b=some o->b≠I/\b≠S) :
  ∀ (k j:Nat) (h:Heap) (tk₀:Nat) (vb:Value) (c:Nat),items.size - (j+1)=k->j+1<=items.size->(h.IsListIter I l (j+1)/\h.IsList l items)->items[argBest bt j]?=some vb ->
  h.get? S=some { cls:=.type "list",dict:=none,data:=.seq #[vb,vb] c,slots:=#[] }->(∀b o,s₀.heap.get? b=some o->h.get? b=some o) ->
  (∀v h' tk,items[argBest bt (items.size - 1)]?=some v->(∀b o,s₀.heap.get? b=some o->h'.get? b=some o)->R (.ok (.ret v)) { s₀ with heap:=h',toks:=tk }) ->
  codeAny (model prog w) A (.builtin "min.loop" ⟨[.ref I,.none,.ref S],[]⟩) R { s₀ with heap:=h,toks:=tk₀ }:=by
 have W:=X9 (prog:=prog) (w:=w) (A:=A.in1) hh I l hlI items;have hSw:S∉[I]:=λh=>x! (W.sub _ h);have V':(toString "min" ++ toString ".loop" : String) = "min.loop":=by decide
 have nw:∀b o,s₀.heap.get? b=some o->b∉[I]:=λb o e z=>(hold b o e).1 (Rj.mp z);intro k
 induction k with
 | zero =>
  intro j h tk₀ vb c hk hj Zp hPb hS kp hR;have ZX:j+1=items.size:=by lia
  refine SQ Xt ?_;rw[Sn Up _];show wpAny _ A.in1 (seqItems? (.ref S) >>= _) _ _ _;refine Ra (UU hS rfl ?_);show wpAny _ A.in1 (tryCatch (pyNext (.ref I)) _ >>= _) _ _ _;refine Ra (VY (W.done _ _ _ (ZX ▸ Zp) λh' tk Zv=>?_));have Zz:=Zv S _ hSw hS;show wpAny _ A.in1 (updateSeq S (λ_=>#[]) >>= _) _ _ _;refine Ra ?_;refine U9 Zz rfl (Ra (Wm (Rm ?_)));exact hR vb _ tk (by rw[<- ZX];exact hPb) λb o e=>(SI _ _ (TR (hold b o e).2)).trans (Zv b o (nw b o e) (kp b o e))
 | succ k ih =>
  intro j h tk₀ vb c hk hj Zp hPb hS kp hR;have Zd:j+1<items.size:=by lia
  refine SQ Xt ?_;rw[Sn Up _];show wpAny _ A.in1 (seqItems? (.ref S) >>= _) _ _ _;refine Ra (UU hS rfl ?_);show wpAny _ A.in1 (tryCatch (pyNext (.ref I)) _ >>= _) _ _ _;refine Ra (VY (W.item (j+1) _ _ _ Zd Zp λv h' tk hP E! Zv=>?_));have Zz:=Zv S _ hSw hS;have kp':∀b o,s₀.heap.get? b=some o->h'.get? b=some o:=λb o e=>Zv b o (nw b o e) (kp b o e);show wpAny _ A.in1 (tryCatch (holding [v,v] (richCompare .Lt v vb >>= _)) _ >>= _) _ _ _;refine Ra (VY (SA (Ra (hcmp (j+1) (argBest bt j) v vb h' tk _ _ kp' hP hPb ?_))));refine Ra (SA (Tx ?_));refine Ra (Wm (Rm ?_));cases hb:bt (j+1) (argBest bt j) with
  | true =>
   simp only[if_true];refine Ra ?_;refine U9 Zz rfl (Ra (Wm ?_));rw[V'];refine Rm ⟨Tg Up _,ih (j+1) _ tk v _ (by lia) Zd (W.frame _ _ _ E! λb hbf o e=>?_) (by simp only[argBest,hb,if_true];exact hP) (S7 _ Zz rfl) (λb o e=>?_) hR⟩
   .exact(SI _ _ (λh:S=b=>x! (by rw[h];exact hbf))).trans e
   .exact(SI _ _ (TR (hold b o e).2)).trans (kp' b o e)
  | false =>
   simp only[Sv,if_false];refine Ra (Wm ?_);rw[V'];exact Rm ⟨Tg Up _,ih (j+1) _ tk vb c (by lia) Zd E! (by simp only[argBest,hb,Sv,if_false];exact hPb) Zz kp' hR⟩
theorem He(hh:A.handled=none)(hl:s₀.heap.IsList l items)(hn:0<items.size)(hcmp:C6 prog w A.in1 s₀ items bt)
  (hQ:∀v h' tk,items[argBest bt (items.size - 1)]?=some v->(∀b o,s₀.heap.get? b=some o->h'.get? b=some o)->Q v { s₀ with heap:=h',toks:=tk }) :
  wpAny (model prog w) A (call (.builtin "min") [.ref l]) Q E s₀:=by
 have V':(toString "min" ++ toString ".loop" : String) = "min.loop":=by decide
 have Zd:l<s₀.heap.objs.size:=by obtain⟨_,e,_⟩:=hl;exact Rv e
 refine call_function_tree F.kind_min F.plain_min F.entry_min (F.args_min1 _) ?_;show wpAny _ A.in1 (Wv "min" ["key","default"] 0 ⟨[],[]⟩ >>= _) _ _ s₀;refine Ra (YQ (show Wv "min" ["key","default"] 0 ⟨[],[]⟩=pure [none,none] from rfl) ?_);refine Ra (Rm ?_);refine Ra (Vc hl ?_);have st:(s₀.heap.push { cls:=.type "list_iterator",data:=.fields #[.ref l,.int 0 0] }).IsListIter s₀.heap.objs.size l 0/\(s₀.heap.push { cls:=.type "list_iterator",data:=.fields #[.ref l,.int 0 0] }).IsList l items:=⟨⟨_,RC _ rfl,rfl,rfl⟩,hl.push _⟩;refine Ra (TY ?_);have hsz:(s₀.heap.push { cls:=.type "list_iterator",data:=.fields #[.ref l,.int 0 0] }).objs.size=s₀.heap.objs.size+1:=S0 ..;have Zj:l≠s₀.heap.objs.size:=Ry Zd;have W:=X9 (prog:=prog) (w:=w) (A:=A.in1) hh s₀.heap.objs.size l Zj items;have x!:(s₀.heap.push { cls:=.type "list_iterator",data:=.fields #[.ref l,.int 0 0] }).objs.size∉[s₀.heap.objs.size,l]:=λhm=>by
  rw[hsz]at hm;rcases RA.mp hm with e|hm
  .exact absurd e (T3 (Tt _))
  .have e:s₀.heap.objs.size+1=l:=Rj.mp hm;exact absurd (e ▸ Zd) (Nat.not_lt.mpr (S6 _))
 have hold:∀b o,s₀.heap.get? b=some o->b≠s₀.heap.objs.size/\b≠(s₀.heap.push { cls:=.type "list_iterator",data:=.fields #[.ref l,.int 0 0] }).objs.size:=λb o e=>by
  have:=Rv e;rw[hsz];exact⟨Ry this,Ry (Sw this)⟩
 rw[V'];refine Rm ⟨Tg Up _,?_⟩;refine SQ Xt ?_;rw[Sn Up _];show wpAny _ A.in1 (seqItems? (.ref (s₀.heap.push { cls:=.type "list_iterator",data:=.fields #[.ref l,.int 0 0] }).objs.size) >>= _) _ _ _;have hS:((s₀.heap.push { cls:=.type "list_iterator",data:=.fields #[.ref l,.int 0 0] }).push { cls:=.type "list",data:=.seq #[] }).get? (s₀.heap.push { cls:=.type "list_iterator",data:=.fields #[.ref l,.int 0 0] }).objs.size=some { cls:=.type "list",dict:=none,data:=.seq #[] 0,slots:=#[] }:=RC _ rfl;refine Ra (UU hS rfl ?_);show wpAny _ A.in1 (tryCatch (pyNext (.ref s₀.heap.objs.size)) _ >>= _) _ _ _;refine Ra (VY (W.item 0 _ _ _ hn (W.frame _ _ _ st λb _ o e=>Rl _ e) λv h' tk hP E! Zv=>?_));have hSw:(s₀.heap.push { cls:=.type "list_iterator",data:=.fields #[.ref l,.int 0 0] }).objs.size∉[s₀.heap.objs.size]:=λh=>x! (W.sub _ h);have Zz:=Zv _ _ hSw hS;show wpAny _ A.in1 (updateSeq (s₀.heap.push { cls:=.type "list_iterator",data:=.fields #[.ref l,.int 0 0] }).objs.size (λ_=>#[v,v]) >>= _) _ _ _;refine Ra ?_;refine U9 Zz rfl ?_;rw[V'];refine Rm ⟨Tg Up _,Gm hh Zj hcmp x! hold _ 0 _ tk v _ rfl hn (W.frame _ _ _ E! λb hbf o e=>?_) hP (S7 _ Zz rfl) (λb o e=>?_) λv' h'' tk'' hP' hk''=>hQ v' h'' tk'' hP' hk''⟩
 .exact(SI _ _ (λh=>x! (by rw[h];exact hbf))).trans e
 .exact(SI _ _ (TR (hold b o e).2)).trans (Zv b o (λz=>(hold b o e).1 (Rj.mp z)) (Rl _ (Rl _ e)))
end
noncomputable def DO(α:Type)[Rep α][DecidableEq α][aJ α][cT α](K:Q7):List V->Hp->VK->Prop:=λxs H Q=>∃ (p:Addr) (vs:Y6) (L:List α),xs=[.ref p]/\SqL K H p vs/\Sz (Rep.is K H) vs L/\0<L.length /\
 ∀ (i:Nat) x a,vs[i]?=some x->L[i]?=some a->Q x H
theorem GX{X:Cx}{α:Type}[Rep α][DecidableEq α][aJ α][cT α][Inhabited α](hc:X.calm=true)(K:Q7)(hK:X.K=K)(hu:X.A.units+1+aJ.depth α<cLine):cz X (.builtin "min") (DO α K):=by
 subst hK;k_asm;obtain⟨p,vs,L,rfl,hS,hP,h0,q⟩:=h;f_int;have e1:=rv.length;have e2:=hP.length;have sz:Zb.toArray.size=L.length:=by simp;lia
 have key:∀i v,Zb.toArray[i]?=some v->∃x a,vs[i]?=some x/\L[i]?=some a/\At X.K H x a/\RelV x v/\a=L.getD i default:=λi v e=>by
  have e:Zb[i]?=some v:=by simpa using e
  have hi:i<Zb.length:=(Q9.mp e).1;have hv:vs[i]?=some vs[i]:=Q8 (by lia)
  obtain⟨a,ha,ra⟩:=Paired.getL hP hv;exact⟨_,a,hv,ha,ra,Vals.getL rv hv e,by rw[Rf,ha];rfl⟩
 refine He (bt:=λi j=>cT.lt (L.getD i default) (L.getD j default)) (I.ok.hd hc) pl.isList (by lia) (λi j vi vj h' tk Q' E' kp hi hj hq=>?_) λv h' tk hv kp=>?_
 .obtain⟨x,a,_,_,ra,rx,rfl⟩:=key i vi hi;obtain⟨y,b,_,_,rb,ry,rfl⟩:=key j vj hj;exact cT.rc (A:=X.A.in1) (I.kept (t':=tk) kp) ra rb rx ry hu X.prog X.w _ _ hq
 .obtain⟨x,a,hx,ha,ra,rx,ea⟩:=key _ v hv;exact⟨x,H,I.kept (t':=tk) kp,rx,q _ x a hx ha⟩
theorem Mo{α:Type}[Rep α][DecidableEq α][aJ α][cT α]{K:Q7}{H:Hp}{Q:VK}{p:Addr}{vs:Y6}(L:List α)(hS:SqL K H p vs)(hP:Sz (Rep.is K H) vs L)(h0:0<L.length)
  (q:∀ (i:Nat) x a,vs[i]?=some x->L[i]?=some a->Q x H):DO α K [.ref p] H Q:=⟨p,vs,L,rfl,hS,hP,h0,q⟩
end L2
namespace L2
noncomputable def D9(U N:VK):Prop:=∀v H',U v H'->N v H'
theorem Kx{U N:VK}{v:V}{H:Hp}(h:D9 U N)(q:U v H):N v H:=h v H q
noncomputable def gN(U:Y4)(D:Ends)(G:Ends->Prop):Prop:=∀ (N B:Y4) (R:VK),Back U N->Back D.nx B->D9 D.rt R->G ⟨N,R,B,N⟩
theorem gN.to{U:Y4}{D:Ends}{G:Ends->Prop}(h:gN U D G):G { D with nx:=U,ct:=U,bk:=D.nx }:=h _ _ _ (λ_ _ z=>z) (λ_ _ z=>z) λ_ _ z=>z
end L2
namespace TB
open L2 PySem
section
variable {σ:St}{H:Hp}{D:Ends}{K:Q7}{t:TS}{g:TG}{v:V}{a b:Int}
theorem bf{n:Nat}(e:a=(n:Int))(hn:n<=1000000)(Pv:Z7)(h0:Pv 0 σ H)
  (hs:∀i σ' H',i<n->Pv i σ' H'->gN (Pv (i+1)) D λD'=>g (.int i) σ' H' λσ2 H2=>t D' σ2 H2) (hd:∀σ' H',Pv n σ' H'->D.nx σ' H') :
  tN [.int a] H (eI g t D σ):=L2.bf e hn Pv h0 (λi σ' H' z q=>(hs i σ' H' z q).to) hd
theorem dB{α:Type}[Rep α]{l:List α}(h:At K H v l)(Pv:Z7)(h0:Pv 0 σ H)(hl:∀i σ' H',Pv i σ' H'->ag H H')
  (hs:∀i c w σ' H',l[i]?=some c->At K H' w c->Pv i σ' H'->gN (Pv (i+1)) D λD'=>g w σ' H' λσ2 H2=>t D' σ2 H2) (hd:∀σ' H',Pv l.length σ' H'->D.nx σ' H') :
  gF K v H (eI g t D σ):=L2.dB h Pv h0 hl (λi c w σ' H' z u q=>(hs i c w σ' H' z u q).to) hd
theorem iQ{α:Type}[Rep α]{l:List α}{ia ib:Nat}{H₀:Hp}(h:At K H₀ v l)(Pv:Z7)(h0:Pv 0 σ H)(hl:∀i σ' H',Pv i σ' H'->ag H₀ H')
  (hs:∀i c w σ' H' Zn p,l[i]?=some c->At K H₀ w c->Pv i σ' H'->H' p=none->Zn=upd H' p (.tup [.int i,w])->ag H' Zn->gN (Pv (i+1)) D λD'=>t D' ((σ'.set ia (some (.int i))).set ib (some w)) Zn)
  (hd:∀σ' H',Pv l.length σ' H'->D.nx σ' H'):vO K [v] H (eI (AO K 2 (kU (eQ ia) (kU (eQ ib) AY))) t D σ) :=
 L2.iQ h Pv h0 hl (λi c w σ' H' Zn p z1 z2 z3 z4 z5 z6=>(hs i c w σ' H' Zn p z1 z2 z3 z4 z5 z6).to) hd
theorem dY{H₀:Hp}{α:Type}[Rep α]{l:List α}(h:At K H₀ v l)(Pv:Z7)(h0:Pv 0 σ H)(hl:∀i σ' H',Pv i σ' H'->ag H₀ H')
  (hs:∀i c w σ' H',l[i]?=some c->At K H₀ w c->Pv i σ' H'->gN (Pv (i+1)) D λD'=>g w σ' H' λσ2 H2=>t D' σ2 H2) (hd:∀σ' H',Pv l.length σ' H'->D.nx σ' H') :
  gF K v H (eI g t D σ):=L2.dY h Pv h0 hl (λi c w σ' H' z u q=>(hs i c w σ' H' z u q).to) hd
theorem wu{d:Addr}{ps:Y9}(Pv:Z7)(h0:Pv 0 σ H)(hl:∀i σ' H',Pv i σ' H'->H' d=some (.lst (ps.map V.ref)))
  (hs:∀i p σ' H',ps[i]?=some p->Pv i σ' H'->gN (Pv (i+1)) D λD'=>g (.ref p) σ' H' λσ2 H2=>t D' σ2 H2) (hd:∀σ' H',Pv ps.length σ' H'->D.nx σ' H') :
  gF K (.ref d) H (eI g t D σ):=L2.wu Pv h0 hl (λi p σ' H' z q=>(hs i p σ' H' z q).to) hd
theorem qI{lo n:Nat}(e:a=(lo:Int))(e2:b=((lo+n:Nat):Int))(hn:lo+n<=1000000)(Pv:Z7)(h0:Pv 0 σ H)
  (hs:∀i σ' H',i<n->Pv i σ' H'->gN (Pv (i+1)) D λD'=>g (.int ((lo+i:Nat):Int)) σ' H' λσ2 H2=>t D' σ2 H2) (hd:∀σ' H',Pv n σ' H'->D.nx σ' H'):EH [.int a,.int b] H (eI g t D σ) :=
 L2.qI e e2 hn Pv h0 (λi σ' H' z q=>(hs i σ' H' z q).to) hd
theorem vD{P:RB}{w:World}{a:Addr}{kvs:Y1}{ep:Nat}(h:H a=some (DE P w a kvs ep))(Pv:Z7)(h0:Pv 0 σ H)(hl:∀i σ' H',Pv i σ' H'->H' a=some (DE P w a kvs ep))
  (hs:∀i p σ' H',kvs[i]?=some p->Pv i σ' H'->gN (Pv (i+1)) D λD'=>g (kV p.1) σ' H' λσ2 H2=>t D' σ2 H2) (hd:∀σ' H',Pv kvs.length σ' H'->D.nx σ' H'):EK P w (.ref a) H (eI g t D σ) :=
 L2.vD h Pv h0 hl (λi p σ' H' z q=>(hs i p σ' H' z q).to) hd
end
end TB
namespace L2
inductive BW{α0 α1 α2 α3 α4:Type}(A0:Prop)(A1:Prop)(A2:Prop)(A3:α0->α1->α2->α3->α4->Prop):Prop|mk (_:A0) (_:A1) (_:A2) (x0:α0) (x1:α1) (x2:α2) (x3:α3) (x4:α4) (_:A3 x0 x1 x2 x3 x4)
inductive iU{α0:Type}(A0:Prop)(A1:Prop)(A2:α0->Prop):Prop|mk (_:A0) (_:A1) (x0:α0) (_:A2 x0)
inductive yF{α0 α1 α2 α3 α4 α5 α6:Type}(A0:Prop)(A1:Prop)(A2:α0->Prop)(A3:α0->α1->α2->α3->α4->α5->α6->Prop):Prop|mk (_:A0) (_:A1) (x0:α0) (_:A2 x0) (x1:α1) (x2:α2) (x3:α3) (x4:α4) (x5:α5) (x6:α6) (_:A3 x0 x1 x2 x3 x4 x5 x6)
inductive nM{α0 α1:Type}(A0:Prop)(A1:Prop)(A2:α0->α1->Prop):Prop|mk (_:A0) (_:A1) (x0:α0) (x1:α1) (_:A2 x0 x1)
inductive Fj{α0 α1:Type}(A0:Prop)(A1:Prop)(A2:α0->α1->Prop)(A3:α0->α1->Prop)(A4:α0->α1->Prop)(A5:α0->α1->Prop):Prop|mk (_:A0) (_:A1) (x0:α0) (x1:α1) (_:A2 x0 x1) (_:A3 x0 x1) (_:A4 x0 x1) (_:A5 x0 x1)
inductive tF{α0 α1 α2:Type}(A0:Prop)(A1:Prop)(A2:α0->α1->α2->Prop):Prop|mk (_:A0) (_:A1) (x0:α0) (x1:α1) (x2:α2) (_:A2 x0 x1 x2)
inductive xc{α0 α1 α2 α3:Type}(A0:Prop)(A1:Prop)(A2:α0->α1->α2->α3->Prop):Prop|mk (_:A0) (_:A1) (x0:α0) (x1:α1) (x2:α2) (x3:α3) (_:A2 x0 x1 x2 x3)
inductive hX{α0:Type}(A0:Prop)(A1:α0->Prop):Prop|mk (_:A0) (x0:α0) (_:A1 x0)
inductive u9{α0:Type}(A0:Prop)(A1:α0->Prop)(A2:α0->Prop):Prop|mk (_:A0) (x0:α0) (_:A1 x0) (_:A2 x0)
inductive KP{α0:Type}(A0:Prop)(A1:α0->Prop)(A2:α0->Prop)(A3:α0->Prop):Prop|mk (_:A0) (x0:α0) (_:A1 x0) (_:A2 x0) (_:A3 x0)
inductive sW{α0:Type}(A0:Prop)(A1:α0->Prop)(A2:α0->Prop)(A3:α0->Prop)(A4:α0->Prop):Prop|mk (_:A0) (x0:α0) (_:A1 x0) (_:A2 x0) (_:A3 x0) (_:A4 x0)
inductive qW{α0:Type}(A0:Prop)(A1:α0->Prop)(A2:α0->Prop)(A3:α0->Prop)(A4:α0->Prop)(A5:α0->Prop):Prop|mk (_:A0) (x0:α0) (_:A1 x0) (_:A2 x0) (_:A3 x0) (_:A4 x0) (_:A5 x0)
inductive Fn{α0 α1:Type}(A0:Prop)(A1:α0->Prop)(A2:α0->Prop)(A3:α0->Prop)(A4:α0->α1->Prop):Prop|mk (_:A0) (x0:α0) (_:A1 x0) (_:A2 x0) (_:A3 x0) (x1:α1) (_:A4 x0 x1)
inductive FV{α0 α1 α2:Type}(A0:Prop)(A1:α0->Prop)(A2:α0->Prop)(A3:α0->α1->α2->Prop):Prop|mk (_:A0) (x0:α0) (_:A1 x0) (_:A2 x0) (x1:α1) (x2:α2) (_:A3 x0 x1 x2)
inductive Cc{α0 α1 α2 α3 α4:Type}(A0:Prop)(A1:α0->Prop)(A2:α0->Prop)(A3:α0->α1->α2->α3->α4->Prop):Prop|mk (_:A0) (x0:α0) (_:A1 x0) (_:A2 x0) (x1:α1) (x2:α2) (x3:α3) (x4:α4) (_:A3 x0 x1 x2 x3 x4)
inductive qT{α0 α1:Type}(A0:Prop)(A1:α0->α1->Prop):Prop|mk (_:A0) (x0:α0) (x1:α1) (_:A1 x0 x1)
inductive Bb{α0 α1:Type}(A0:Prop)(A1:α0->α1->Prop)(A2:α0->α1->Prop)(A3:α0->α1->Prop):Prop|mk (_:A0) (x0:α0) (x1:α1) (_:A1 x0 x1) (_:A2 x0 x1) (_:A3 x0 x1)
inductive xZ{α0 α1:Type}(A0:Prop)(A1:α0->α1->Prop)(A2:α0->α1->Prop)(A3:α0->α1->Prop)(A4:α0->α1->Prop):Prop|mk (_:A0) (x0:α0) (x1:α1) (_:A1 x0 x1) (_:A2 x0 x1) (_:A3 x0 x1) (_:A4 x0 x1)
inductive wc{α0 α1 α2:Type}(A0:Prop)(A1:α0->α1->α2->Prop):Prop|mk (_:A0) (x0:α0) (x1:α1) (x2:α2) (_:A1 x0 x1 x2)
inductive Hw{α0 α1 α2:Type}(A0:Prop)(A1:α0->α1->α2->Prop)(A2:α0->α1->α2->Prop):Prop|mk (_:A0) (x0:α0) (x1:α1) (x2:α2) (_:A1 x0 x1 x2) (_:A2 x0 x1 x2)
inductive Fs{α0 α1 α2:Type}(A0:Prop)(A1:α0->α1->α2->Prop)(A2:α0->α1->α2->Prop)(A3:α0->α1->α2->Prop):Prop|mk (_:A0) (x0:α0) (x1:α1) (x2:α2) (_:A1 x0 x1 x2) (_:A2 x0 x1 x2) (_:A3 x0 x1 x2)
inductive oQ{α0 α1 α2:Type}(A0:Prop)(A1:α0->α1->α2->Prop)(A2:α0->α1->α2->Prop)(A3:α0->α1->α2->Prop)(A4:α0->α1->α2->Prop):Prop|mk (_:A0) (x0:α0) (x1:α1) (x2:α2) (_:A1 x0 x1 x2) (_:A2 x0 x1 x2) (_:A3 x0 x1 x2) (_:A4 x0 x1 x2)
inductive B4{α0 α1 α2:Type}(A0:Prop)(A1:α0->α1->α2->Prop)(A2:α0->α1->α2->Prop)(A3:α0->α1->α2->Prop)(A4:α0->α1->α2->Prop)(A5:α0->α1->α2->Prop):Prop|mk (_:A0) (x0:α0) (x1:α1) (x2:α2) (_:A1 x0 x1 x2) (_:A2 x0 x1 x2) (_:A3 x0 x1 x2) (_:A4 x0 x1 x2) (_:A5 x0 x1 x2)
inductive p6{α0 α1 α2:Type}(A0:Prop)(A1:α0->α1->α2->Prop)(A2:α0->α1->α2->Prop)(A3:α0->α1->α2->Prop)(A4:α0->α1->α2->Prop)(A5:α0->α1->α2->Prop)(A6:α0->α1->α2->Prop):Prop|mk (_:A0) (x0:α0) (x1:α1) (x2:α2) (_:A1 x0 x1 x2) (_:A2 x0 x1 x2) (_:A3 x0 x1 x2) (_:A4 x0 x1 x2) (_:A5 x0 x1 x2) (_:A6 x0 x1 x2)
inductive yj{α0 α1 α2 α3:Type}(A0:Prop)(A1:α0->α1->α2->α3->Prop)(A2:α0->α1->α2->α3->Prop)(A3:α0->α1->α2->α3->Prop)(A4:α0->α1->α2->α3->Prop)(A5:α0->α1->α2->α3->Prop)(A6:α0->α1->α2->α3->Prop):Prop|mk (_:A0) (x0:α0) (x1:α1) (x2:α2) (x3:α3) (_:A1 x0 x1 x2 x3) (_:A2 x0 x1 x2 x3) (_:A3 x0 x1 x2 x3) (_:A4 x0 x1 x2 x3) (_:A5 x0 x1 x2 x3) (_:A6 x0 x1 x2 x3)
inductive yW{α0 α1 α2 α3 α4:Type}(A0:Prop)(A1:α0->α1->α2->α3->α4->Prop)(A2:α0->α1->α2->α3->α4->Prop)(A3:α0->α1->α2->α3->α4->Prop)(A4:α0->α1->α2->α3->α4->Prop)(A5:α0->α1->α2->α3->α4->Prop):Prop|mk (_:A0) (x0:α0) (x1:α1) (x2:α2) (x3:α3) (x4:α4) (_:A1 x0 x1 x2 x3 x4) (_:A2 x0 x1 x2 x3 x4) (_:A3 x0 x1 x2 x3 x4) (_:A4 x0 x1 x2 x3 x4) (_:A5 x0 x1 x2 x3 x4)
inductive mr{α0 α1 α2 α3 α4:Type}(A0:Prop)(A1:α0->α1->α2->α3->α4->Prop)(A2:α0->α1->α2->α3->α4->Prop)(A3:α0->α1->α2->α3->α4->Prop)(A4:α0->α1->α2->α3->α4->Prop)(A5:α0->α1->α2->α3->α4->Prop)(A6:α0->α1->α2->α3->α4->Prop)(A7:α0->α1->α2->α3->α4->Prop):Prop|mk (_:A0) (x0:α0) (x1:α1) (x2:α2) (x3:α3) (x4:α4) (_:A1 x0 x1 x2 x3 x4) (_:A2 x0 x1 x2 x3 x4) (_:A3 x0 x1 x2 x3 x4) (_:A4 x0 x1 x2 x3 x4) (_:A5 x0 x1 x2 x3 x4) (_:A6 x0 x1 x2 x3 x4) (_:A7 x0 x1 x2 x3 x4)
inductive wo{α0 α1 α2 α3 α4 α5:Type}(A0:Prop)(A1:α0->α1->α2->α3->α4->α5->Prop)(A2:α0->α1->α2->α3->α4->α5->Prop)(A3:α0->α1->α2->α3->α4->α5->Prop)(A4:α0->α1->α2->α3->α4->α5->Prop)(A5:α0->α1->α2->α3->α4->α5->Prop):Prop|mk (_:A0) (x0:α0) (x1:α1) (x2:α2) (x3:α3) (x4:α4) (x5:α5) (_:A1 x0 x1 x2 x3 x4 x5) (_:A2 x0 x1 x2 x3 x4 x5) (_:A3 x0 x1 x2 x3 x4 x5) (_:A4 x0 x1 x2 x3 x4 x5) (_:A5 x0 x1 x2 x3 x4 x5)
inductive tm{α0 α1 α2 α3 α4 α5 α6:Type}(A0:Prop)(A1:α0->α1->α2->α3->α4->α5->α6->Prop)(A2:α0->α1->α2->α3->α4->α5->α6->Prop)(A3:α0->α1->α2->α3->α4->α5->α6->Prop)(A4:α0->α1->α2->α3->α4->α5->α6->Prop)(A5:α0->α1->α2->α3->α4->α5->α6->Prop)(A6:α0->α1->α2->α3->α4->α5->α6->Prop):Prop|mk (_:A0) (x0:α0) (x1:α1) (x2:α2) (x3:α3) (x4:α4) (x5:α5) (x6:α6) (_:A1 x0 x1 x2 x3 x4 x5 x6) (_:A2 x0 x1 x2 x3 x4 x5 x6) (_:A3 x0 x1 x2 x3 x4 x5 x6) (_:A4 x0 x1 x2 x3 x4 x5 x6) (_:A5 x0 x1 x2 x3 x4 x5 x6) (_:A6 x0 x1 x2 x3 x4 x5 x6)
end L2
namespace L2
section
variable {σ:St}{H:Hp}{Q:VK}{QB:Bool->Hp->Prop}{D:Ends}{K:Q7}{t u:TS}{ta tb:TE}{g:TG}{v x y:V}{tt tu:TT}{tA:TA}{c:Bool}
noncomputable def kOp(r:R2)(tb:TE)(σ:St)(Q:VK):VK:=λx H1=>tb σ H1 λy H2=>r x y H2 Q
noncomputable def ND(r:R2)(x:V)(Q:VK):VK:=λy H2=>r x y H2 Q
theorem PQ{r:R2}(h:tb σ H (ND r x Q)):kOp r tb σ Q x H:=h
theorem L9{r:R2}(h:r x y H Q):ND r x Q y H:=h
noncomputable def kUn(r:V->Hp->VK->Prop)(Q:VK):VK:=λx H1=>r x H1 Q
theorem P9{r:V->Hp->VK->Prop}(h:r x H Q):kUn r Q x H:=h
noncomputable def Kb(tA:TA)(σ:St)(QA:List V->Hp->Prop):VK:=λx H1=>tA σ H1 λxs H2=>QA (x :: xs) H2
noncomputable def Gw(x:V)(QA:List V->Hp->Prop):List V->Hp->Prop:=λxs H2=>QA (x :: xs) H2
theorem Lp{QA:List V->Hp->Prop}(h:tA σ H (Gw x QA)):Kb tA σ QA x H:=h
theorem HD{QA:List V->Hp->Prop}{xs:Y6}(h:QA (x :: xs) H):Gw x QA xs H:=h
noncomputable def kCB(r:List V->Hp->VK->Prop)(Q:VK):List V->Hp->Prop:=λvs H1=>r vs H1 Q
theorem Ot{r:List V->Hp->VK->Prop}{vs:Y6}(h:r vs H Q):kCB r Q vs H:=h
noncomputable def JL(sp:Sp)(Q:VK)(E:XK):List V->Hp->Prop:=λvs H1=>sp (vs++[]) H1 Q E
theorem K4{sp:Sp}{E:XK}{vs:Y6}(h:sp (vs++[]) H Q E):JL sp Q E vs H:=h
noncomputable def N8(g:TG)(σ:St)(N:Y4):VK:=λx H1=>g x σ H1 N
theorem Mq{N:Y4}(h:g x σ H N):N8 g σ N x H:=h
noncomputable def Ny(t u:TS)(D:Ends)(σ:St):Bool->Hp->Prop:=λb H1=>if b=true then t D σ H1 else u D σ H1
theorem Oc(h:t D σ H):Ny t u D σ true H:=FN h
noncomputable def kB(QB:Bool->Hp->Prop):VK:=λx H1=>isB x H1 QB
theorem Qx(h:isB x H QB):kB QB x H:=h
end
end L2
namespace TB
open L2
section
variable {σ:St}{H:Hp}{Q:VK}{QB:Bool->Hp->Prop}{D:Ends}{t u:TS}{ta tb:TE}{g:TG}{tt:TT}{tA:TA}
theorem QK{r:R2}(h:ta σ H (kOp r tb σ Q)):tOp r ta tb σ H Q:=h
theorem QM{r:V->Hp->VK->Prop}(h:ta σ H (kUn r Q)):tUn r ta σ H Q:=h
theorem M4{QA:List V->Hp->Prop}(h:ta σ H (Kb tA σ QA)):iZ ta tA σ H QA:=h
theorem QX{r:List V->Hp->VK->Prop}(h:tA σ H (kCB r Q)):tCB r tA σ H Q:=h
theorem MY{sp:Sp}{E:XK}(h:tA σ H (JL sp Q E)):kN sp [] E tA σ H Q:=h
theorem Ki(h:tt σ H (Ny t u D σ)):Ho tt t u D σ H:=h
theorem NY(h:ta σ H (kB QB)):E8 ta σ H QB:=h
theorem QD(h:ta σ H (kB QB)):tB ta σ H QB:=h
end
end TB
namespace L2
open PySem
section
variable {σ:St}{H:Hp}{Q:VK}{QB:Bool->Hp->Prop}{QS:Y4}{D:Ends}{K:Q7}{ta tb to ti:TE}{v x y:V}{tA:TA}{c:Bool}{R:It->Hp->Prop}{vs xs:Y6}
noncomputable def kS2(ts:qx)(o v:V)(σ:St)(QS:Y4):VK:=λi H2=>ts o i v H2 λH3=>QS σ H3
noncomputable def kS(ti:TE)(ts:qx)(v:V)(σ:St)(QS:Y4):VK:=λo H1=>ti σ H1 (kS2 ts o v σ QS)
theorem QE{ts:qx}{o:V}(h:ti σ H (kS2 ts o v σ QS)):kS ti ts v σ QS o H:=h
theorem Qk{ts:qx}{o i:V}(h:ts o i v H λH3=>QS σ H3):kS2 ts o v σ QS i H:=h
noncomputable def kL(K:Q7)(R:It->Hp->Prop):VK:=λx H1=>gF K x H1 R
theorem QL(h:gF K x H R):kL K R x H:=h
noncomputable def kR(R:It->Hp->Prop):List V->Hp->Prop:=λvs H1=>tN vs H1 R
theorem QF(h:tN vs H R):kR R vs H:=h
noncomputable def kE(K:Q7)(R:It->Hp->Prop):List V->Hp->Prop:=λvs H1=>vO K vs H1 R
theorem QT(h:vO K vs H R):kE K R vs H:=h
noncomputable def kF(K:Q7)(f:Str)(Q:VK):VK:=λx H1=>isF K f x H1 Q
theorem QJ{f:Str}(h:isF K f x H Q):kF K f Q x H:=h
noncomputable def Jl(r:Z8)(x:V)(Q:VK):List V->Hp->Prop:=λxs H2=>r x xs H2 Q
noncomputable def kBm(K:Q7)(T:String)(r:Z8)(tA:TA)(σ:St)(Q:VK):VK:=λx H1=>tyV K T x H1/\tA σ H1 (Jl r x Q)
theorem OR{T:String}{r:Z8}(h:tyV K T x H/\tA σ H (Jl r x Q)):kBm K T r tA σ Q x H:=h
theorem MQ{r:Z8}(h:r x xs H Q):Jl r x Q xs H:=h
noncomputable def Mn(K:Q7)(T:String)(r:Z8)(Q:VK):VK:=λx H1=>tyV K T x H1/\r x [] H1 Q
theorem Ml{T:String}{r:Z8}(h:tyV K T x H/\r x [] H Q):Mn K T r Q x H:=h
noncomputable def NA(Q:VK):List V->Hp->Prop:=λxs H1=>xs.length<=RV/\∀p,H1 p=none->Q (.ref p) (upd H1 p (.lst xs))
theorem NV(h:xs.length<=RV/\∀p,H p=none->Q (.ref p) (upd H p (.lst xs))):NA Q xs H:=h
noncomputable def NR(Q:VK):List V->Hp->Prop:=λxs H1=>xs.length<=RV/\∀p,H1 p=none->Q (.ref p) (upd H1 p (.tup xs))
theorem Ng(h:xs.length<=RV/\∀p,H p=none->Q (.ref p) (upd H p (.tup xs))):NR Q xs H:=h
noncomputable def NW(QB:Bool->Hp->Prop):Bool->Hp->Prop:=λc H1=>QB (!c) H1
theorem NI(h:QB (!c) H):NW QB c H:=h
end
end L2
namespace TB
open L2 PySem
section
variable {σ:St}{H:Hp}{Q:VK}{QB:Bool->Hp->Prop}{K:Q7}{ta to ti:TE}{v:V}{tt:TT}{tA:TA}{R:It->Hp->Prop}
theorem M8{ts:qx}{QS:Y4}(h:to σ H (kS ti ts v σ QS)):MH to ti ts v σ H QS:=h
theorem LW(h:ta σ H (kL K R)):zf K ta σ H R:=h
theorem Lc(h:tA σ H (kR R)):ze tA σ H R:=h
theorem LG(h:tA σ H (kE K R)):E5 K tA σ H R:=h
theorem OI{f:Str}(h:ta σ H (kF K f Q)):E2 K ta f σ H Q:=h
theorem QQ{T:String}{r:Z8}(h:ta σ H (kBm K T r tA σ Q)):tBM K T r ta tA σ H Q:=h
theorem P0{T:String}{r:Z8}(h:ta σ H (Mn K T r Q)):Ie K T r ta σ H Q:=h
theorem cK(h:tA σ H (NA Q)):Bf tA σ H Q:=h
theorem iX(h:tA σ H (NR Q)):Ni tA σ H Q:=h
theorem Pl(h:tt σ H (NW QB)):Mu tt σ H QB:=h
end
end TB
namespace L2
open PySem PySem.W PyProof.Rows
noncomputable instance:cT Nat where
 lt:=λa b=>decide (a<b)
 rc:=λ{X Za σ H s A x y u v a b} _ hx hy ru rv _ prog w E Q h=>by
  cases(show x=V.int a from hx);cases(show y=V.int b from hy);obtain⟨t,rfl⟩:∃t,u=.int a t:=ru;obtain⟨t',rfl⟩:∃t,v=.int b t:=rv;refine Xz (VQ _ _ t) (VQ _ _ t') slot_int_lt (call_int_lt ⟨nofun,?_⟩);have e:decide ((a:Int)<(b:Int))=decide (a<b):=decide_eq_decide.mpr (by lia)
  rw[e];exact h
theorem Hi{X:Cx}(hc:X.calm=true)(K:Q7)(hK:X.K=K)(hu:X.A.units+64<cLine):cz X (.builtin "min") (DO AT K):=GX hc K hK (by show X.A.units+1+(0+1)<cLine;lia)
end L2
namespace TB
open L2 PySem
section
variable {σ:St}{H:Hp}{r:VK}{n b c:Y4}{t u:TS}{ta:TE}{g:TG}{D:Ends}{K:Q7}
theorem Nq(h:∀N:St->Hp->Prop,Back (u ⟨n,r,b,c⟩) N->t ⟨N,r,b,c⟩ σ H):c8 t u ⟨n,r,b,c⟩ σ H:=h _ λ_ _ z=>z
theorem MT{t1 t2:TS}(h:∀N2:St->Hp->Prop,Back (u ⟨n,r,b,c⟩) N2->∀N1:St->Hp->Prop,Back (t2 ⟨N2,r,b,c⟩) N1->t1 ⟨N1,r,b,c⟩ σ H):c8 t1 (c8 t2 u) ⟨n,r,b,c⟩ σ H:=h _ (λ_ _ z=>z) _ (λ_ _ z=>z)
theorem Mg{t1 t2 t3:TS}(h:∀N3:St->Hp->Prop,Back (u ⟨n,r,b,c⟩) N3->∀N2:St->Hp->Prop,Back (t3 ⟨N3,r,b,c⟩) N2->∀N1:St->Hp->Prop,Back (t2 ⟨N2,r,b,c⟩) N1->t1 ⟨N1,r,b,c⟩ σ H):c8 t1 (c8 t2 (c8 t3 u)) ⟨n,r,b,c⟩ σ H:=h _ (λ_ _ z=>z) _ (λ_ _ z=>z) _ (λ_ _ z=>z)
theorem MU{t1 t2 t3 t4:TS}(h:∀N4:St->Hp->Prop,Back (u ⟨n,r,b,c⟩) N4->∀N3:St->Hp->Prop,Back (t4 ⟨N4,r,b,c⟩) N3->∀N2:St->Hp->Prop,Back (t3 ⟨N3,r,b,c⟩) N2->∀N1:St->Hp->Prop,Back (t2 ⟨N2,r,b,c⟩) N1->t1 ⟨N1,r,b,c⟩ σ H):c8 t1 (c8 t2 (c8 t3 (c8 t4 u))) ⟨n,r,b,c⟩ σ H:=h _ (λ_ _ z=>z) _ (λ_ _ z=>z) _ (λ_ _ z=>z) _ (λ_ _ z=>z)
theorem Nm{t1 t2 t3 t4 t5:TS}(h:∀N5:St->Hp->Prop,Back (u ⟨n,r,b,c⟩) N5->∀N4:St->Hp->Prop,Back (t5 ⟨N5,r,b,c⟩) N4->∀N3:St->Hp->Prop,Back (t4 ⟨N4,r,b,c⟩) N3->∀N2:St->Hp->Prop,Back (t3 ⟨N3,r,b,c⟩) N2->∀N1:St->Hp->Prop,Back (t2 ⟨N2,r,b,c⟩) N1->t1 ⟨N1,r,b,c⟩ σ H):c8 t1 (c8 t2 (c8 t3 (c8 t4 (c8 t5 u)))) ⟨n,r,b,c⟩ σ H:=h _ (λ_ _ z=>z) _ (λ_ _ z=>z) _ (λ_ _ z=>z) _ (λ_ _ z=>z) _ (λ_ _ z=>z)
theorem NK{t1 t2 t3 t4 t5 t6:TS}(h:∀N6:St->Hp->Prop,Back (u ⟨n,r,b,c⟩) N6->∀N5:St->Hp->Prop,Back (t6 ⟨N6,r,b,c⟩) N5->∀N4:St->Hp->Prop,Back (t5 ⟨N5,r,b,c⟩) N4->∀N3:St->Hp->Prop,Back (t4 ⟨N4,r,b,c⟩) N3->∀N2:St->Hp->Prop,Back (t3 ⟨N3,r,b,c⟩) N2->∀N1:St->Hp->Prop,Back (t2 ⟨N2,r,b,c⟩) N1->t1 ⟨N1,r,b,c⟩ σ H):c8 t1 (c8 t2 (c8 t3 (c8 t4 (c8 t5 (c8 t6 u))))) ⟨n,r,b,c⟩ σ H:=h _ (λ_ _ z=>z) _ (λ_ _ z=>z) _ (λ_ _ z=>z) _ (λ_ _ z=>z) _ (λ_ _ z=>z) _ (λ_ _ z=>z)
theorem Mb{t1 t2 t3 t4 t5 t6 t7:TS}(h:∀N7:St->Hp->Prop,Back (u ⟨n,r,b,c⟩) N7->∀N6:St->Hp->Prop,Back (t7 ⟨N7,r,b,c⟩) N6->∀N5:St->Hp->Prop,Back (t6 ⟨N6,r,b,c⟩) N5->∀N4:St->Hp->Prop,Back (t5 ⟨N5,r,b,c⟩) N4->∀N3:St->Hp->Prop,Back (t4 ⟨N4,r,b,c⟩) N3->∀N2:St->Hp->Prop,Back (t3 ⟨N3,r,b,c⟩) N2->∀N1:St->Hp->Prop,Back (t2 ⟨N2,r,b,c⟩) N1->t1 ⟨N1,r,b,c⟩ σ H):c8 t1 (c8 t2 (c8 t3 (c8 t4 (c8 t5 (c8 t6 (c8 t7 u)))))) ⟨n,r,b,c⟩ σ H:=h _ (λ_ _ z=>z) _ (λ_ _ z=>z) _ (λ_ _ z=>z) _ (λ_ _ z=>z) _ (λ_ _ z=>z) _ (λ_ _ z=>z) _ (λ_ _ z=>z)
theorem MB(h:n σ H):JF ⟨n,r,b,c⟩ σ H:=h
theorem Pu(h:ta σ H (N8 g σ n)):Bh ta g ⟨n,r,b,c⟩ σ H:=h
noncomputable def J3(σ:St)(N:Y4):VK:=λ_ H1=>N σ H1
theorem KU{N:Y4}{x:V}(h:N σ H):J3 σ N x H:=h
theorem NS(h:ta σ H (J3 σ n)):JU ta ⟨n,r,b,c⟩ σ H:=h
theorem Pf(h:ta σ H r):Mi ta ⟨n,r,b,c⟩ σ H:=h
theorem Bo{U:Y4}{G:Ends->Prop}(h:∀ (N B:Y4) (R:VK),Back U N->Back n B->D9 r R->G ⟨N,R,B,N⟩):gN U ⟨n,r,b,c⟩ G:=h
end
end TB
namespace L2
open PySem PySem.Spec PyProof.Rows
noncomputable abbrev fsC(ns:List (Str×UZ)):Scope:={ kind:=.function,names:=ns,isGenerator:=false,isCoroutine:=false,more:=[] }
section
variable {X:Cx}{a b e o:Expr}{ta tb te to:TE}{pos p pos' apos Zg:Pos}{x f:Str}{r:R2}{st:Stmt}{ps:Z0}{sp:Sp}{k k':Nat}{es:Y8}{t:TA}
theorem pa1(ha:PE X e te)(hn:isStar e=false:=by rfl):PA X [e] (iZ te ng):=paF ha bZ hn
theorem pxl(K:Q7)(ha:PE X a ta)(hb:PE X b tb)(hs:Dz b:=by exact λ_ _=>rfl)(hK:X.K=K:=by rfl):PE X (.Subscript a b pos) (tOp (lF K) ta tb):=d8 (Iq K hK) ha hb hs
theorem pfl(K:Q7)(he:PE X e ta)(hb:attributeBase e f X.env (eval e X.env)=eval e X.env:=by rfl)(hK:X.K=K:=by rfl):PE X (.Attribute e f pos) (E2 K ta f):=Lj K hK he hb
theorem pcm{op:CmpOp}(ho:OpR X (compareOp op) r)(ha:PE X a ta)(hb:PE X b tb)(h:op≠.In:=by decide)(h2:op≠.NotIn:=by decide):PT X (.Compare a [op] [b] pos) (E8 (tOp r ta tb)):=lE ho ha hb (iT b h h2)
theorem pdf(d:Df X.K X.mg x st ps)(G:aH X.prog X.w X.K X.mg X.base CX0 k d.f d.fd ps sp)(hr:bQ k' X.A)(ha:PA X (e :: es) t)(hk:k<=k':=by decide)(hg:Gl X x:=by rfl)(hn:isStar e=false:=by rfl)(Zh:es.all (λe=>!isStar e)=true:=by rfl)(ZA:(x == ("__debug__" : Str))=false:=by decide) :
  PE X (.Call (.Name x p) (e :: es) [] pos) (kN sp [] E0 t):=NG d G (hr.mono hk) hg ha hn Zh ZA
theorem pln(K:Q7)(hm:X.mg "len" = none)(ha:PE X e te)(hK:X.K=K:=by rfl)(hg:Gl X "len":=by rfl)(hn:isStar e=false:=by rfl):PE X (.Call (.Name "len" p) [e] [] pos) (tCB (EM K) (iZ te ng)):=bK (FG K hK) hg hm PySem.boot_len (paF ha bZ hn) hn rfl
theorem pap(K:Q7)(ho:PE X o to)(ha:PE X e te)(hK:X.K=K:=by rfl)(Zq:attributeBase o "append" X.env (eval o X.env)=eval o X.env:=by rfl)(hn:isStar e=false:=by rfl)(Zr:(apos.endLine == Zg.line)=true:=by rfl) :
  PE X (.Call (.Attribute o "append" apos) [e] [] Zg) (tBM K "list" jB to (iZ te ng)):=qR K hK TK PySem.F.slot_list_append PySem.F.type_list_append xh ho (paF ha bZ hn) Zq hn rfl (by show 1<30;decide) Zr
theorem pil(K:Q7){tg:Expr}(hl:PE X e te)(hK:X.K=K:=by rfl):PI X tg e (zf K te):=Iz K hK hl
theorem prg{tg:Expr}(hm:X.mg "range" = none)(ha:PE X a ta)(hg:Gl X "range":=by rfl)(hn:isStar a=false:=by rfl):PI X tg (.Call (.Name "range" p) [a] [] pos) (ze (iZ ta ng)):=EU hg hm (paF ha bZ hn) hn
theorem pgn(i:Nat)(hN:X.N.Nodup)(hi:X.N[i]?=some x:=by rfl)(hx:Loc X.env.scope x:=by first|exact .inl rfl|exact .inr rfl)(hf:X.fn x=true\/X.env.scope.names.lookup x=some .local:=by first|exact .inl rfl|exact .inr rfl|assumption):PG X (.Name x pos) (eQ i):=vw hN hi hx hf
theorem pz(i:Nat)(hN:X.N.Nodup)(he:PE X e te)(hi:X.N[i]?=some x:=by rfl)(hx:Loc X.env.scope x:=by first|exact .inl rfl|exact .inr rfl)(hs:swapsWith e (some (.Name x pos')) pos.line X.env=pure false:=by rfl)(hf:X.fn x=true\/X.env.scope.names.lookup x=some .local:=by first|exact .inl rfl|exact .inr rfl|assumption) :
  PS X (.Assign [.Name x pos'] e pos) (Bh te (eQ i)):=MI hN hi hx he hs hf
theorem pfo{tg iter:Expr}{body:List Stmt}{wi:TI}{g:TG}{tb:TS}(hi:PI X tg iter wi)(hg:PG X tg g)(hb:PSs X body tb)(hp:YW (model X.prog X.w) X.A X.env X.xe:=by exact UI)(hc:X.calm=true:=by rfl)(hs:∀x,foldedSetIterable iter X.env x=pure x:=by intro _;rfl):PS X (.For tg iter body [] pos) (JB wi g tb):=M1 hp hc hi hg hb hs
end
end L2
namespace L2
open PySem PySem.W PySem.Spec PyProof.Rows
theorem GW{X:Cx}{Za:Y0}{σ:St}{H:Hp}{s:Rg}{A:Sj}{E:Value->Rg->Prop}{α:Type}[Rep α][DecidableEq α][aJ α][cT α]{x y:V}{u v:Value}{as bs:List α}(I:Inv X Za σ H s)(hx:At X.K H x as)(hy:At X.K H y bs)(ru:RelV x u)(rv:RelV y v)(hu:A.units+(aJ.depth α+1)<cLine){Q:Bool->Rg->Prop}(h:Q (ku cT.lt as bs) s) :
  wpAny (model X.prog X.w) A (keyLt' oneType' u v) Q E s:=by
 walk_at "125";obtain⟨Zb,Ze,l1,l2,e1,e2,hc⟩:=Bp (A:=A) I h1 r1 h2 r2 hu;rw[keyLt'_oneType,oneLt'_eq];simp only[if_true];obtain⟨⟨cls,dd,data,sl⟩,ho,ZH,n,hd⟩:=id l1;obtain⟨⟨cls2,dd2,data2,J!⟩,J',N',n2,hd2⟩:=id l2;simp only at ZH hd N' hd2;subst ZH hd N' hd2;refine Ra (wpAny_cRoomFor (by lia) ?_)
 refine Ra (wpAny_callSpecialIfBound?_slot (T:="list") ⟨_,ho,rfl⟩ Yk (Vs Yk ⟨_,ho,rfl⟩ F.entry_list_lt (F.args_list_lt_2 _ _) (An p q _ _ n n2 dd dd2 sl J! as bs e1 e2) ⟨ho,J',hc,?_⟩));exact Tx h
noncomputable def QU(a b:AT):Bool:=cT.lt a b
noncomputable def xo(K:Q7):List V->Hp->VK->Prop:=λxs H Q=>∃ (p:Addr) (vs:Y6) (L:AC),xs=[.ref p]/\SqL K H p vs/\Sz (Rep.is K H) vs L/\L.length<64 /\
 ∀ (d:Addr) (zs:List (V×AT)),H d=none->zs.Perm (vs.zip L)->Q (.ref d) (upd H d (.lst (zs.map (·.1))))
theorem pX{X:Cx}(K:Q7)(hK:X.K=K)(hu:X.A.units+64<cLine):cz X (.builtin "sorted") (xo K):=by
 subst hK;k_asm;obtain⟨p,vs,L,rfl,hS,hP,Z9,q⟩:=h;f_int;have hl1:=rv.length;have hl2:=hP.length;have row:∀i,i<Zb.length->∃x,At X.K H x (L.getD i [])/\RelV x (Zb.getD i SF):=λi hi=>by
  have hv:i<vs.length:=by lia
  obtain⟨b,hb,rb⟩:=Paired.getL hP (Q8 hv);refine⟨vs[i],?_,?_⟩
  .rw[Rf,hb];exact rb
  .rw[Rf,Q8 hi];exact Vals.getL rv (Q8 hv) (Q8 hi)
 refine EW (lt:=λi j=>QU (L.getD i []) (L.getD j [])) pl.isList (by lia) (λh' k v hv=>?_) (λh' k i j C hi hj hC=>?_) λpr a1=>?_
 .obtain⟨i,hi⟩:=RD hv;obtain⟨x,⟨p1,xs1,ex,hS1,_⟩,rx⟩:=row i (Q9.mp hi).1;rw[Rf,hi,ex]at rx;cases(show v=RN p1 from rx);obtain⟨_,_,pl1,_⟩:=I.list hS1;obtain⟨o,ho,hc,_⟩:=CC pl1.isList k;exact λA' Q' E' s' k' q'=>Vt (T:="list") ⟨o,k' _ _ ho,hc⟩ q'
 .obtain⟨x,hx,rx⟩:=row i hi;obtain⟨y,hy,ry⟩:=row j hj;unfold YV;exact GW (I.kept (h':=h') (t':=s.toks) k) hx hy rx ry (by show X.A.units+1+1+(0+1)<cLine;lia) hC
 .obtain⟨c,hc⟩:=sortedAll_at s.heap Zb (R1 (pr.toList.map λi=>Zb.getD i SF));have hn:H (s.heap.objs.size+1)=none:=I.hok.fresh (S6 _);have psz:pr.size=Zb.length:=by have:=a1.size_eq;simpa using this
  have pm:pr.toList.Perm (Rh Zb.length):=by
   have:=a1.toList
   simpa using this
  have ZX:∀i∈pr.toList,i<vs.length:=λi hi=>by
   have:=Ri.mp (pm.mem_iff.mp hi);lia
  refine⟨.ref (s.heap.objs.size+1),_,I.laid (o:=.lst ((pr.toList.map λi=>(vs.getD i .non,L.getD i [])).map (·.1))) (λb o e=>sortedAll_old e) (S6 _) ⟨?_,_,c,?_,hc⟩,rfl,q _ (pr.toList.map λi=>(vs.getD i .non,L.getD i [])) hn ?_⟩
  .rw[Rc,Rc,RZ,psz];exact small (by lia)
  .rw[T4];exact ql rv pr.toList ZX
  .have:=pm.map λi=>(vs.getD i V.non,L.getD i []);rw[<- hl1,Jo (by lia)]at this
   o_rec
theorem uv{K:Q7}{H0 H:Hp}{Q:VK}{d:Addr}{L:AC}(s0:ag H0 H)(h:Rows H0 H d L)(hl:L.length<64)
  (q:∀ (d':Addr) (L':AC) (H':Hp),H d'=none->ag H H'->L'.Perm L->Rows H0 H' d' L'->Q (.ref d') H'):xo K [.ref d] H Q:=by
 obtain⟨h1,ps,h2,h3⟩:=h;refine⟨d,_,L,rfl,SqL.of h2,sM (λp r z=>⟨p,_,rfl,SqL.of z.2.2,dQ⟩) h3,hl,λd' zs hd hz=>?_⟩;obtain⟨ZK,e,h'⟩:=vE h3 hz;have sm:=ar hd (.lst (zs.map (·.1)));have w:(upd H d' (.lst (zs.map (·.1)))) d'=some (.lst (zs.map (·.1))):=ai;rw[e]at w ⊢;rw[e]at sm;refine q d' (zs.map (·.2)) _ hd sm ?_ ⟨s0.free hd,ZK,w,Paired.b5 h' λ_ _ z=>⟨z.1,bF z.2.2 hd,sm _ _ z.2.2⟩⟩
 .have:=hz.map (·.2)
  rwa[sR (by rw[Rc];exact h3.length)]at this
end L2
set_option maxHeartbeats 4000000
namespace TB
open PySem L2
seal PE PA PS PSs PT PI PG PGs PO
local macro_rules|`(tactic|fin2)=>`(tactic|walk_at "rn")
local macro_rules|`(tactic|k_go)=>`(tactic|walk_at "rx")
local macro_rules|`(tactic|k_in)=>`(tactic|walk_at "rd")
local macro_rules|`(tactic|k_ne)=>`(tactic|walk_at "ifs")
variable {XP:(Y5)->Heap->Prop}{C d dx g p q:Addr}{base:Heap}{H H' H0:Hp}{Ls:List (AC)}{D:List (Y2)}{L rows t:AC}{r:Y2}{ps:Y9}{F M P R S S' W acc fr l wa π:AT}{loose own:Z0}{A I a b c e h i j k m n s x y z:Nat}{f:Nat->Nat}{ad:Nat->Nat->Nat}{o:Option Nat}{K:Q7}{σ σ':St}{N:Y4}{mg:Y5}{ta:TE}{tt:TT}{Q:VK}{YP:World->Heap->Prop}
local macro_rules | `(tactic| left)=>`(tactic| with_reducible first|refine Mw ?_|refine Kg ?_|refine FN ?_|(refine' OV ?e ?_;(case e=>with_unfolding_all exact rfl)))
local macro_rules | `(tactic| left)=>`(tactic| with_reducible first|refine OI ?_|refine L8 ?_|refine Nk ?_|refine O4 ?_|refine MS ?_|refine M8 ?_|refine LG ?_|refine OW ?_)
local macro_rules | `(tactic| left)=>`(tactic| with_reducible first|refine LW ?_|refine Lc ?_|refine Mx ?_|refine Q4 ?_|refine HE ?_|refine Oe ?_|refine Md ?_|refine QQ ?_)
local macro_rules | `(tactic| left)=>`(tactic| with_reducible first|refine Om ?_|refine r_notV ?_|refine r_if ?_|refine Ph ?_|refine M4 ?_|refine QX ?_|refine MY ?_|refine OH ?_)
local macro_rules | `(tactic| left)=>`(tactic| with_reducible first|refine QM ?_|refine NY ?_|refine QD ?_|refine QG ?_|refine OP ?_|refine Qu ?_|refine Pl ?_|refine NU ?_)
local macro_rules | `(tactic| left)=>`(tactic| with_reducible first|refine KU ?_|refine MB ?_|refine Pu ?_|refine Gn ?_|refine NS ?_|refine Pf ?_|refine r_retN ?_|refine QK ?_)
local macro_rules | `(tactic| left)=>`(tactic| with_reducible first|refine QT ?_|refine QJ ?_|refine MQ ?_|refine OR ?_|refine Ml ?_|refine NV ?_|refine Ng ?_|refine NI ?_)
local macro_rules | `(tactic| left)=>`(tactic| with_reducible first|refine Ot ?_|refine P9 ?_|refine Qx ?_|refine Oc ?_|refine Qk ?_|refine QE ?_|refine QL ?_|refine QF ?_)
local macro_rules | `(tactic| left)=>`(tactic| with_reducible first|refine Bo (fun _ _ _ _ _ _=>?_)|refine Kx (by assumption) ?_|refine L9 ?_|refine PQ ?_|refine Mq ?_|refine HD ?_|refine Lp ?_|refine K4 ?_)
local macro_rules | `(tactic| left)=>`(tactic| with_reducible first|refine Mb (fun _ _ _ _ _ _ _ _ _ _ _ _ _ _=>?_)|refine NK (fun _ _ _ _ _ _ _ _ _ _ _ _=>?_)|refine Nm (fun _ _ _ _ _ _ _ _ _ _=>?_)|refine MU (fun _ _ _ _ _ _ _ _=>?_)|refine Mg (fun _ _ _ _ _ _=>?_)|refine MT (fun _ _ _ _=>?_)|refine Nq (fun _ _=>?_)|refine bM (by assumption) ?_)
local macro_rules | `(tactic| walk_at "rw1")=>`(tactic| with_reducible first|left|refine r_C ?_|refine Kh ?_|refine DK ?_|refine Fh ?_)
local macro_rules | `(tactic| walk_at "rs1")=>`(tactic| with_reducible first|walk_at "rw1" | refine cK ?_|refine iX ?_)
local macro_rules | `(tactic| walk_at "rd1")=>`(tactic| with_reducible first|walk_at "rs1" | refine Ki ?_)
local macro_rules | `(tactic| walk_at "rs")=>`(tactic| repeat walk_at "rs1")
local macro_rules | `(tactic| walk_at "rd")=>`(tactic| repeat walk_at "rd1")
local macro_rules | `(tactic| walk_at "rw")=>`(tactic| repeat walk_at "rw1")
local macro_rules | `(tactic| walk_at "wr")=>`(tactic| repeat (first|exact jb|refine wD ?_ ?_|refine G1 ?_ (by decide)|exact Gs rfl))
local macro_rules | `(tactic| right)=>`(tactic| with_reducible first|refine Oz ?_|refine zw (by first|assumption|lia) ?_|refine Gv (by first|assumption|lia) (by first|assumption|lia) ?_|refine NC (by lia) ?_|refine Kh ?_|refine DK ?_|refine Fh ?_|refine P0 ?_)
local macro_rules | `(tactic| right)=>`(tactic| with_reducible first|refine Qy ?_|refine r_C ?_|refine Qt ?_|refine L7 ?_|refine OJ ?_|refine Px ?_|refine Pw ?_|refine r_leN ?_|refine Pr ?_)
local macro_rules | `(tactic| right)=>`(tactic| left)
local macro_rules | `(tactic| walk_at "rx1")=>`(tactic| first|right|refine bh (by assumption) (by rfl) ?_|refine cp (by assumption) ?_|refine r_in (by assumption) ?_|refine r9 (by assumption) ?_)
local macro_rules | `(tactic| walk_at "rx")=>`(tactic| repeat walk_at "rx1")
local macro_rules | `(tactic| walk_at "ifs")=>`(tactic| with_reducible refine Ki ?_)
local macro_rules | `(tactic| walk_at "rn")=>`(tactic| repeat right)
local macro_rules | `(tactic| symm) => `(tactic| walk_at "rg")
noncomputable def top(i:Nat):Stmt:=PySem.Challenge.pw_tracebook_k52_ways_of_a_book.main.body.getD i (.Pass ⟨0,0,0,0⟩)
noncomputable abbrev oK:Stmt:=top 17
noncomputable abbrev rB:Stmt:=top 18
noncomputable abbrev kJ:Stmt:=top 19
noncomputable abbrev xJ:Stmt:=top 20
noncomputable abbrev rm:Stmt:=top 21
noncomputable abbrev o6:Stmt:=top 22
noncomputable abbrev yd:Stmt:=top 23
noncomputable abbrev l6:Stmt:=top 24
noncomputable abbrev xr:Stmt:=top 25
noncomputable abbrev C3:Stmt:=top 26
noncomputable abbrev Dj:Stmt:=top 27
noncomputable abbrev rT:Stmt:=top 28
noncomputable abbrev AM:Stmt:=top 30
noncomputable abbrev ya:Stmt:=top 31
noncomputable abbrev oi:Stmt:=top 32
noncomputable abbrev sx:Stmt:=top 33
noncomputable abbrev pZ:Stmt:=top 35
noncomputable abbrev xm:Stmt:=top 36
noncomputable abbrev lK:Stmt:=top 37
noncomputable abbrev vM:Stmt:=top 38
noncomputable abbrev mh:Stmt:=top 39
noncomputable abbrev p8:Stmt:=top 40
noncomputable abbrev CT:Stmt:=top 41
noncomputable abbrev rV:Stmt:=top 42
noncomputable abbrev qM:Stmt:=top 43
noncomputable abbrev kD:Stmt:=top 44
noncomputable abbrev xt:Stmt:=top 45
noncomputable abbrev C4:Stmt:=top 47
noncomputable abbrev mI:Stmt:=top 48
noncomputable abbrev nt:Stmt:=top 51
noncomputable abbrev zW:Stmt:=top 52
noncomputable abbrev pJ:Stmt:=top 53
noncomputable abbrev xa:Stmt:=top 54
noncomputable abbrev xg:Stmt:=top 57
noncomputable abbrev kq:Stmt:=top 58
noncomputable abbrev pI:Stmt:=top 59
noncomputable abbrev sO:Stmt:=top 60
noncomputable abbrev sH:Stmt:=top 61
noncomputable abbrev qm:Stmt:=top 62
noncomputable abbrev Dr:Stmt:=top 63
noncomputable abbrev ou:Stmt:=top 64
noncomputable abbrev qi:Stmt:=top 65
noncomputable abbrev vg:Stmt:=top 66
noncomputable abbrev zI:Stmt:=top 67
noncomputable abbrev lS:Stmt:=top 71
noncomputable abbrev tV:Stmt:=top 74
noncomputable abbrev xY:Stmt:=top 75
noncomputable abbrev nL:Stmt:=top 76
noncomputable abbrev pY:Stmt:=top 77
noncomputable abbrev jD:Stmt:=top 78
noncomputable abbrev lU:Stmt:=top 79
noncomputable abbrev nU:Stmt:=top 80
noncomputable abbrev uc:Stmt:=top 82
noncomputable abbrev sF:Stmt:=top 83
noncomputable abbrev ua:Stmt:=top 84
noncomputable abbrev uf:Stmt:=top 85
noncomputable abbrev qu:Stmt:=top 86
noncomputable abbrev wZ:Stmt:=top 87
noncomputable abbrev pj:Stmt:=top 88
noncomputable abbrev sy:Stmt:=top 89
noncomputable abbrev jU:Stmt:=top 90
noncomputable abbrev qQ:Stmt:=top 91
noncomputable abbrev mJ:Stmt:=top 92
noncomputable abbrev lW:Stmt:=top 93
noncomputable abbrev xH:Stmt:=top 94
noncomputable abbrev sJ:Stmt:=top 95
noncomputable abbrev uk:Stmt:=top 96
noncomputable abbrev DN:Stmt:=top 97
noncomputable abbrev qL:Stmt:=inClass (top 16) 0
noncomputable abbrev qV:Stmt:=inClass (top 55) 0
noncomputable abbrev nH:Stmt:=inClass (top 55) 1
noncomputable abbrev rh:Stmt:=inClass (top 55) 2
noncomputable abbrev u7:Stmt:=inClass (top 69) 0
noncomputable abbrev sI:Stmt:=inClass (top 69) 1
noncomputable abbrev sP:Stmt:=inClass (top 69) 2
noncomputable abbrev kH:Stmt:=inClass (top 70) 0
noncomputable abbrev m6:Stmt:=inClass (top 73) 0
theorem jM:aw ["table","rows","unit","backs"] ["table"] (ah oK):=fsc
theorem km:aw ["rows","many","row"] ["rows"] (ah rB):=fsc
theorem eJ:aw ["rows","many","row","column"] ["rows"] (ah kJ):=fsc
theorem uQ:aw ["rows","thing"] ["rows"] (ah xJ):=fsc
theorem pR:aw ["rows","thing","other"] ["rows","thing"] (ah rm):=fsc
theorem BU:aw ["rows","unit"] ["rows","unit"] (ah o6):=fsc
theorem uZ:aw ["rows","unit","thing","other"] ["rows","unit","thing"] (ah yd):=fsc
theorem dO:aw ["rows","many","one","two","three"] ["rows"] (ah l6):=fsc
theorem kW:aw ["group","things","reached","thing"] ["group","things"] (ah xr):=fsc
theorem BE:aw ["group","thing","many","left"] ["group","thing","many"] (ah C3):=fsc
theorem l8:aw ["group","thing","many","reached"] ["group","thing"] (ah Dj):=fsc
theorem oW:aw ["group","orders","many"] ["group"] (ah rT):=fsc
theorem F2:aw ["group","thing","by"] ["group","thing","by"] (ah AM):=fsc
theorem gm:aw ["group","found","seen","thing","fellows","fellow"] ["group"] (ah ya):=fsc
theorem Ck:aw ["group","thing"] ["group","thing"] (ah oi):=fsc
theorem qU:aw ["group","thing","others","other"] ["group","thing","others"] (ah sx):=fsc
theorem yV:aw ["group","some"] ["group","some"] (ah pZ):=fsc
theorem DZ:aw ["group","some"] ["group","some"] (ah xm):=fsc
theorem yy:aw ["group","some"] ["group","some"] (ah lK):=fsc
theorem IH:aw ["some"] ["some"] (ah vM):=fsc
theorem gH:aw ["group","some","one","other"] ["group","some"] (ah mh):=fsc
theorem eF:aw ["group","some","words","reached","place","thing","further","part"] ["group","some"] (ah p8):=fsc
theorem o7:aw ["group","part","found","one","other"] ["group","part"] (ah CT):=fsc
theorem AE:aw ["group","part","by_thing"] ["group","part"] (ah rV):=fsc
theorem Em:aw ["group","part","thing"] ["group","part","thing"] (ah qM):=fsc
theorem wJ:aw ["group","part"] ["group","part"] (ah kD):=fsc
theorem ux:aw ["group","part","by","thing"] ["group","part","by"] (ah xt):=fsc
theorem oJ:aw ["group","found","thing"] ["group"] (ah C4):=fsc
theorem lV:aw ["group","part","thing"] ["group","part"] (ah mI):=fsc
theorem u6:aw ["many"] ["many"] (ah nt):=fsc
theorem qF:aw ["many","found","divisor"] ["many"] (ah zW):=fsc
theorem gj:aw ["many","found","left","divisor"] ["many","found"] (ah pJ):=fsc
theorem fJ:aw ["polynomial","divider","degree","left","taken","times","start","place"] ["polynomial","divider"] (ah xa):=fsc
theorem t9:aw ["group","spokes","least"] ["group","spokes"] (ah xg):=fsc
theorem vH:aw ["part","marks","spokes"] ["part","marks","spokes"] (ah kq):=fsc
theorem eV:aw ["group","part","marks","spokes","many","mark","one","other"] ["group","part","marks","spokes"] (ah pI):=fsc
theorem qS:aw ["group","part","marks","spokes","found"] ["group","part","marks","spokes"] (ah sO):=fsc
theorem rE:aw ["group","part","by","thing"] ["group","part","by"] (ah sH):=fsc
theorem kA:aw ["group","part","marks","by","mark","thing"] ["group","part","marks","by"] (ah qm):=fsc
theorem Iy:aw ["group","part","marks","thing","spokes"] ["group","part","marks","thing","spokes"] (ah Dr):=fsc
theorem cX:aw ["group","part","marks","thing","spokes","mark","steps","aim","origins","many","base","greater","found","own"] ["group","part","marks","thing","spokes"] (ah ou):=fsc
theorem ky:aw ["group","part","thing","steps"] ["group","part","thing"] (ah qi):=fsc
theorem iL:aw ["group","part","spokes","many","reached","found","thing","taken"] ["group","part","spokes"] (ah vg):=fsc
theorem qC:aw ["lists","found","some"] ["lists"] (ah zI):=fsc
theorem dM:aw ["group","part","carriers","found","number","carrier","k","thing"] ["group","part"] (ah lS):=fsc
theorem xf:aw ["way","wheel"] ["way"] (ah tV):=fsc
theorem ur:aw ["group","spokes","many"] ["group","spokes"] (ah xY):=fsc
theorem uj:aw ["way"] ["way"] (ah nL):=fsc
theorem kT:aw ["group","spokes","found","ways","marks"] ["group","spokes"] (ah pY):=fsc
theorem mL:aw ["group","part","marks","by","mark"] ["group","part","marks","by"] (ah jD):=fsc
theorem kG:aw ["group","part","marks","leading","spokes","keeper","taken"] ["group","part","marks","leading","spokes"] (ah lU):=fsc
theorem jn:aw ["group","part","marks","leading","times"] ["group","part","marks","leading"] (ah nU):=fsc
theorem Cz:aw ["_law_script","_law_k"] ["_law_script","_law_k"] (ah uc):=fsc
theorem cq:aw ["_law_one","_law_two","_law_number","_law_some","_law_top","_law_steps","_law_room","_law_first","_law_second","_law_third"] ["_law_one","_law_two"] (ah sF):=fsc
theorem sC:aw ["_law_sizes_here","_law_number","_law_kinds"] ["_law_sizes_here","_law_number"] (ah ua):=fsc
theorem eM:aw ["_law_many","_law_steps","_law_number","_law_units","_law_u","_law_found","_law_k"] ["_law_many","_law_steps","_law_number"] (ah uf):=fsc
theorem cv:aw ["_law_place","_law_sizes_here","_law_kind_here","_law_units","_law_x","_law_y","_law_w"] ["_law_place","_law_sizes_here","_law_kind_here","_law_units"] (ah qu):=fsc
theorem jg:aw ["_law_one","_law_other","_law_sizes_here","_law_both","_law_x","_law_y","_law_w"] ["_law_one","_law_other","_law_sizes_here"] (ah wZ):=fsc
theorem cu:aw ["_law_sizes_here","_law_turn","_law_end","_law_calm","_law_rows_here","_law_led","_law_i","_law_one","_law_row","_law_j","_law_other","_law_place"] ["_law_sizes_here","_law_turn","_law_end"] (ah pj):=fsc
theorem jk:aw ["_law_many","_law_number","_law_names_here","_law_k"] ["_law_many","_law_number"] (ah sy):=fsc
theorem a9:aw ["_law_script","_law_start","_law_one","_law_two","_law_sizes_here","_law_stirred","_law_kind_here","_law_units","_law_k","_law_calm","_law_turn","_law_end","_law_rows_here","_law_names_here","_law_row","_law_table","_law_a","_law_b","_law_thing"] ["_law_script","_law_start"] (ah jU):=fsc
theorem pP:aw ["_law_found","_law_number"] ["_law_found"] (ah qQ):=fsc
theorem fA:aw ["_law_table","_law_part","_law_k","_law_a","_law_b"] ["_law_table","_law_part"] (ah mJ):=fsc
theorem eO:aw ["_law_table","_law_part","_law_marks","_law_spokes","_law_mark_of","_law_a","_law_b"] ["_law_table","_law_part","_law_marks","_law_spokes"] (ah lW):=fsc
theorem cJ:aw ["_law_table","_law_part","_law_marks","_law_side_of","_law_carriers","_law_x","_law_h","_law_mark_of","_law_moves","_law_a","_law_row","_law_found","_law_y"] ["_law_table","_law_part","_law_marks"] (ah xH):=fsc
theorem qD:aw ["_law_found","_law_due_here","_law_k"] ["_law_found","_law_due_here"] (ah sJ):=fsc
theorem nh:aw ["_law_table","_law_way","_law_spokes","_law_due_here","_law_a"] ["_law_table","_law_way","_law_spokes"] (ah uk):=fsc
theorem uH:aw ["_law_script","_law_table","_law_book","_law_way"] ["_law_script"] (ah DN):=fsc
theorem yT:aw ["self","rows","unit","backs"] ["self","rows","unit","backs"] (ah qL):=fsc
theorem yE:aw ["self","many"] ["self","many"] (ah qV):=fsc
theorem uW:aw ["self","counts"] ["self","counts"] (ah nH):=fsc
theorem fM:aw ["self","counts","step","start","totals","k","many","place"] ["self","counts","step","start"] (ah rh):=fsc
theorem B3:aw ["self","group","spokes","deeds"] ["self","group","spokes","deeds"] (ah u7):=fsc
theorem BC:aw ["self","thing"] ["self","thing"] (ah sI):=fsc
theorem i5:aw ["self","thing","counts","place","move"] ["self","thing"] (ah sP):=fsc
theorem nT:aw ["self","group","part","marks","spokes","deeds"] ["self","group","part","marks","spokes"] (ah kH):=fsc
theorem BD:aw ["self","group","spokes","ways"] ["self","group","spokes","ways"] (ah m6):=fsc
theorem pO:aT (ah oK) ["table","rows","unit","backs"] (fsC [(".0",.local),("row",.local),("list",.globalImplicit)]) ["row"] []:=cY
theorem pF:aT (ah o6) ["rows","unit"] (fsC [(".0",.local),("thing",.local),("back_of",.globalImplicit),("rows",.free),("unit",.free)]) ["thing"] [0,1]:=cY
theorem uo:aT (ah rT) ["group","orders","many"] (fsC [(".0",.local),("thing",.local),("order",.globalImplicit),("group",.free)]) ["thing"] [0]:=cY
theorem vq:aT (ah rT) ["group","orders","many"] (fsC [(".0",.local),("times",.local),("many",.free)]) ["times"] [2]:=cY
theorem pW:aT (ah oi) ["group","thing"] (fsC [(".0",.local),("by",.local),("turned",.globalImplicit),("group",.free),("thing",.free)]) ["by"] [0,1]:=cY
theorem mC:aT (ah lK) ["group","some"] (fsC [(".0",.local),("number",.local),("group",.free)]) ["number"] [0]:=cY
theorem uP:aT (ah vM) ["some"] (fsC [(".0",.local),("place",.local),("some",.free)]) ["place"] [0]:=cY
theorem qE:aT (ah p8) ["group","some","words","reached","place","thing","further","part"] (fsC [(".0",.local),("thing",.local),("words",.free)]) ["thing"] [2]:=cY
theorem uD:aT (ah rV) ["group","part","by_thing"] (fsC [(".0",.local),("thing",.local),("side_of",.globalImplicit),("group",.free),("part",.free)]) ["thing"] [0,1]:=cY
theorem uu:aT (ah rV) ["group","part","by_thing"] (fsC [(".0",.local),("thing",.local),("side",.local)]) ["thing","side"] []:=cY
theorem p7:aT (ah qM) ["group","part","thing"] (fsC [(".0",.local),("other",.local),("group",.free),("thing",.free)]) ["other"] [0,2]:=cY
theorem lI:aT (ah kD) ["group","part"] (fsC [(".0",.local),("side",.local)]) ["side"] []:=cY
theorem lH:aT (ah kq) ["part","marks","spokes"] (fsC [(".0",.local),("mark",.local),("spokes",.free)]) ["mark"] [2]:=cY
theorem pH:aT (ah ou) ["group","part","marks","thing","spokes","mark","steps","aim","origins","many","base","greater","found","own"] (fsC [(".0",.local),("one",.local),("origins",.free),("own",.free),("spokes",.free)]) ["one"] [8,13,4]:=cY
theorem xG:aT (ah vg) ["group","part","spokes","many","reached","found","thing","taken"] (fsC [(".0",.local),("marks",.local),("taken_on",.globalImplicit),("group",.free),("many",.free),("reached",.free),("thing",.free)]) ["marks"] [0,3,4,6]:=cY
theorem xu:aT (ah vg) ["group","part","spokes","many","reached","found","thing","taken"] (fsC [(".0",.local),("greater",.local),("ways",.local)]) ["greater","ways"] []:=cY
theorem mq:aT (ah lS) ["group","part","carriers","found","number","carrier","k","thing"] (fsC [(".0",.local),("row",.cell),("carriers",.free),("found",.free)]) ["row"] [2,3]:=cY
theorem mG:aT (fsC [(".0",.local),("row",.cell),("carriers",.cell),("found",.cell)]) ["row","carriers","found"] (fsC [(".0",.local),("carrier",.local),("found",.free),("row",.free)]) ["carrier"] [2,0]:=cY
theorem sA:aT (ah tV) ["way","wheel"] (fsC [(".0",.local),("fellows",.local),("way",.free),("wheel",.free)]) ["fellows"] [0,1]:=cY
theorem q9:aT (ah pY) ["group","spokes","found","ways","marks"] (fsC [(".0",.local),("by",.local),("marks_turned",.globalImplicit),("found",.free),("group",.free),("marks",.free)]) ["by"] [2,0,4]:=cY
theorem kI:aT (ah jD) ["group","part","marks","by","mark"] (fsC [(".0",.local),("thing",.local),("turned",.globalImplicit),("by",.free),("group",.free),("mark",.free)]) ["thing"] [3,0,4]:=cY
theorem mB:aT (ah lU) ["group","part","marks","leading","spokes","keeper","taken"] (fsC [(".0",.local),("more",.local),("Lifted",.globalImplicit),("group",.free),("spokes",.free),("taken",.free)]) ["more"] [0,4,6]:=cY
theorem pV:aT (ah pj) ["_law_sizes_here","_law_turn","_law_end","_law_calm","_law_rows_here","_law_led","_law_i","_law_one","_law_row","_law_j","_law_other","_law_place"] (fsC [(".0",.local),("_law_place",.local),("_law_turn",.free)]) ["_law_place"] [1]:=cY
theorem nP:aT (ah jU) ["_law_script","_law_start","_law_one","_law_two","_law_sizes_here","_law_stirred","_law_kind_here","_law_units","_law_k","_law_calm","_law_turn","_law_end","_law_rows_here","_law_names_here","_law_row","_law_table","_law_a","_law_b","_law_thing"] (fsC [(".0",.local),("_law_place",.local),("_law_turned",.globalImplicit),("_law_kind_here",.free),("_law_sizes_here",.free),("_law_units",.free)]) ["_law_place"] [6,4,7]:=cY
theorem nJ:aT (ah jU) ["_law_script","_law_start","_law_one","_law_two","_law_sizes_here","_law_stirred","_law_kind_here","_law_units","_law_k","_law_calm","_law_turn","_law_end","_law_rows_here","_law_names_here","_law_row","_law_table","_law_a","_law_b","_law_thing"] (fsC [(".0",.local),("_law_row",.local),("list",.globalImplicit)]) ["_law_row"] []:=cY
theorem zQ:aT (ah DN) ["_law_script","_law_table","_law_book","_law_way"] (fsC [(".0",.local),("_law_row",.local),("list",.globalImplicit)]) ["_law_row"] []:=cY
theorem lT:aT (ah kH) ["self","group","part","marks","spokes","deeds"] (fsC [(".0",.local),("moves",.local),("marks",.free)]) ["moves"] [3]:=cY
theorem l9:aT (fsC [(".0",.local),("moves",.local),("marks",.cell)]) ["moves","marks"] (fsC [(".0",.local),("number",.local),("k",.local),("marks",.free)]) ["number","k"] [1]:=cY
theorem nF:aT (ah m6) ["self","group","spokes","ways"] (fsC [(".0",.local),("way",.local),("row_of",.globalImplicit)]) ["way"] []:=cY
noncomputable abbrev Fa(P:RB)(w:World)(base:Heap){x:Str}{st:Stmt}{ps:Z0}(d:Df K mg x st ps)(k:Nat)(sp:Sp):Prop:=aH P w K mg base CX0 k d.f d.fd ps sp
noncomputable abbrev R?(a:Addr):Option V:=some (.ref a)
noncomputable abbrev I?(a:Int):Option V:=some (.int a)
set_option genInjectivity false in
set_option genSizeOf false in
structure Txt(K:Q7)(mg:Y5) where
 lj:Df K mg "group_of" oK ["table"]
 jj:Df K mg "check_size" rB ["rows"]
 eP:Df K mg "check_strangers" kJ ["rows"]
 mN:Df K mg "unit_of" xJ ["rows"]
 ja:Df K mg "leaves_all" rm ["rows","thing"]
 lg:Df K mg "backs_of" o6 ["rows","unit"]
 mT:Df K mg "back_of" yd ["rows","unit","thing"]
 fv:Df K mg "check_together" l6 ["rows"]
 iP:Df K mg "product" xr ["group","things"]
 iK:Df K mg "power" C3 ["group","thing","many"]
 nZ:Df K mg "order" Dj ["group","thing"]
 rL:Df K mg "turns" rT ["group"]
 iG:Df K mg "turned" AM ["group","thing","by"]
 j7:Df K mg "classes" ya ["group"]
 kQ:Df K mg "class_of" oi ["group","thing"]
 jN:Df K mg "goes_with" sx ["group","thing","others"]
 dU:Df K mg "check_part" pZ ["group","some"]
 mO:Df K mg "is_part" xm ["group","some"]
 i8:Df K mg "all_things" lK ["group","some"]
 rQ:Df K mg "rises" vM ["some"]
 fD:Df K mg "holds_products" mh ["group","some"]
 iM:Df K mg "closure" p8 ["group","some"]
 nr:Df K mg "mixed" CT ["group","part"]
 r6:Df K mg "sides" rV ["group","part"]
 mS:Df K mg "side_of" qM ["group","part","thing"]
 ie:Df K mg "carriers_of" kD ["group","part"]
 mD:Df K mg "led_out" xt ["group","part","by"]
 rG:Df K mg "heart" C4 ["group"]
 fS:Df K mg "least_leading" mI ["group","part"]
 ff:Df K mg "check_spokes" nt ["many"]
 pe:Df K mg "circle" zW ["many"]
 hZ:Df K mg "next_circle" pJ ["many","found"]
 jY:Df K mg "divided" xa ["polynomial","divider"]
 fq:Df K mg "serving" xg ["group","spokes"]
 gZ:Df K mg "check_marks" kq ["part","marks","spokes"]
 gX:DfD K mg "first_break" pI ["group","part","marks","spokes"] "spokes" 3
 gR:Df K mg "check_way" sO ["group","part","marks","spokes"]
 jO:Df K mg "check_led" sH ["group","part","by"]
 iS:Df K mg "check_kept" qm ["group","part","marks","by"]
 rH:DfD K mg "grown" Dr ["group","part","marks","thing","spokes"] "spokes" 4
 i6:Df K mg "taken_on" ou ["group","part","marks","thing","spokes"]
 je:Df K mg "steps_into" qi ["group","part","thing"]
 vh:DfD K mg "ones" vg ["group","part","spokes"] "spokes" 2
 oC:Df K mg "joined" zI ["lists"]
 jh:Df K mg "side_moves" lS ["group","part"]
 lR:Df K mg "row_of" tV ["way"]
 mF:DfD K mg "book_of" xY ["group","spokes"] "spokes" 1
 gA:Df K mg "size_and_row" nL ["way"]
 mP:Df K mg "ways_of" pY ["group","spokes"]
 eU:Df K mg "marks_turned" jD ["group","part","marks","by"]
 jc:Df K mg "ways_above" lU ["group","part","marks","leading","spokes"]
 gE:Df K mg "least_keeper" nU ["group","part","marks","leading"]
 gB:Df K mg "_law_cell" uc ["_law_script","_law_k"]
 jH:Df K mg "_law_sizes" sF ["_law_one","_law_two"]
 lq:Df K mg "_law_kind" ua ["_law_sizes_here","_law_number"]
 lr:Df K mg "_law_unit" uf ["_law_many","_law_steps","_law_number"]
 iY:Df K mg "_law_turned" qu ["_law_place","_law_sizes_here","_law_kind_here","_law_units"]
 ke:Df K mg "_law_sum" wZ ["_law_one","_law_other","_law_sizes_here"]
 kP:Df K mg "_law_rows" pj ["_law_sizes_here","_law_turn","_law_end"]
 jT:Df K mg "_law_names" sy ["_law_many","_law_number"]
 jJ:Df K mg "_law_group" jU ["_law_script","_law_start"]
 fh:Df K mg "_law_wholes" qQ ["_law_found"]
 fT:Df K mg "_law_part_good" mJ ["_law_table","_law_part"]
 fI:Df K mg "_law_marks_good" lW ["_law_table","_law_part","_law_marks","_law_spokes"]
 mM:Df K mg "_law_due" xH ["_law_table","_law_part","_law_marks"]
 jS:Df K mg "_law_alike" sJ ["_law_found","_law_due_here"]
 lu:Df K mg "_law_good" uk ["_law_table","_law_way","_law_spokes"]
 rR:Df K mg "law" DN ["_law_script"]
 aE:Addr
 wg:Addr
 vI:SO
 K7:mg "Group" = some (.ref aE)
 fN:Cls K aE
 LV:Mk K aE wg
 K5:Fun K "__init__" "Group.__init__" qL wg vI
 Lx:Binds K vI ["self","rows","unit","backs"] []
 rD:bE K aE "many"
 mf:bE K aE "rows"
 lN:bE K aE "unit"
 pL:bE K aE "backs"
 cy:Addr
 vG:Addr
 wj:SO
 Lo:mg "Wheel" = some (.ref cy)
 gv:Cls K cy
 Lu:Mk K cy vG
 Lv:Fun K "__init__" "Wheel.__init__" qV vG wj
 Kn:Binds K wj ["self","many"] []
 mY:bE K cy "rim"
 jE:bE K cy "spokes"
 AR:bE K cy "size"
 jw:Addr
 jx:SO
 vV:Meth K cy "lowest" jw
 wI:Fun K "lowest" "Wheel.lowest" nH jw jx
 wk:Binds K jx ["self","counts"] []
 lZ:Addr
 lM:SO
 Bg:Meth K cy "laid" lZ
 BN:Fun K "laid" "Wheel.laid" rh lZ lM
 Be:Binds K lM ["self","counts","step","start"] []
 jK:Addr
 zi:Addr
 DL:SO
 P4:mg "Way" = some (.ref jK)
 Q5:Cls K jK
 Q6:Mk K jK zi
 OO:Fun K "__init__" "Way.__init__" u7 zi DL
 O8:Binds K DL ["self","group","spokes","deeds"] []
 PX:DX K jK "__init__" zi
 Of:bE K jK "group"
 NX:bE K jK "spokes"
 Qg:bE K jK "size"
 Oh:bE K jK "deeds"
 jP:Addr
 mU:SO
 Og:Meth K jK "moves" jP
 Cw:Fun K "moves" "Way.moves" sI jP mU
 BS:Binds K mU ["self","thing"] []
 jQ:Addr
 m7:SO
 Oi:Meth K jK "trace" jQ
 B8:Fun K "trace" "Way.trace" sP jQ m7
 Cf:Binds K m7 ["self","thing"] []
 aA:Addr
 tO:Addr
 tP:SO
 AN:mg "Lifted" = some (.ref aA)
 cP:Cls K aA
 Iw:Mk K aA tO
 AZ:fj K "__init__" "Lifted.__init__" kH tO tP
 wQ:Meth K aA "moves" jP
 vW:Meth K aA "trace" jQ
 pT:bE K aA "part"
 nW:bE K aA "marks"
 nB:bE K aA "group"
 mE:bE K aA "spokes"
 pQ:bE K aA "size"
 nu:bE K aA "deeds"
 bw:Addr
 Av:Addr
 zJ:SO
 Nz:mg "Book" = some (.ref bw)
 ka:Cls K bw
 MM:Mk K bw Av
 Nr:Fun K "__init__" "Book.__init__" m6 Av zJ
 NP:Binds K zJ ["self","group","spokes","ways"] []
 Am:bE K bw "group"
 pM:bE K bw "spokes"
 vP:bE K bw "classes"
 nq:bE K bw "ways"
 Cg:bE K bw "rows"
 Qf:SX K (.ref aA) "__class__" = some (some (.builtin "object.__class__"))
 w_get:VO K (.builtin "object.__class__") "__get__" = some (some (.builtin "getset_descriptor.__get__"))
 Qj:PySem.W.takesIn K (.builtin "object.__class__")=some true
 P5:PySem.W.mroIn K aA (.type "object")=some true
 OU:UT K (.ref aA) (.ref aA)=some true
 yO:Tok
 yi:mg "MOST_SPOKES" = some (.int 60 yO)
 yI:Tok
 yD:mg "MOST_THINGS" = some (.int 23 yI)
 J7:mg "all" = none
 Kf:mg "any" = none
 NF:mg "bool" = none
 nK:mg "dict" = none
 eL:mg "enumerate" = none
 OL:mg "int" = none
 eY:mg "isinstance" = none
 bo:mg "len" = none
 eZ:mg "list" = none
 Pg:mg "min" = none
 aU:mg "range" = none
 DI:mg "reversed" = none
 JN:mg "set" = none
 fX:mg "sorted" = none
 KW:mg "tuple" = none
 rF:mg "zip" = none
theorem Txt.Iu(T:Txt K mg):Binds K T.tP ["self","group","part","marks","spokes"] []:=bc5 T.AZ
noncomputable def tb(t:AC)(i j:Nat):Nat:=(t.getD i []).getD j 0
structure Sq(n:Nat)(t:AC):Prop where
 len:t.length=n
 pos:1<=n
 le:n<=23
 row:∀ (i:Nat) (r:AT),t[i]?=some r->r.length=n
structure Gd(n:Nat)(t:AC):Prop extends Sq n t where
 lt:∀i j,i<n->j<n->tb t i j<n
structure GT(n:Nat)(t:AC)(e:Nat):Prop extends Gd n t where
 elt:e<n
 unl:∀i,i<n->tb t e i=i
 unr:∀i,i<n->tb t i e=i
 back:∀i,i<n->∃b,b<n/\tb t i b=e/\tb t b i=e
 assoc:∀i j k,i<n->j<n->k<n->tb t (tb t i j) k=tb t i (tb t j k)
theorem Sq.get(s:Sq n t)(h:i<n):t[i]?=some (t.getD i []):=by
 have hl:i<t.length:=by rw[s.len];exact h
 rw[Rf,Q8 hl];simp
theorem Sq.dz(s:Sq n t)(h:i<n)(h':j<n):(t.getD i [])[j]?=some (tb t i j):=by
 have hr:(t.getD i []).length=n:=s.row i _ (s.get h);have hl:j<(t.getD i []).length:=by rw[hr];exact h'
 unfold tb;rw[Rf (l:=t.getD i []),Q8 hl];simp
noncomputable def qG(n:Nat)(t:AC)(x:Nat):Prop:=∀o,o<n->tb t x o=o/\tb t o x=o
noncomputable instance :Decidable (qG n t x):=inferInstanceAs (Decidable (∀o,o<n->tb t x o=o/\tb t o x=o))
theorem GT.uO(g:GT n t e)(hx:x<n):qG n t x↔x=e:=by
 constructor
 .intro h;have h1:=(h e g.elt).1;have h2:=g.unr x hx;rw[h2]at h1;exact h1
 .rintro rfl o ho;exact⟨g.unl o ho,g.unr o ho⟩
noncomputable def az(n:Nat)(t:AC)(e a:Nat):Nat:=((Rh n).find? λb=>decide (tb t a b=e/\tb t b a=e)).getD 0
theorem KZ(hb:b<n)(h:tb t a b=e/\tb t b a=e)(hn:∀c,c<b->¬ (tb t a c=e/\tb t c a=e)):az n t e a=b:=by
 unfold az;have:(Rh n).find? (λb=>decide (tb t a b=e/\tb t b a=e))=some b:=by
  rw[W6];refine⟨by simpa using h,by simpa using hb,λj hj=>?_⟩
  have:=hn j hj;simp only[W3,decide_eq_false_iff_not];o_rec
 rw[this];rfl
theorem GT.bk(g:GT n t e)(ha:a<n):az n t e a<n/\tb t a (az n t e a)=e/\tb t (az n t e a) a=e:=by
 obtain⟨b,hb,h⟩:=g.back a ha;unfold az;cases q:(Rh n).find? (λb=>decide (tb t a b=e/\tb t b a=e)) with
 | none =>
  rw[W7]at q;have:=q b hb;simp at this;exact this.elim (λz=>absurd h.1 z) λz=>absurd h.2 z
 | some c =>
  have h1:=List.find?_some q;have h2:=Ri.mp (WS q);simp only[decide_eq_true_eq]at h1;exact⟨h2,h1⟩
noncomputable def bks(n:Nat)(t:AC)(e:Nat):AT:=(Rh n).map (az n t e)
noncomputable def prd(t:AC)(e:Nat)(l:AT):Nat:=l.foldl (tb t) e
theorem Gd.FF{n:Nat}{t:AC}(g:Gd n t):∀ {l:AT} {e:Nat},e<n->(∀x∈l,x<n)->prd t e l<n
 | [],_,h,_=>h
 | x :: r,e,h,hl=>by
  show prd t (tb t e x) r<n;exact Gd.FF g (g.lt e x h (hl x Rr)) λy hy=>hl y (Rp _ hy)
theorem IV(h:l[i]?=some x):prd t e (l.take (i+1))=tb t (prd t e (l.take i)) x:=by
 unfold prd;rw[RM,h];simp
theorem cR{β:Type}(f:Nat->β)(n i:Nat)(h:i<n):((Rh n).map f).take (i+1)=((Rh n).map f).take i++[f i]:=by
 rw[RM];simp[h]
noncomputable def mkT(n:Nat)(f:Nat->Nat->Nat):AC:=(Rh n).map λa=>(Rh n).map λb=>f a b
theorem vf{f:Nat->Nat->Nat}(ha:a<n)(hb:b<n):tb (mkT n f) a b=f a b:=by
 unfold tb mkT;simp[Rf,ha,hb]
theorem Mz{f:Nat->Nat->Nat}(h1:1<=n)(h2:n<=23):Sq n (mkT n f):=by
 refine⟨by simp[mkT],h1,h2,λi r h=>?_⟩
 have:r∈mkT n f:=Rb h;unfold mkT at this;obtain⟨a,_,rfl⟩:=Rw.mp this;simp
theorem ME{f:Nat->Nat->Nat}(h1:1<=n)(h2:n<=23)(lt:∀a b,a<n->b<n->f a b<n)(elt:e<n)(unl:∀a,a<n->f e a=a)(unr:∀a,a<n->f a e=a)
  (back:∀a,a<n->∃b,b<n/\f a b=e/\f b a=e) (assoc:∀a b c,a<n->b<n->c<n->f (f a b) c=f a (f b c)):GT n (mkT n f) e:=by
 have q:∀ {a b:Nat},a<n->b<n->tb (mkT n f) a b=f a b:=λha hb=>vf ha hb;refine⟨⟨Mz h1 h2,λi j hi hj=>by rw[q hi hj];exact lt i j hi hj⟩,elt,λi hi=>by rw[q elt hi];exact unl i hi,λi hi=>by rw[q hi elt];exact unr i hi,λi hi=>?_,λi j k hi hj hk=>?_⟩
 .obtain⟨b,hb,x,y⟩:=back i hi;exact⟨b,hb,by rw[q hi hb];exact x,by rw[q hb hi];exact y⟩
 .rw[q hi hj,q hj hk,q (lt i j hi hj) hk,q hi (lt j k hj hk)];exact assoc i j k hi hj hk
structure Ab(m:Nat)(ad:Nat->Nat->Nat):Prop where
 pos:0<m
 lt:∀x y,x<m->y<m->ad x y<m
 assoc:∀x y z,x<m->y<m->z<m->ad (ad x y) z=ad x (ad y z)
 comm:∀x y,x<m->y<m->ad x y=ad y x
 zero:∀x,x<m->ad x 0=x
 neg:∀x,x<m->∃y,y<m/\ad x y=0
structure Tn(m:Nat)(ad:Nat->Nat->Nat)(f:Nat->Nat)(s e:Nat):Prop extends Ab m ad where
 iz:0<s
 flt:∀x,x<m->f x<m
 fad:∀x y,x<m->y<m->f (ad x y)=ad (f x) (f y)
 per:∀x,x<m->Nat.repeat f s x=x
 elt:e<m
 fe:f e=e
noncomputable def tim(ad:Nat->Nat->Nat)(e:Nat):Nat->Nat
 | 0=>0
 | k+1=>ad (tim ad e k) e
noncomputable def cyc(m:Nat)(ad:Nat->Nat->Nat)(f:Nat->Nat)(s e I J:Nat):Nat :=
 (let p:=ad (I % m) (Nat.repeat f (I / m) (J % m));if I / m+J / m >= s then ad p e else p)+m * ((I / m+J / m) % s)
theorem eW(T:Tn m ad f s e):∀ (k:Nat) {x:Nat},x<m->Nat.repeat f k x<m
 | 0,_,h=>h
 | k+1,_,h=>T.flt _ (eW T k h)
theorem qH(T:Tn m ad f s e):∀ (k:Nat) {x y:Nat},x<m->y<m->Nat.repeat f k (ad x y)=ad (Nat.repeat f k x) (Nat.repeat f k y)
 | 0,_,_,_,_=>rfl
 | k+1,x,y,hx,hy=>by
  show f (Nat.repeat f k (ad x y))=ad (f (Nat.repeat f k x)) (f (Nat.repeat f k y));rw[qH T k hx hy,T.fad _ _ (eW T k hx) (eW T k hy)]
theorem JY(T:Tn m ad f s e):∀k:Nat,Nat.repeat f k e=e
 | 0=>rfl
 | k+1=>by show f (Nat.repeat f k e)=e;rw[JY T k,T.fe]
theorem lD(f:Nat->Nat)(x:Nat):∀i j:Nat,Nat.repeat f (i+j) x=Nat.repeat f i (Nat.repeat f j x)
 | 0,j=>by rw[Tj];rfl
 | i+1,j=>by
  have e:i+1+j=(i+j)+1:=by lia
  rw[e];show f (Nat.repeat f (i+j) x)=f (Nat.repeat f i (Nat.repeat f j x));rw[lD f x i j]
theorem Le(T:Tn m ad f s e)(hx:x<m)(hk:k<2 * s):Nat.repeat f (k % s) x=Nat.repeat f k x:=by
 have hs:=T.iz
 by_cases h:k<s
 .rw[R4 h]
 .have e1:k % s=k - s:=by rw[WI (by lia),R4 (by lia)]
  have e2:k=(k - s)+s:=by lia
  rw[e1]
  conv=>rhs;rw[e2,lD,T.per x hx]
theorem dR(T:Tn m ad f s e):∀k,tim ad e k<m
 | 0=>T.pos
 | k+1=>T.lt _ _ (dR T k) T.elt
theorem FU(T:Ab m ad)(hx:x<m):ad 0 x=x:=by rw[T.comm 0 x T.pos hx,T.zero x hx]
theorem wq(T:Tn m ad f s e):∀i j,tim ad e (i+j)=ad (tim ad e i) (tim ad e j)
 | i,0=>by rw[TN];show _=ad _ 0;rw[T.zero _ (dR T i)]
 | i,j+1=>by
  show ad (tim ad e (i+j)) e=ad (tim ad e i) (ad (tim ad e j) e);rw[wq T i j,T.assoc _ _ _ (dR T i) (dR T j) T.elt]
theorem vQ(T:Tn m ad f s e)(k:Nat):∀j,Nat.repeat f k (tim ad e j)=tim ad e j
 | 0=>by
  show Nat.repeat f k 0=0;have h0:Nat.repeat f k 0<m:=eW T k T.pos;have h1:ad (Nat.repeat f k 0) (Nat.repeat f k 0)=Nat.repeat f k 0:=by rw[<- qH T k T.pos T.pos,T.zero 0 T.pos]
  obtain⟨y,hy,e1⟩:=T.neg _ h0;have h2:ad (ad (Nat.repeat f k 0) (Nat.repeat f k 0)) y=ad (Nat.repeat f k 0) y:=by rw[h1]
  rw[T.assoc _ _ _ h0 h0 hy,e1,T.zero _ h0]at h2;exact h2
 | j+1=>by
  show Nat.repeat f k (ad (tim ad e j) e)=ad (tim ad e j) e;rw[qH T k (dR T j) T.elt,vQ T k j,JY T k]
theorem fV(T:Tn m ad f s e)(hx:x<m)(hy:y<m)(hi:i<s)(hj:j<s) :
  cyc m ad f s e (x+m * i) (y+m * j)=ad (ad x (Nat.repeat f i y)) (tim ad e ((i+j) / s))+m * ((i+j) % s):=by
 have hm:=T.pos;have d1:(x+m * i) / m=i:=by rw[Ti _ _ hm,Tc hx,Tj]
 have d2:(y+m * j) / m=j:=by rw[Ti _ _ hm,Tc hy,Tj]
 have r1:(x+m * i) % m=x:=by rw[Tr,R4 hx]
 have r2:(y+m * j) % m=y:=by rw[Tr,R4 hy]
 unfold cyc;rw[d1,d2,r1,r2];dsimp only;have hp:ad x (Nat.repeat f i y)<m:=T.lt _ _ hx (eW T i hy)
 by_cases h:i+j >= s
 .have q:(i+j) / s=1:=by
   have:i+j=(i+j - s)+s * 1:=by lia
   rw[this,Ti _ _ T.iz,Tc (by lia)]
  rw[if_pos h,q];show _=ad _ (ad 0 e)+_;rw[FU T.toAb T.elt]
 .have q:(i+j) / s=0:=Tc (by lia)
  rw[if_neg h,q];show _=ad _ 0+_;rw[T.zero _ hp]
theorem dm(m:Nat)(I:Nat):I=I % m+m * (I / m):=(XZ I m).symm
theorem GR(T:Tn m ad f s e){J:Nat}(hI:I<m * s)(hJ:J<m * s):cyc m ad f s e I J<m * s:=by
 have hm:=T.pos;have hi:I / m<s:=SN hI;have hj:J / m<s:=SN hJ;rw[dm m I,dm m J,fV T (RT _ hm) (RT _ hm) hi hj];have h1:ad (ad (I % m) (Nat.repeat f (I / m) (J % m))) (tim ad e ((I / m+J / m) / s))<m:=T.lt _ _ (T.lt _ _ (RT _ hm) (eW T _ (RT _ hm))) (dR T _);have h2:(I / m+J / m) % s<s:=RT _ T.iz;have h3:m * ((I / m+J / m) % s)+m<=m * s:=by
  rw[<- T5];exact SE _ h2
 lia
theorem rj(T:Tn m ad f s e){J L:Nat}(hI:I<m * s)(hJ:J<m * s)(hL:L<m * s):cyc m ad f s e (cyc m ad f s e I J) L=cyc m ad f s e I (cyc m ad f s e J L):=by
 have hm:=T.pos;have hi:I / m<s:=SN hI;have hj:J / m<s:=SN hJ;have hl:L / m<s:=SN hL;rw[dm m I,dm m J,dm m L];generalize I / m=i at hi;generalize J / m=j at hj;generalize L / m=l at hl;have hx:I % m<m:=RT _ hm;have hy:J % m<m:=RT _ hm;have hz:L % m<m:=RT _ hm;generalize I % m=x at hx;generalize J % m=y at hy;generalize L % m=z at hz;have hs:=T.iz;have hij:(i+j) % s<s:=RT _ hs;have hjl:(j+l) % s<s:=RT _ hs;have fy:=eW T i hy;have fz:=eW T j hz;have t1:=dR T ((i+j) / s);have t2:=dR T ((j+l) / s);have p1:ad x (Nat.repeat f i y)<m:=T.lt _ _ hx fy;have p2:ad y (Nat.repeat f j z)<m:=T.lt _ _ hy fz;rw[fV T hx hy hi hj,fV T hy hz hj hl,fV T (T.lt _ _ p1 t1) hz hij hl,fV T hx (T.lt _ _ p2 t2) hi hjl];have em:((i+j) % s+l) % s=(i+(j+l) % s) % s:=by rw[Ts,UJ,Vf]
 have ed:(i+j) / s+((i+j) % s+l) / s=(j+l) / s+(i+(j+l) % s) / s:=by
  have a1:=UK (i+j) s;have a2:=UK (j+l) s;have a3:=UK ((i+j) % s+l) s;have a4:=UK (i+(j+l) % s) s;rw[em]at a3;have:s * ((i+j) / s+((i+j) % s+l) / s)=s * ((j+l) / s+(i+(j+l) % s) / s):=by
   rw[Xk,Xk];lia
  exact T2 hs this
 rw[em]
 congr 1
 have fz2:Nat.repeat f ((i+j) % s) z<m:=eW T _ hz;have efz:Nat.repeat f ((i+j) % s) z=Nat.repeat f i (Nat.repeat f j z):=by rw[Le T hz (by lia),lD]
 have fz3:Nat.repeat f i (Nat.repeat f j z)<m:=eW T i fz;rw[qH T i p2 t2,qH T i hy fz,vQ T i,efz];have t3:=dR T (((i+j) % s+l) / s);have t4:=dR T ((i+(j+l) % s) / s);rw[T.assoc _ _ _ p1 t1 fz3,T.comm _ _ t1 fz3,<- T.assoc _ _ _ p1 fz3 t1,T.assoc _ _ _ (T.lt _ _ p1 fz3) t1 t3,<- wq T,ed];rw[T.assoc _ _ _ hx fy fz3,<- T.assoc _ _ _ hx (T.lt _ _ fy fz3) t2,T.assoc _ _ _ (T.lt _ _ hx (T.lt _ _ fy fz3)) t2 t4,<- wq T]
theorem K8(T:Tn m ad f s e)(hI:I<m * s):cyc m ad f s e 0 I=I:=by
 have hm:=T.pos;have hi:I / m<s:=SN hI;have hx:I % m<m:=RT _ hm;have h:=fV T (x:=0) (y:=I % m) (i:=0) (j:=I / m) hm hx T.iz hi;rw[<- dm m I,Us,TN,Tj,Tc hi,R4 hi]at h;rw[h];show ad (ad 0 (I % m)) 0+_=_;rw[FU T.toAb hx,T.zero _ hx,<- dm m I]
theorem vK(T:Tn m ad f s e)(hI:I<m * s):cyc m ad f s e I 0=I:=by
 have hm:=T.pos;have hi:I / m<s:=SN hI;have hx:I % m<m:=RT _ hm;have h:=fV T (x:=I % m) (y:=0) (i:=I / m) (j:=0) hx hm hi T.iz;rw[<- dm m I,Us,TN,TN,Tc hi,R4 hi]at h;rw[h];have z0:Nat.repeat f (I / m) 0=0:=vQ T (I / m) 0;show ad (ad (I % m) (Nat.repeat f (I / m) 0)) 0+_=_;rw[z0,T.zero _ hx,T.zero _ hx,<- dm m I]
theorem xX(T:Tn m ad f s e)(hI:I<m * s):∃J,J<m * s/\cyc m ad f s e I J=0:=by
 have hm:=T.pos;have hs:=T.iz;have hi:I / m<s:=SN hI;have hx:I % m<m:=RT _ hm;have hj:(s - I / m) % s<s:=RT _ hs;have hw:ad (I % m) (tim ad e ((I / m+(s - I / m) % s) / s))<m:=T.lt _ _ hx (dR T _);obtain⟨v,hv,ev⟩:=T.neg _ hw;have hy:Nat.repeat f ((s - I / m) % s) v<m:=eW T _ hv;refine⟨Nat.repeat f ((s - I / m) % s) v+m * ((s - I / m) % s),?_,?_⟩
 .have h3:m * ((s - I / m) % s)+m<=m * s:=by
   rw[<- T5];exact SE _ hj
  lia
 .have h:=fV T (x:=I % m) (y:=Nat.repeat f ((s - I / m) % s) v) (i:=I / m) (j:=(s - I / m) % s) hx hy hi hj;rw[<- dm m I]at h;rw[h];have er:Nat.repeat f (I / m) (Nat.repeat f ((s - I / m) % s) v)=v:=by
   rw[<- lD]
   by_cases h0:I / m=0
   .rw[h0,Nat.sub_zero,Vv];rfl
   .rw[R4 (Nat.sub_lt hs (Nat.pos_of_ne_zero h0))];have:I / m+(s - I / m)=s:=W8 (TL hi);rw[this,T.per v hv]
  have e0:(I / m+(s - I / m) % s) % s=0:=by
   rw[UJ];have:I / m+(s - I / m)=s:=W8 (TL hi);rw[this,Vv]
  rw[er,e0,Us,TN,T.assoc _ _ _ hx hv (dR T _),T.comm _ _ hv (dR T _),<- T.assoc _ _ _ hx (dR T _) hv];exact ev
theorem Jw(T:Tn m ad f s e)(hI:I<m * s):∃J,J<m * s/\cyc m ad f s e I J=0/\cyc m ad f s e J I=0:=by
 obtain⟨J,hJ,e1⟩:=xX T hI;obtain⟨L,hL,e2⟩:=xX T hJ;refine⟨J,hJ,e1,?_⟩;have hJI:=GR T hJ hI;have h1:cyc m ad f s e J I=cyc m ad f s e (cyc m ad f s e J I) (cyc m ad f s e J L):=by rw[e2,vK T hJI]
 rw[h1,<- rj T hJI hJ hL,rj T hJ hI hJ,e1,vK T hJ,e2]
noncomputable def lsum(a b c p q:Nat):Nat:=(p+q) % a+a * ((p / a+q / a) % b)+a * b * ((p / (a * b)+q / (a * b)) % c)
theorem JQ{w:Nat}(hx:x<a):(x+a * y+a * b * w) % a=x:=by
 rw[UQ,Vf,<- Xk,Tr,R4 hx]
theorem JX{w:Nat}(ha:0<a)(hx:x<a):(x+a * y+a * b * w) / a=y+b * w:=by
 rw[UQ,Vf,<- Xk,Ti _ _ ha,Tc hx,Tj]
theorem JR{w:Nat}(ha:0<a)(hx:x<a)(hy:y<b):(x+a * y+a * b * w) / a % b=y:=by
 rw[JX ha hx,Tr,R4 hy]
theorem J0{w:Nat}(ha:0<a)(hb:0<b)(hx:x<a)(hy:y<b):(x+a * y+a * b * w) / (a * b)=w:=by
 rw[<- XA,JX ha hx,Ti _ _ hb,Tc hy,Tj]
theorem Fo{w:Nat}(hx:x<a)(hy:y<b)(hw:w<c):x+a * y+a * b * w<a * b * c:=by
 have h1:a * y+a<=a * b:=by rw[<- T5];exact SE _ hy
 have h2:a * b * w+a * b<=a * b * c:=by rw[<- T5];exact SE _ hw
 lia
theorem Ms(ha:0<a)(hb:0<b)(p:Nat):p % a+a * (p / a % b)+a * b * (p / (a * b))=p:=by
 rw[<- XA,UQ,Vf,<- Xk,XZ,XZ]
theorem DA{p:Nat}(hp:p<a * b * c):p / (a * b)<c:=SN hp
theorem FD(ha:0<a)(p q:Nat):lsum a b c p q % a=(p+q) % a:=JQ (RT _ ha)
theorem Hg(ha:0<a)(hb:0<b)(p q:Nat):lsum a b c p q / a % b=(p / a+q / a) % b:=JR ha (RT _ ha) (RT _ hb)
theorem Gh(ha:0<a)(hb:0<b)(p q:Nat):lsum a b c p q / (a * b)=(p / (a * b)+q / (a * b)) % c:=J0 ha hb (RT _ ha) (RT _ hb)
theorem gW(x y k:Nat):(x % k+y) % k=(x+y) % k:=Ts x k y
theorem KA(ha:0<a)(hb:0<b)(hc:0<c):Ab (a * b * c) (lsum a b c) where
 pos:=T1 (T1 ha hb) hc
 lt:=λx y _ _=>Fo (RT _ ha) (RT _ hb) (RT _ hc)
 comm:=λx y _ _=>by unfold lsum;rw[Ue x y,Ue (x / a),Ue (x / (a * b))]
 assoc:=λx y z _ _ _=>by
  have e1:(lsum a b c x y+z) % a=(x+lsum a b c y z) % a:=by
   rw[<- gW,FD ha,gW,Ue x (lsum a b c y z),<- gW (lsum a b c y z),FD ha,gW]
   congr 1;lia
  have e2:(lsum a b c x y / a+z / a) % b=(x / a+lsum a b c y z / a) % b:=by
   rw[<- gW,Hg ha hb,gW,Ue (x / a) (lsum a b c y z / a),<- gW (lsum a b c y z / a),Hg ha hb,gW]
   congr 1;lia
  have e3:(lsum a b c x y / (a * b)+z / (a * b)) % c=(x / (a * b)+lsum a b c y z / (a * b)) % c:=by
   rw[Gh ha hb,Gh ha hb,gW,Ue (x / (a * b)) (_ % c),gW]
   congr 1;lia
  show (lsum a b c x y+z) % a+a * ((lsum a b c x y / a+z / a) % b)+a * b * ((lsum a b c x y / (a * b)+z / (a * b)) % c)=(x+lsum a b c y z) % a+a * ((x / a+lsum a b c y z / a) % b)+a * b * ((x / (a * b)+lsum a b c y z / (a * b)) % c);rw[e1,e2,e3]
 zero:=λx hx=>by
  unfold lsum;rw[WJ,WJ,TN,TN,TN,R4 (DA hx),Ms ha hb]
 neg:=λx hx=>by
  have hx1:x % a<a:=RT _ ha;have hy1:x / a % b<b:=RT _ hb;have Zk:x / (a * b)<c:=DA hx;have lx:(a - x % a) % a<a:=RT _ ha;have ly:(b - x / a % b) % b<b:=RT _ hb;have lw:(c - x / (a * b)) % c<c:=RT _ hc;refine⟨(a - x % a) % a+a * ((b - x / a % b) % b)+a * b * ((c - x / (a * b)) % c),Fo lx ly lw,?_⟩;have f1:(x+((a - x % a) % a+a * ((b - x / a % b) % b)+a * b * ((c - x / (a * b)) % c))) % a=0:=by
   rw[Xl,JQ lx,UJ];have:x % a+(a - x % a)=a:=by lia
   rw[this,Vv]
  have f2:(x / a+((a - x % a) % a+a * ((b - x / a % b) % b)+a * b * ((c - x / (a * b)) % c)) / a) % b=0:=by
   rw[Xl,JR ha lx ly,UJ];have:x / a % b+(b - x / a % b)=b:=by lia
   rw[this,Vv]
  have f3:(x / (a * b)+((a - x % a) % a+a * ((b - x / a % b) % b)+a * b * ((c - x / (a * b)) % c)) / (a * b)) % c=0:=by
   rw[J0 ha hb lx ly,UJ];have:x / (a * b)+(c - x / (a * b))=c:=W8 (TL Zk);rw[this,Vv]
  unfold lsum;rw[f1,f2,f3,Us,Us]
noncomputable def ee(a b c kind u0 u1 u2 p:Nat):Nat :=
 let x:=p % a
 let y:=p / a % b
 let w:=p / (a * b) * u2 % c
 match kind with
 | 1=>y+a * (x+b * w)
 | 2=>(a - y) % a+a * ((x+a - y) % a+b * w)
 | 3=>x+a * ((y+x) % b+b * w)
 | 4=>(x+a / 2 * y) % a+a * (y+b * w)
 | _=>x * u0 % a+a * (y * u1 % b+b * w)
noncomputable def iter(f:Nat->Nat):Nat->Nat->Nat
 | 0,x=>x
 | n+1,x=>iter f n (f x)
noncomputable def pw(u m:Nat):Nat->Nat
 | 0=>1
 | n+1=>pw u m n * u % m
noncomputable def vp(a b c s kind u0 u1 u2:Nat):Bool :=
 (Rh (a * b * c)).all λp=>Nat.blt (ee a b c kind u0 u1 u2 p) (a * b * c) && (Um (iter (ee a b c kind u0 u1 u2) s p) p &&
  (Rh (a * b * c)).all λq=>Um (ee a b c kind u0 u1 u2 (lsum a b c p q)) (lsum a b c (ee a b c kind u0 u1 u2 p) (ee a b c kind u0 u1 u2 q)))
noncomputable def eD(a b s kind:Nat):Bool:=kind == 0 || (kind == 1 && (a == b && s % 2 == 0)) || (kind == 2 && (a == b && s % 3 == 0)) || (kind == 3 && (a % b == 0 && (decide (1<b) && s % b == 0))) || (kind == 4 && (a % 2 == 0 && (b % 2 == 0 && s % 2 == 0)))
noncomputable def unitsOf(m s:Nat):AT:=(Rh m).filter λu=>Um (pw u m s) (1 % m)
noncomputable def Fy:Bool:=(Rh 4).all λs'=>let s:=s'+1
 (Rh (23 / s)).all λa'=>let a:=a'+1
 (Rh (23 / (s * a))).all λb'=>let b:=b'+1
 (Rh (23 / (s * a * b))).all λc'=>let c:=c'+1
 (Rh 5).all λk=>!eD a b s k || ((if Um k 0 then unitsOf a s else [0]).all λu0=>(if Um k 0 then unitsOf b s else [0]).all λu1=>(unitsOf c s).all λu2=>vp a b c s k u0 u1 u2)
set_option maxRecDepth 1000000 in
theorem Ge:Fy=true:=by trivial
theorem zA(f:Nat->Nat):∀ (n x:Nat),iter f n x=Nat.repeat f n x
 | 0,_=>rfl
 | n+1,x=>by
  show iter f n (f x)=f (Nat.repeat f n x);rw[zA f n (f x)];have h1:=lD f x n 1;have h2:=lD f x 1 n;rw[Ue]at h2;have e:Nat.repeat f n (Nat.repeat f 1 x)=Nat.repeat f 1 (Nat.repeat f n x):=h1.symm.trans h2;exact e
theorem qh{u:Nat}:u∈unitsOf m s↔u<m/\pw u m s=1 % m:=by
 unfold unitsOf;rw[RL,Ri];simp
structure Par(a b c s kind u0 u1 u2:Nat):Prop where
 a1:1<=a
 b1:1<=b
 c1:1<=c
 s1:1<=s
 s4:s<=4
 le:a * b * c * s<=23
 k5:kind<5
 kind:eD a b s kind=true
 v0:u0∈unitsOf a s
 v1:u1∈unitsOf b s
 v2:u2∈unitsOf c s
theorem qg(hx:1<=x)(hk:1<=k)(h:k * x<=n):x - 1<n / k:=by
 have:x<=n / k:=(X0 (by lia)).mpr (by rw[Ug];exact h)
 lia
theorem LJ{kind u0 u1 u2:Nat}(h:kind≠0)(h5:kind<5):ee a b c kind u0 u1 u2=ee a b c kind 0 0 u2:=by
 match kind,h,h5 with
 | 1,_,_=>rfl
 | 2,_,_=>rfl
 | 3,_,_=>rfl
 | 4,_,_=>rfl
 | 0,h,_=>exact absurd rfl h
theorem Par.chk{kind u0 u1 u2:Nat}(P:Par a b c s kind u0 u1 u2):vp a b c s kind u0 u1 u2=true:=by
 have hle:=P.le;have h1:s * a<=23:=by
  have:s * a * (b * c)=a * b * c * s:=by simp only[Ug,VU]
  have z:s * a * 1<=s * a * (b * c):=SE _ (T1 P.b1 P.c1);lia
 have h2:s * a * b<=23:=by
  have:s * a * b * c=a * b * c * s:=by simp only[Ug,VU]
  have z:s * a * b * 1<=s * a * b * c:=SE _ P.c1;lia
 have h3:s * a * b * c<=23:=by
  have:s * a * b * c=a * b * c * s:=by simp only[Ug,VU]
  lia
 have sa:1<=s * a:=T1 P.s1 P.a1;have sab:1<=s * a * b:=T1 sa P.b1;have q0:=Ge;unfold Fy at q0;have q1:=RS.mp q0 (s - 1) (Ri.mpr (by have:=P.s1;have:=P.s4;lia))
 have es:s - 1+1=s:=by have:=P.s1;lia
 have ea:a - 1+1=a:=by have:=P.a1;lia
 have eb:b - 1+1=b:=by have:=P.b1;lia
 have ec:c - 1+1=c:=by have:=P.c1;lia
 try dsimp only at q1
 rw[es]at q1;have q2:=RS.mp q1 (a - 1) (Ri.mpr (qg P.a1 P.s1 h1))
 try dsimp only at q2
 rw[ea]at q2;have q3:=RS.mp q2 (b - 1) (Ri.mpr (qg P.b1 sa h2))
 try dsimp only at q3
 rw[eb]at q3;have q4:=RS.mp q3 (c - 1) (Ri.mpr (qg P.c1 sab h3))
 try dsimp only at q4
 rw[ec]at q4;have q5:=RS.mp q4 kind (Ri.mpr P.k5);rw[P.kind]at q5;simp only[Bool.not_true,Bool.false_or]at q5
 by_cases hk:kind=0
 .subst hk;have q6:=RS.mp q5 u0 P.v0;have q7:=RS.mp q6 u1 P.v1;exact RS.mp q7 u2 P.v2
 .have hb:Um kind 0=false:=by
   cases h:Um kind 0 with
   | false=>rfl
   | true=>exact absurd (T6 h) hk
  rw[hb]at q5;have q6:=RS.mp q5 0 (Rj.mpr rfl);have q7:=RS.mp q6 0 (Rj.mpr rfl);have q8:=RS.mp q7 u2 P.v2;unfold vp at q8 ⊢;rw[LJ hk P.k5];exact q8
theorem Par.tn{kind u0 u1 u2:Nat}(P:Par a b c s kind u0 u1 u2)(he:e<a * b * c)(fe:ee a b c kind u0 u1 u2 e=e):Tn (a * b * c) (lsum a b c) (ee a b c kind u0 u1 u2) s e:=by
 have q:=P.chk;unfold vp at q;have q':∀p,p<a * b * c->_:=λp hp=>RS.mp q p (Ri.mpr hp);simp only[Tu,RS,Ri]at q';refine { KA P.a1 P.b1 P.c1 with iz:=P.s1,flt:=λx hx=>?_,fad:=λx y hx hy=>?_,per:=λx hx=>?_,elt:=he,fe:=fe }
 .have z:=(q' x hx).1;exact Nat.le_of_ble_eq_true z
 .exact T6 ((q' x hx).2.2 y hy)
 .rw[<- zA];exact T6 (q' x hx).2.1
theorem GT.rel{t':AC}(g:GT n t e)(π:AT)(hl:π.length=n)(hm:∀x,x∈π↔x<n)(sq:Sq n t')
  (h:∀a b,a<n->b<n->tb t' (π.getD a 0) (π.getD b 0)=π.getD (tb t a b) 0):GT n t' (π.getD e 0):=by
 have into:∀a,a<n->π.getD a 0<n:=λa ha=>by
  have:π.getD a 0∈π:=by
   rw[Rf,Q8 (by lia)]
   exact Sd _
  exact(hm _).mp this
 have X':∀i,i<n->∃a,a<n/\π.getD a 0=i:=λi hi=>by
  obtain⟨a,ha,e'⟩:=Ye.mp ((hm i).mpr hi);refine⟨a,by lia,?_⟩
  rw[Rf,Q8 ha,e'];rfl
 refine⟨⟨sq,λi j hi hj=>?_⟩,into e g.elt,λi hi=>?_,λi hi=>?_,λi hi=>?_,λi j k hi hj hk=>?_⟩
 .obtain⟨a,ha,rfl⟩:=X' i hi;obtain⟨b,hb,rfl⟩:=X' j hj;rw[h a b ha hb];exact into _ (g.lt a b ha hb)
 .obtain⟨a,ha,rfl⟩:=X' i hi;rw[h e a g.elt ha,g.unl a ha]
 .obtain⟨a,ha,rfl⟩:=X' i hi;rw[h a e ha g.elt,g.unr a ha]
 .obtain⟨a,ha,rfl⟩:=X' i hi;obtain⟨b,hb,x,y⟩:=g.back a ha;exact⟨π.getD b 0,into b hb,by rw[h a b ha hb,x],by rw[h b a hb ha,y]⟩
 .obtain⟨a,ha,rfl⟩:=X' i hi;obtain⟨b,hb,rfl⟩:=X' j hj;obtain⟨d,hd,rfl⟩:=X' k hk;rw[h a b ha hb,h b d hb hd,h _ d (g.lt a b ha hb) hd,h a _ ha (g.lt b d hb hd),g.assoc a b d ha hb hd]
theorem Na(T:Tn m ad f s e)(h:m * s<=23):GT (m * s) (mkT (m * s) (cyc m ad f s e)) 0 :=
 ME (T1 T.pos T.iz) h (λ_ _ ha hb=>GR T ha hb) (T1 T.pos T.iz) (λ_ ha=>K8 T ha) (λ_ ha=>vK T ha) (λ_ ha=>Jw T ha) (λ_ _ _ ha hb hc=>rj T ha hb hc)
theorem getD_some{α:Type}{l:List α}(d:α)(h:i<l.length):l[i]?=some (l.getD i d):=by
 rw[Rf,Q8 h];rfl
theorem My(hx:x<m)(hy:y<m) :
  cyc m ad f s e (x+m * i) (y+m * j)=(if s<=i+j then ad (ad x (Nat.repeat f i y)) e else ad x (Nat.repeat f i y))+m * ((i+j) % s):=by
 have hm:0<m:=by lia
 have d1:(x+m * i) / m=i:=by rw[Ti _ _ hm,Tc hx,Tj]
 have d2:(y+m * j) / m=j:=by rw[Ti _ _ hm,Tc hy,Tj]
 have r1:(x+m * i) % m=x:=by rw[Tr,R4 hx]
 have r2:(y+m * j) % m=y:=by rw[Tr,R4 hy]
 unfold cyc;rw[d1,d2,r1,r2]
theorem E6(a b c kind u0 u1 u2:Nat):ee a b c kind u0 u1 u2 0=0:=by
 unfold ee;have e1:(0:Nat) / (a * b) * u2 % c=0:=by rw[WJ,Vw,Ut]
 have e2:(0:Nat) / a % b=0:=by rw[WJ,Ut]
 simp only[e1,e2,Ut]
 split <;> simp
noncomputable def Od:Bool:=(Rh 24).all λm=>(Rh 5).all λs=>Um m 0 || (Um s 0 || !(unitsOf m s).isEmpty)
theorem LQ:Od=true:=by trivial
theorem HV(h1:1<=m)(h2:m<=23)(h3:1<=s)(h4:s<=4):unitsOf m s≠[]:=by
 have q0:=LQ;unfold Od at q0;have q1:=RS.mp q0 m (Ri.mpr (by lia))
 have q2:=RS.mp q1 s (Ri.mpr (by lia))
 have b1:Um m 0=false:=by
  cases h:Um m 0 with
  | false=>rfl
  | true=>have:=T6 h;lia
 have b2:Um s 0=false:=by
  cases h:Um s 0 with
  | false=>rfl
  | true=>have:=T6 h;lia
 rw[b1,b2]at q2;intro e;rw[e]at q2;exact absurd q2 (by decide)
theorem vc(m s i:Nat):((Rh (i+1)).filter λu=>Um (pw u m s) (1 % m))=(if pw i m s=1 % m then ((Rh i).filter λu=>Um (pw u m s) (1 % m))++[i] else (Rh i).filter λu=>Um (pw u m s) (1 % m)):=by
 rw[UL,U1]
 by_cases h:pw i m s=1 % m
 .rw[if_pos h];have:Um (pw i m s) (1 % m)=true:=by rw[h];exact Nat.beq_refl _
  simp[this]
 .rw[if_neg h];have:Um (pw i m s) (1 % m)=false:=by
   cases q:Um (pw i m s) (1 % m) with
   | false=>rfl
   | true=>exact absurd (T6 q) h
  simp[this]
theorem Iv(h:π.Perm (Rh i)):(π.take k++i :: π.drop k).Perm (Rh (i+1)):=by
 refine Xq.trans ?_;rw[Va,UL];exact(List.Perm.cons i h).trans (List.perm_append_singleton i (Rh i)).symm
theorem MJ{i' j':Nat}(hl:rows.length=n)(hr:∀ (k:Nat) (r:AT),rows[k]?=some r->r.length=n)(hi:i<n)(hj:j<n) :
  tb (rows.set i ((rows.getD i []).set j x)) i' j'=if i'=i/\j'=j then x else tb rows i' j':=by
 have hi2:i<rows.length:=by lia
 unfold tb
 by_cases e:i'=i
 .subst e;have Zt:(rows.getD i' []).length=n:=hr i' _ (by rw[Rf,Q8 hi2];rfl)
  have e1:(rows.set i' ((rows.getD i' []).set j x)).getD i' []=(rows.getD i' []).set j x:=by
   rw[Rf,TU hi2];rfl
  rw[e1]
  by_cases e2:j'=j
  .subst e2;rw[if_pos ⟨rfl,rfl⟩,Rf,TU (by lia)]
   rfl
  .rw[if_neg (λz=>e2 z.2),Rf,T9 (TR e2),<- Rf]
 .rw[if_neg (λz=>e z.1)];have e1:(rows.set i ((rows.getD i []).set j x)).getD i' []=rows.getD i' []:=by
   rw[Rf,T9 (TR e),<- Rf]
  rw[e1]
theorem mK(h:π.Perm (Rh n))(ha:a<n):π.getD a 0<n:=by
 have hl:π.length=n:=by rw[h.length_eq,RP]
 have:π.getD a 0∈π:=by
  rw[Rf,Q8 (by lia)]
  exact Sd _
 exact Ri.mp (h.mem_iff.mp this)
theorem zx(h:π.Perm (Rh n))(ha:a<n)(hb:b<n)(e:π.getD a 0=π.getD b 0):a=b:=by
 have hl:π.length=n:=by rw[h.length_eq,RP]
 have nd:π.Nodup:=h.nodup_iff.mpr Tv;have A':a<π.length:=by lia
 have Zi:b<π.length:=by lia
 rw[Rf,Rf,Q8 A',Q8 Zi]at e;exact(V2 nd).mp e
structure Ren(n:Nat)(π:AT)(R rows:AC)(A B:Nat):Prop where
 len:rows.length=n
 row:∀ (i:Nat) (r:AT),rows[i]?=some r->r.length=n
 at_:∀a b,a<n->b<n->(a<A\/(a=A/\b<B))->tb rows (π.getD a 0) (π.getD b 0)=π.getD (tb R a b) 0
theorem Ren.put{R:AC}{B:Nat}(h:Ren n π R rows A B)(hp:π.Perm (Rh n))(hA:A<n)(hB:B<n) :
  Ren n π R (rows.set (π.getD A 0) ((rows.getD (π.getD A 0) []).set (π.getD B 0) (π.getD (tb R A B) 0))) A (B+1):=by
 have iA:=mK hp hA;have iB:=mK hp hB;refine⟨by rw[U4];exact h.len,λi r e=>?_,λa b ha hb c=>?_⟩
 .by_cases q:i=π.getD A 0
  .subst q;rw[TU (by rw[h.len];exact iA)]at e
   cases e;rw[U4];exact h.row (π.getD A 0) _ (getD_some [] (by rw[h.len];exact iA))
  .rw[T9 (TR q)]at e;exact h.row i r e
 .rw[MJ h.len h.row iA iB]
  by_cases q:a=A/\b=B
  .obtain⟨rfl,rfl⟩:=q;rw[if_pos ⟨rfl,rfl⟩]
  .rw[if_neg λz=>q ⟨zx hp ha hA z.1,zx hp hb hB z.2⟩];refine h.at_ a b ha hb ?_;lia
theorem Ren.next{R:AC}(h:Ren n π R rows A n):Ren n π R rows (A+1) 0 :=
 ⟨h.len,h.row,λa b ha hb c=>h.at_ a b ha hb (by lia)⟩
theorem Ren.gt{R:AC}(h:Ren n π R rows n 0)(hp:π.Perm (Rh n))(g:GT n R e):GT n rows (π.getD e 0) :=
 g.rel π (by rw[hp.length_eq,RP]) (λx=>by rw[hp.mem_iff,Ri]) ⟨h.len,g.pos,g.le,h.row⟩ λa b ha hb=>h.at_ a b ha hb (.inl ha)
noncomputable def ID:AC:=[[2,2,1,3],[7,1,1,3],[5,1,1,4],[4,2,1,2],[3,3,1,2],[8,1,1,2],[4,1,1,2],[2,2,2,2],[3,1,1,4],[2,2,1,2],[5,1,1,2],[9,1,1,2]]
theorem iy(p:Nat->Bool)(i:Nat):((Rh i).filter p).length<=i:=by
 have:=TC p (Rh i);rw[RP]at this;o_rec
theorem sub_len:∀ {l1 l2:AT},l1.Nodup->(∀x∈l1,x∈l2)->l1.length<=l2.length
 | [],_,_,_=>R5 _
 | a :: l1,l2,nd,h=>by
  have ha:a∈l2:=h a Rr;rw[R8]at nd;have ih:=sub_len (l1:=l1) (l2:=l2.erase a) nd.2 λx hx=>(List.mem_erase_of_ne (show x≠a from λe=>nd.1 (by rw[<- e];exact hx))).mpr (h x (Rp _ hx))
  rw[W9 ha]at ih;have:0<l2.length:=List.length_pos_of_mem ha;rw[Sb];lia
theorem f9{f:Nat->Nat}:∀ {l:AT},l.Nodup->(∀x∈l,∀y∈l,f x=f y->x=y)->(l.map f).Nodup
 | [],_,_=>by simp
 | a :: l,nd,h=>by
  rw[R8]at nd;rw[Si,R8];refine⟨λz=>?_,f9 nd.2 λx hx y hy=>h x (Rp _ hx) y (Rp _ hy)⟩;obtain⟨b,hb,e⟩:=Rw.mp z;exact nd.1 (h b (Rp _ hb) a Rr e ▸ hb)
theorem xN(p:Nat->Bool):∀l:AT,l.length=(l.filter p).length+(l.filter λy=>!p y).length
 | []=>rfl
 | a :: l=>by
  have ih:=xN p l;cases h:p a with
  | true =>
   rw[Xm h,VH (by simp[h]),Sb,Sb]
   lia
  | false =>
   rw[VH (by simp[h]),Xm (by simp[h]),Sb,Sb]
   lia
theorem php(h:∀i,i<=n->f i<n):∃i j,i<j/\j<=n/\f i=f j:=by
 by_cases q:∃i j,i<j/\j<=n/\f i=f j
 .exact q
 .exfalso
  have nd:((Rh (n+1)).map f).Nodup:=f9 Tv λx hx y hy e=>by
   have ZO:=Ri.mp hx;have C':=Ri.mp hy;rcases S2 x y with z|z|z
   .exact absurd ⟨x,y,z,by lia,e⟩ q
   .exact z
   .exact absurd ⟨y,x,z,by lia,e.symm⟩ q
  have:=sub_len nd (l2:=Rh n) λx hx=>by
   obtain⟨i,hi,rfl⟩:=Rw.mp hx;exact Ri.mpr (h i (by have:=Ri.mp hi;lia))
  simp at this;lia
theorem GT.bp(g:GT n t e)(ha:a<n):az n t e a<n:=(g.bk ha).1
theorem GT.i9(g:GT n t e)(ha:a<n):tb t a (az n t e a)=e:=(g.bk ha).2.1
theorem GT.iD(g:GT n t e)(ha:a<n):tb t (az n t e a) a=e:=(g.bk ha).2.2
theorem GT.dC(g:GT n t e)(hx:x<n)(hy:y<n)(hz:z<n)(h:tb t x y=tb t x z):y=z:=by
 have hb:=g.bp hx;have h1:tb t (az n t e x) (tb t x y)=tb t (az n t e x) (tb t x z):=by rw[h]
 rw[<- g.assoc _ _ _ hb hx hy,<- g.assoc _ _ _ hb hx hz,g.iD hx,g.unl y hy,g.unl z hz]at h1;exact h1
theorem GT.oR(g:GT n t e)(hx:x<n)(hy:y<n)(hz:z<n)(h:tb t y x=tb t z x):y=z:=by
 have hb:=g.bp hx;have h1:tb t (tb t y x) (az n t e x)=tb t (tb t z x) (az n t e x):=by rw[h]
 rw[g.assoc _ _ _ hy hx hb,g.assoc _ _ _ hz hx hb,g.i9 hx,g.unr y hy,g.unr z hz]at h1;exact h1
theorem GT.F0(g:GT n t e)(ha:a<n)(hb:b<n)(h:tb t a b=e):b=az n t e a :=
 g.dC ha hb (g.bp ha) (h.trans (g.i9 ha).symm)
noncomputable def ay(t:AC)(e a:Nat):Nat->Nat
 | 0=>e
 | k+1=>tb t (ay t e a k) a
theorem bu(g:GT n t e)(ha:a<n):∀k,ay t e a k<n
 | 0=>g.elt
 | k+1=>g.lt _ _ (bu g ha k) ha
theorem oq(g:GT n t e)(ha:a<n):ay t e a 1=a:=g.unl a ha
theorem cO(g:GT n t e)(ha:a<n)(i:Nat):∀j,ay t e a (i+j)=tb t (ay t e a i) (ay t e a j)
 | 0=>(g.unr _ (bu g ha i)).symm
 | j+1=>by
  show tb t (ay t e a (i+j)) a=tb t (ay t e a i) (tb t (ay t e a j) a);rw[cO g ha i j,g.assoc _ _ _ (bu g ha i) (bu g ha j) ha]
theorem Aa(k:Nat):prd t e (Rn k a)=ay t e a k:=by
 induction k with
 | zero=>rfl
 | succ k ih =>
  unfold prd at ih ⊢;rw[Vi,VW,ih];rfl
theorem KH(g:GT n t e)(ha:a<n):∃k,k<n/\ay t e a (k+1)=e:=by
 obtain⟨i,j,hij,hj,q⟩:=php (f:=ay t e a) (n:=n) λi _=>bu g ha i;refine⟨j - i - 1,by lia,?_⟩
 have e1:j=i+(j - i - 1+1):=by lia
 rw[e1,cO g ha]at q;refine(g.dC (bu g ha i) (bu g ha _) g.elt ?_);rw[<- q,g.unr _ (bu g ha i)]
noncomputable def aM(n:Nat)(t:AC)(e a:Nat):Nat:=((Rh n).find? λk=>decide (ay t e a (k+1)=e)).getD 0+1
theorem dW(g:GT n t e)(ha:a<n):aM n t e a<=n/\ay t e a (aM n t e a)=e/\∀k,1<=k->k<aM n t e a->ay t e a k≠e:=by
 obtain⟨k,hk,h⟩:=KH g ha;unfold aM;cases q:(Rh n).find? (λk=>decide (ay t e a (k+1)=e)) with
 | none =>
  rw[W7]at q;have:=q k hk;simp at this;exact absurd h this
 | some c =>
  rw[W6]at q;obtain⟨h1,h2,h3⟩:=q;have h2':c<n:=by simpa using h2
  refine⟨by show c+1<=n;lia,by simpa using h1,λk k1 k2 z=>?_⟩
  have k2':k<c+1:=k2;have:=h3 (k - 1) (by lia)
  rw[show k - 1+1=k by lia,z]at this
  simp at this
theorem gC:1<=aM n t e a:=Nat.succ_le_succ (R5 _)
theorem ph(g:GT n t e)(ha:a<n){o:Nat}(h:ay t e a o=e):∀k,ay t e a (o * k)=e
 | 0=>rfl
 | k+1=>by rw[T5,cO g ha,ph g ha h k,h,g.unl e g.elt]
theorem Bs(g:GT n t e)(ha:a<n)(k:Nat):ay t e a (k % aM n t e a)=ay t e a k:=by
 have h:=(dW g ha).2.1
 conv=>rhs;rw[<- UK k (aM n t e a),cO g ha,ph g ha h,g.unl _ (bu g ha _)]
theorem Jp(g:GT n t e)(ha:a<n)(hi:i<aM n t e a)(hj:j<aM n t e a)(h:ay t e a i=ay t e a j):i=j:=by
 have key:∀ {i j:Nat},i<j->j<aM n t e a->ay t e a i=ay t e a j->False:=λ{i j} hij hj h=>by
  have e1:j=i+(j - i):=by lia
  rw[e1,cO g ha]at h;have:=g.dC (bu g ha i) (bu g ha (j - i)) g.elt (by rw[<- h,g.unr _ (bu g ha i)])
  exact(dW g ha).2.2 (j - i) (by lia) (by lia) this
 rcases S2 i j with z|z|z
 .exact(key z hj h).elim
 .exact z
 .exact(key z hi h.symm).elim
theorem oo(g:GT n t e){P:AT}(nd:P.Nodup)(lt:∀h∈P,h<n)(he:e∈P)(cl:∀h∈P,∀k∈P,tb t h k∈P)(bk:∀h∈P,az n t e h∈P) :
  ∀ (k:Nat) (S:AT),S.length<=k->S.Nodup->(∀x∈S,x<n)->(∀x∈S,∀h∈P,tb t x h∈S)->P.length ∣ S.length
 | 0,S,hk,_,_,_=>by
  have:S.length=0:=by lia
  rw[this];exact Nat.dvd_zero _
 | k+1,[],_,_,_,_=>Nat.dvd_zero _
 | k+1,x :: S,hk,hn,hl,hc=>by
  have hx:x<n:=hl x Rr
  let C:=P.map (tb t x)
  have cn:C.Nodup:=f9 nd λy hy z hz q=>g.dC hx (lt y hy) (lt z hz) q;have cs:∀y∈C,y∈x :: S:=λy hy=>by
   obtain⟨h,hh,rfl⟩:=Rw.mp hy;exact hc x Rr h hh
  have xC:x∈C:=Rw.mpr ⟨e,he,g.unr x hx⟩;have ih:=oo g nd lt he cl bk k ((x :: S).filter λy=>!decide (y∈C)) (by
    have:((x :: S).filter λy=>!decide (y∈C))=S.filter λy=>!decide (y∈C):=by
     rw[VH];simp[xC]
    rw[this];have:=TC (λy=>!decide (y∈C)) S;rw[Sb]at hk;lia)
   (hn.sublist Yq) (λy hy=>hl y (RL.mp hy).1) λy hy h hh=>by
    have hy1:=RL.mp hy;have hyn:=hl y hy1.1;refine RL.mpr ⟨hc y hy1.1 h hh,?_⟩;have ny:y∉C:=by simpa using hy1.2
    simp only[W3,decide_eq_false_iff_not];intro z;obtain⟨h',ZL,q⟩:=Rw.mp z;have hb:=bk h hh;refine ny (Rw.mpr ⟨tb t h' (az n t e h),cl h' ZL _ hb,?_⟩);rw[<- g.assoc _ _ _ hx (lt h' ZL) (lt _ hb),q,g.assoc _ _ _ hyn (lt h hh) (lt _ hb),g.i9 (lt h hh),g.unr y hyn]
  have e1:((x :: S).filter λy=>decide (y∈C)).length=P.length:=by
   have l1:((x :: S).filter λy=>decide (y∈C)).length<=C.length:=sub_len (hn.sublist Yq) λy hy=>by simpa using (RL.mp hy).2
   have l2:C.length<=((x :: S).filter λy=>decide (y∈C)).length:=sub_len cn λy hy=>RL.mpr ⟨cs y hy,by simpa using hy⟩
   have l3:C.length=P.length:=Rc ..;lia
  have e2:(x :: S).length=((x :: S).filter λy=>decide (y∈C)).length+((x :: S).filter λy=>!decide (y∈C)).length:=xN _ _;rw[e2,e1];exact(Nat.dvd_add_right (Nat.dvd_refl _)).mpr ih
theorem FR(g:GT n t e)(ha:a<n):aM n t e a ∣ n:=by
 let P:=(Rh (aM n t e a)).map (ay t e a)
 have mem:∀k,ay t e a k∈P:=λk=>by
  rw[<- Bs g ha k];exact Rw.mpr ⟨_,Ri.mpr (RT _ gC),rfl⟩
 have frm:∀h∈P,∃k,k<aM n t e a/\ay t e a k=h:=λh hh=>by
  obtain⟨k,hk,q⟩:=Rw.mp hh;exact⟨k,Ri.mp hk,q⟩
 have r:=oo g (P:=P) (f9 Tv λx hx y hy q=>Jp g ha (Ri.mp hx) (Ri.mp hy) q)
  (λh hh=>by obtain⟨k,_,rfl⟩:=frm h hh;exact bu g ha k) (mem 0)
  (λh hh k hk=>by
   obtain⟨i,_,rfl⟩:=frm h hh;obtain⟨j,_,rfl⟩:=frm k hk;rw[<- cO g ha];exact mem _)
  (λh hh=>by
   obtain⟨i,hi,rfl⟩:=frm h hh;have q:tb t (ay t e a i) (ay t e a (aM n t e a - i))=e:=by
    rw[<- cO g ha,show i+(aM n t e a - i)=aM n t e a by lia]
    exact(dW g ha).2.1
   rw[<- g.F0 (bu g ha i) (bu g ha _) q];exact mem _)
  n (Rh n) (by simp) Tv (λx hx=>Ri.mp hx) λx hx h hh=>by
   obtain⟨k,_,rfl⟩:=frm h hh;exact Ri.mpr (g.lt _ _ (Ri.mp hx) (bu g ha k))
 have e1:P.length=aM n t e a:=by simp[P]
 rw[e1,RP]at r;exact r
structure b9(l:AT)(k:Nat):Prop where
 pos:1<=k
 all:∀s∈l,k % s=0
 least:∀j,1<=j->j<k->∃s,s∈l/\j % s≠0
theorem b9.uni{k':Nat}(h:b9 l k)(h':b9 l k'):k=k':=by
 rcases S2 k k' with z|z|z
 .obtain⟨s,hs,q⟩:=h'.least k h.pos z;exact absurd (h.all s hs) q
 .exact z
 .obtain⟨s,hs,q⟩:=h.least k' h'.pos z;exact absurd (h'.all s hs) q
noncomputable def bnd:AT->Nat
 | []=>1
 | s :: l=>s * bnd l
theorem wx:∀ {l:AT},(∀s∈l,1<=s)->1<=bnd l
 | [],_=>Ru _
 | s :: l,h=>T1 (h s Rr) (wx λx hx=>h x (Rp _ hx))
theorem wz:∀ {l:AT} {s:Nat},s∈l->bnd l % s=0
 | a :: l,s,h=>by
  rcases RA.mp h with z|z
  .subst z;exact Nat.mul_mod_right s (bnd l)
  .have ih:=wz z;obtain⟨c,hc⟩:=SJ ih;show a * bnd l % s=0;rw[hc,VU];exact Nat.mul_mod_right s _
theorem eG:∀ {l r:AT},l.Pairwise (· < ·)->r.Pairwise (· < ·)->(∀x,x∈l↔x∈r)->l=r
 | [],[],_,_,_=>rfl
 | [],b :: r,_,_,h=>absurd ((h b).mpr Rr) (by simp)
 | a :: l,[],_,_,h=>absurd ((h a).mp Rr) (by simp)
 | a :: l,b :: r,hl,hr,h=>by
  rw[To]at hl hr;have e:a=b:=by
   rcases RA.mp ((h a).mp Rr) with z|z
   .exact z
   .rcases RA.mp ((h b).mpr Rr) with y|y
    .exact y.symm
    .have h1:=hr.1 a z;have h2:=hl.1 b y;lia
  subst e;refine congrArg (a :: ·) (eG hl.2 hr.2 λx=>?_);constructor
  .intro hx;rcases RA.mp ((h x).mp (Rp _ hx)) with z|z
   .have:=hl.1 x hx;lia
   .exact z
  .intro hx;rcases RA.mp ((h x).mpr (Rp _ hx)) with z|z
   .have:=hr.1 x hx;lia
   .exact z
theorem jX:∀ {l:AT},l.Nodup->l.Pairwise (·<=·)->l.Pairwise (· < ·)
 | [],_,_=>.nil
 | a :: l,nd,h=>by
  rw[R8]at nd;rw[To]at h ⊢;refine⟨λb hb=>?_,jX nd.2 h.2⟩;have h1:=h.1 b hb;have h2:a≠b:=λz=>nd.1 (by rw[z];exact hb)
  lia
theorem aB(h:l.Pairwise (· < ·)):l.Nodup:=h.imp λz=>Ry z
theorem cE(nd:l.Nodup)(h:∀x∈l,x<n):l.length<=n:=by
 have:=sub_len nd (l2:=Rh n) λx hx=>Ri.mpr (h x hx)
 simpa using this
theorem Gp(g:GT n t e){x:Nat}(hx:x<n):∀ (l:AT) {a:Nat},a<n->(∀y∈l,y<n)->prd t (tb t x a) l=tb t x (prd t a l)
 | [],_,_,_=>rfl
 | y :: l,a,ha,hl=>by
  have hy:=hl y Rr;show prd t (tb t (tb t x a) y) l=tb t x (prd t (tb t a y) l);rw[g.assoc x a y hx ha hy];exact Gp g hx l (g.lt a y ha hy) λz hz=>hl z (Rp _ hz)
theorem AI(g:GT n t e)(hx:x<n)(hl:∀y∈l,y<n):prd t x l=tb t x (prd t e l):=by
 rw[<- Gp g hx l g.elt hl,g.unr x hx]
theorem Du(a:Nat)(l r:AT):prd t a (l++r)=prd t (prd t a l) r:=by
 unfold prd;rw[VW]
structure Gen(n:Nat)(t:AC)(e:Nat)(S P:AT):Prop where
 srt:P.Pairwise (· < ·)
 lt:∀x∈P,x<n
 un:e∈P
 cl:∀x∈P,∀s∈S,tb t x s∈P
 wd:∀x∈P,∃l,(∀y∈l,y∈S)/\prd t e l=x
structure IsPart(n:Nat)(t:AC)(P:AT):Prop where
 srt:P.Pairwise (· < ·)
 lt:∀x∈P,x<n
 ne:P≠[]
 cl:∀x∈P,∀y∈P,tb t x y∈P
theorem Gen.walk(G:Gen n t e S P):∀ (l:AT) {x:Nat},x∈P->(∀y∈l,y∈S)->prd t x l∈P
 | [],_,hx,_=>hx
 | y :: l,x,hx,hl=>G.walk l (G.cl x hx y (hl y Rr)) λz hz=>hl z (Rp _ hz)
theorem Gen.part(G:Gen n t e S P)(g:GT n t e)(hS:∀s∈S,s<n):IsPart n t P:=by
 refine⟨G.srt,G.lt,T8 G.un,λx hx y hy=>?_⟩;obtain⟨l,hl,rfl⟩:=G.wd y hy;rw[<- AI g (G.lt x hx) λz hz=>hS z (hl z hz)];exact G.walk l hx hl
theorem IsPart.pow(h:IsPart n t P)(g:GT n t e){x:Nat}(hx:x∈P):∀k,ay t e x (k+1)∈P
 | 0=>by rw[oq g (h.lt x hx)];exact hx
 | k+1=>h.cl _ (h.pow g hx k) _ hx
theorem IsPart.un(h:IsPart n t P)(g:GT n t e):e∈P:=by
 obtain⟨x,hx⟩:=List.exists_mem_of_ne_nil _ h.ne;have o:=dW g (h.lt x hx);have:=h.pow g hx (aM n t e x - 1);rw[show aM n t e x - 1+1=aM n t e x by have:=gC (n:=n) (t:=t) (e:=e) (a:=x);lia,o.2.1]at this
 o_rec
theorem IsPart.bk(h:IsPart n t P)(g:GT n t e)(hx:x∈P):az n t e x∈P:=by
 have hn:=h.lt x hx;have o:=dW g hn;have op:1<=aM n t e x:=gC;have q:tb t x (ay t e x (aM n t e x - 1))=e:=by
  have:=cO g hn 1 (aM n t e x - 1);rw[show 1+(aM n t e x - 1)=aM n t e x by lia,o.2.1,oq g hn]at this
  exact this.symm
 rw[<- g.F0 hn (bu g hn _) q];cases h1:aM n t e x - 1 with
 | zero=>exact h.un g
 | succ k=>exact h.pow g hx k
theorem IsPart.len(h:IsPart n t P):P.length<=n:=cE (aB h.srt) h.lt
theorem Gen.len(G:Gen n t e S P):P.length<=n:=cE (aB G.srt) G.lt
theorem Gen.has(G:Gen n t e S P)(g:GT n t e)(hs:s∈S)(hn:s<n):s∈P:=by
 have:=G.cl e G.un s hs;rw[g.unl s hn]at this;o_rec
theorem Gen.least(G:Gen n t e S P)(he:e∈R)(cl:∀x∈R,∀s∈S,tb t x s∈R):∀x∈P,x∈R:=λx hx=>by
 obtain⟨l,hl,rfl⟩:=G.wd x hx;have key:∀ (l:AT) {a:Nat},a∈R->(∀y∈l,y∈S)->prd t a l∈R:=λl=>by
  induction l with
  | nil=>intro a ha _;exact ha
  | cons y r ih=>intro a ha hy;exact ih (cl a ha y (hy y Rr)) λz hz=>hy z (Rp _ hz)
 exact key l he hl
theorem Gen.uni{P':AT}(G:Gen n t e S P)(G':Gen n t e S' P')(h:∀s,s∈S↔s∈S'):P=P' :=
 eG G.srt G'.srt λx=>⟨G.least G'.un (λy hy s hs=>G'.cl y hy s ((h s).mp hs)) x,G'.least G.un (λy hy s hs=>G.cl y hy s ((h s).mpr hs)) x⟩
structure jF(n:Nat)(t:AC)(e:Nat)(S F:AT)(A:Nat):Prop where
 nd:F.Nodup
 lt:∀x∈F,x<n
 un:e∈F
 le:A<=F.length
 cl:∀i x,i<A->F[i]?=some x->∀s∈S,tb t x s∈F
 wd:∀x∈F,∃l,(∀y∈l,y∈S)/\prd t e l=x
theorem jF.len(G:jF n t e S F A):F.length<=n:=cE G.nd G.lt
theorem jF.put(G:jF n t e S F A)(g:GT n t e)(hx:x∈F)(hs:s∈S)(hn:s<n)(h:tb t x s∉F):jF n t e S (F++[tb t x s]) A:=by
 refine⟨?_,λy hy=>?_,SM _ G.un,by rw[Rt];have:=G.le;lia,λi y hi e' r hr=>?_,λy hy=>?_⟩
 .rw[Uy];exact⟨G.nd,by simp,λa ha b hb=>by rw[Rj.mp hb];exact λz=>h (z ▸ ha)⟩
 .rcases Rq.mp hy with z|z
  .exact G.lt y z
  .rw[Rj.mp z];exact g.lt x s (G.lt x hx) hn
 .rw[RI (RH hi G.le)]at e';exact SM _ (G.cl i y hi e' r hr)
 .rcases Rq.mp hy with z|z
  .exact G.wd y z
  .obtain⟨l,hl,q⟩:=G.wd x hx;refine⟨l++[s],λu hu=>?_,?_⟩
   .rcases Rq.mp hu with z' | z'
    .exact hl u z'
    .rw[Rj.mp z'];exact hs
   .rw[Du,q,Rj.mp z];rfl
theorem jF.next(G:jF n t e S F A)(hx:F[A]?=some x)(h:∀s∈S,tb t x s∈F):jF n t e S F (A+1) :=
 ⟨G.nd,G.lt,G.un,(Q9.mp hx).1,λi y hi e'=>by
  rcases Rz i A with z|z
  .exact G.cl i y z e'
  .have:i=A:=by lia
   subst this;rw[hx]at e';cases e';exact h,G.wd⟩
theorem jF.gen(G:jF n t e S F A)(hA:F.length<=A)(hp:P.Perm F)(hs:P.Pairwise (·<=·)):Gen n t e S P:=by
 refine⟨jX (hp.nodup_iff.mpr G.nd) hs,λx hx=>G.lt x (hp.mem_iff.mp hx),hp.mem_iff.mpr G.un,λx hx s ZQ=>?_,λx hx=>G.wd x (hp.mem_iff.mp hx)⟩;obtain⟨i,hi,e'⟩:=Ye.mp (hp.mem_iff.mp hx);exact hp.mem_iff.mpr (G.cl i x (by lia) (by rw[Q8 hi,e']) s ZQ)
noncomputable def aO(n:Nat)(t:AC)(e a b:Nat):Nat:=tb t (tb t b a) (az n t e b)
theorem CS(g:GT n t e)(ha:a<n)(hb:b<n):aO n t e a b<n:=g.lt _ _ (g.lt _ _ hb ha) (g.bp hb)
structure y9(n:Nat)(t:AC)(e:Nat)(R:AT)(L:AC):Prop where
 ne:∀s∈L,s≠[]
 srt:∀s∈L,s.Pairwise (· < ·)
 lt:∀s∈L,∀x∈s,x<n
 len:∀s∈L,s.length=R.length
 side:∀s∈L,∀x∈s,tb t (az n t e (s.getD 0 0)) x∈R
 heads:(L.map λs=>s.getD 0 0).Pairwise (· < ·)
 all:L.flatten.Perm (Rh n)
noncomputable def fG(n:Nat)(t:AC)(e:Nat)(R:AT):AT:=R.flatMap λa=>R.map λb=>tb t (tb t (tb t a b) (az n t e a)) (az n t e b)
theorem iw :x∈fG n t e R↔∃a,a∈R/\∃b,b∈R/\tb t (tb t (tb t a b) (az n t e a)) (az n t e b)=x:=by
 unfold fG;simp only[List.mem_flatMap,Rw]
theorem Gen.congr(G:Gen n t e S M)(h:∀x,x∈S↔x∈S'):Gen n t e S' M :=
 ⟨G.srt,G.lt,G.un,λx hx s hs=>G.cl x hx s ((h s).mpr hs),λx hx=>by
  obtain⟨l,hl,e⟩:=G.wd x hx;exact⟨l,λy hy=>(h y).mp (hl y hy),e⟩⟩
structure Words(n:Nat)(t:AC)(e:Nat)(S R:AT)(W:AC):Prop where
 len:W.length=R.length
 word:∀ (i r:Nat) (w:AT),R[i]?=some r->W[i]?=some w->(∀y∈w,y∈S)/\w.length<=n/\prd t e w=r/\(r=e->w=[])
theorem dS(g:GT n t e)(p:IsPart n t R)(hx:x<n)(hy:y<n):tb t (az n t e x) y∈R↔∃h,h∈R/\tb t x h=y:=by
 have hb:=g.bp hx;constructor
 .intro h;refine⟨_,h,?_⟩;rw[<- g.assoc _ _ _ hx hb hy,g.i9 hx,g.unl y hy]
 .rintro⟨h,hh,rfl⟩;rw[<- g.assoc _ _ _ hb hx (p.lt h hh),g.iD hx,g.unl h (p.lt h hh)];exact hh
theorem xA(g:GT n t e)(p:IsPart n t R)(hx:x<n):tb t (az n t e x) x∈R:=by
 rw[g.iD hx];exact p.un g
theorem kb(g:GT n t e)(p:IsPart n t R)(ha:a<n)(hx:x<n)(hy:y<n)(h1:tb t (az n t e a) x∈R)(h2:tb t (az n t e a) y∈R):tb t (az n t e x) y∈R:=by
 obtain⟨k1,hk1,rfl⟩:=(dS g p ha hx).mp h1;obtain⟨k2,hk2,rfl⟩:=(dS g p ha hy).mp h2;have l1:=p.lt k1 hk1;have l2:=p.lt k2 hk2;have lb:=g.bp l1;refine(dS g p hx hy).mpr ⟨tb t (az n t e k1) k2,p.cl _ (p.bk g hk1) _ hk2,?_⟩;rw[g.assoc _ _ _ ha l1 (g.lt _ _ lb l2),<- g.assoc k1 _ _ l1 lb l2,g.i9 l1,g.unl k2 l2]
theorem dF(g:GT n t e)(p:IsPart n t R)(ha:a<n)(hx:x<n)(h:tb t (az n t e a) x∈R):tb t (az n t e x) a∈R:=kb g p ha hx ha h (xA g p ha)
structure dI(n:Nat)(t:AC)(e:Nat)(R:AT)(L:AC)(i:Nat):Prop where
 ne:∀s∈L,s≠[]
 srt:∀s∈L,s.Pairwise (· < ·)
 lt:∀s∈L,∀x∈s,x<n
 len:∀s∈L,s.length=R.length
 full:∀s∈L,∀y,y<n->(y∈s↔tb t (az n t e (s.getD 0 0)) y∈R)
 heads:(L.map λs=>s.getD 0 0).Pairwise (· < ·)
 hl:∀s∈L,s.getD 0 0<i
 nd:L.flatten.Nodup
 cov:∀y,y<i->y∈L.flatten
theorem dI.nil:dI n t e R [] 0 :=
 ⟨by simp,by simp,by simp,by simp,by simp,by simp,by simp,by simp,λy h=>absurd h (by lia)⟩
theorem head_mem{s:AT}(h:s≠[]):s.getD 0 0∈s:=by
 cases s with
 | nil=>exact absurd rfl h
 | cons a r=>simp
theorem dI.old(S:dI n t e R L i)(h:i∈L.flatten):dI n t e R L (i+1) :=
 ⟨S.ne,S.srt,S.lt,S.len,S.full,S.heads,λs hs=>Sw (S.hl s hs),S.nd,λy hy=>by
  rcases Rz y i with z|z
  .exact S.cov y z
  .have:y=i:=by lia
   rw[this];exact h⟩
theorem dI.new{s:AT}(S:dI n t e R L i)(g:GT n t e)(p:IsPart n t R)(hi:i<n)(h:i∉L.flatten)(hs:s.Pairwise (· < ·))(hm:∀y,y∈s↔∃k,k∈R/\tb t i k=y):dI n t e R (L++[s]) (i+1):=by
 have Zd:∀y∈s,y<n:=λy hy=>by
  obtain⟨k,hk,rfl⟩:=(hm y).mp hy;exact g.lt _ _ hi (p.lt k hk)
 have his:i∈s:=(hm i).mpr ⟨e,p.un g,g.unr i hi⟩;have Zj:s≠[]:=T8 his;have apart:∀y∈s,y∉L.flatten:=λy hy hf=>by
  obtain⟨s',ZQ,C'⟩:=TQ.mp hf;have hn:=Zd y hy;have h0:=S.lt s' ZQ _ (head_mem (S.ne s' ZQ));have q1:=(S.full s' ZQ y hn).mp C';have q2:tb t (az n t e i) y∈R:=(dS g p hi hn).mpr ((hm y).mp hy);have q3:=dF g p hi hn q2;have q4:=kb g p hn h0 hi (dF g p h0 hn q1) q3;exact h (TQ.mpr ⟨s',ZQ,(S.full s' ZQ i hi).mpr q4⟩)
 have hge:∀y∈s,i<=y:=λy hy=>by
  rcases Rz y i with z|z
  .exact absurd (S.cov y z) (apart y hy)
  .exact z
 have h0:s.getD 0 0=i:=by
  have h1:=hge _ (head_mem Zj);cases s with
  | nil=>exact absurd rfl Zj
  | cons a r =>
   have h1:i<=a:=h1;show a=i;rcases RA.mp his with z|z
   .exact z.symm
   .have:=(To.mp hs).1 i z;lia
 have hnd:=aB hs;have hlen:s.length=R.length:=by
  have m1:(R.map (tb t i)).Nodup:=f9 (aB p.srt) λx hx y hy q=>g.dC hi (p.lt x hx) (p.lt y hy) q;have e1:=sub_len hnd (l2:=R.map (tb t i)) λy hy=>by
   obtain⟨k,hk,q⟩:=(hm y).mp hy;exact Rw.mpr ⟨k,hk,q⟩
  have e2:=sub_len m1 (l2:=s) λy hy=>by
   obtain⟨k,hk,q⟩:=Rw.mp hy;exact(hm y).mpr ⟨k,hk,q⟩
  rw[Rc]at e1 e2;lia
 have two:∀ {Z:AT->Prop},(∀s'∈L,Z s')->Z s->∀s'∈L++[s],Z s':=λ{Z} a b s' ZQ=>by
  rcases Rq.mp ZQ with z|z
  .exact a s' z
  .rw[Rj.mp z];exact b
 refine⟨two S.ne Zj,two S.srt hs,two S.lt Zd,two S.len hlen,two S.full λy hy=>?_,?_,two (λs' ZQ=>Sw (S.hl s' ZQ)) (by lia),?_,λy hy=>?_⟩
 .rw[h0,hm y];exact(dS g p hi hy).symm
 .rw[R3];refine Yd.mpr ⟨S.heads,by simp,λa ha b hb=>?_⟩
  obtain⟨s',ZQ,rfl⟩:=Rw.mp ha;have:b=s.getD 0 0:=by simpa using hb
  rw[this,h0];exact S.hl s' ZQ
 .rw[UR];refine Uy.mpr ⟨S.nd,by simpa using hnd,λx hx y hy q=>?_⟩
  have C':y∈s:=by simpa using hy
  rw[q]at hx;exact apart y C' hx
 .rw[UR];rcases Rz y i with z|z
  .exact SM _ (S.cov y z)
  .have:y=i:=by lia
   rw[this];exact RX _ (by simpa using his)
theorem dI.fin(S:dI n t e R L n):y9 n t e R L:=by
 refine⟨S.ne,S.srt,S.lt,S.len,λs hs x hx=>(S.full s hs x (S.lt s hs x hx)).mp hx,S.heads,?_⟩;refine(Wy S.nd Tv).mpr λx=>⟨λhx=>?_,λhx=>S.cov x (Ri.mp hx)⟩;obtain⟨s,hs,ZO⟩:=TQ.mp hx;exact Ri.mpr (S.lt s hs x ZO)
section
variable {W:AC}
structure jf(t:AC)(e:Nat)(S F:AT)(W:AC):Prop where
 len:W.length=F.length
 fst:F[0]?=some e
 word:∀ (i f:Nat) (w:AT),F[i]?=some f->W[i]?=some w->(∀y∈w,y∈S)/\w.length<=i/\prd t e w=f
theorem jf.one:jf t e S [e] [[]]:=by
 refine⟨rfl,rfl,λi f w h1 h2=>?_⟩;cases i with
 | zero =>
  have e1:e=f:=by simpa using h1
  have e2:[]=w:=by simpa using h2
  subst e1 e2;exact⟨by simp,Ru _,rfl⟩
 | succ i=>simp at h1
theorem jf.put(G:jf t e S F W)(hk:F[k]?=some a)(hw:W[k]?=some wa)(hs:s∈S):jf t e S (F++[tb t a s]) (W++[wa++[s]]):=by
 obtain⟨q1,q2,q3⟩:=G.word k a wa hk hw;have kl:k<F.length:=(Q9.mp hk).1;refine⟨by simp[G.len],by rw[RI (by lia)];exact G.fst,λi f w h1 h2=>?_⟩
 rcases S2 i F.length with z|z|z
 .rw[RI z]at h1;rw[RI (by rw[G.len];exact z)]at h2
  exact G.word i f w h1 h2
 .rw[z,RK (Ru _)]at h1;rw[z,<- G.len,RK (Ru _)]at h2;have e1:tb t a s=f:=by simpa using h1
  have e2:wa++[s]=w:=by simpa using h2
  subst e1 e2;refine⟨λy hy=>?_,by simp;lia,by rw[Du,q3];rfl⟩
  rcases Rq.mp hy with y1|y1
  .exact q1 y y1
  .rw[Rj.mp y1];exact hs
 .have:(F++[tb t a s]).length<=i:=by simp;lia
  rw[RF this]at h1;cases h1
theorem jf.words(G:jf t e S F W)(nd:F.Nodup)(hn:F.length<=n){V:AC}(hl:V.length=R.length)(h:∀ (i r:Nat) (w:AT),R[i]?=some r->V[i]?=some w->∃j:Nat,F[j]?=some r/\W[j]?=some w):Words n t e S R V:=by
 refine⟨hl,λi r w h1 h2=>?_⟩;obtain⟨j,j1,j2⟩:=h i r w h1 h2;obtain⟨q1,q2,q3⟩:=G.word j r w j1 j2;have jl:j<F.length:=(Q9.mp j1).1;refine⟨q1,by lia,q3,λz=>?_⟩
 have j0:j=0:=by
  obtain⟨l0,e0⟩:=Q9.mp G.fst;obtain⟨l1,e1⟩:=Q9.mp j1;rcases Su j with y|y
  .exact y
  .exact absurd (e0.trans (z.symm.trans e1.symm)) ((R7.mp nd) 0 j l0 l1 y)
 rw[j0]at q2;exact Th.mp (by lia)
end
theorem Dw{s:AT}(hs:s.Pairwise (· < ·))(hx:x∈s):s.getD 0 0<=x:=by
 cases s with
 | nil=>exact absurd hx (by simp)
 | cons a r =>
  show a<=x;rcases RA.mp hx with rfl|z
  .exact Ru _
  .exact TL ((To.mp hs).1 x z)
theorem dI.step{s:AT}(S:dI n t e R L i)(g:GT n t e)(p:IsPart n t R)(hi:i<n)(hs:s.Pairwise (· < ·))(hm:∀y,y∈s↔∃k,k∈R/\tb t i k=y) :
  i∈s/\(s.getD 0 0=i->i∉L.flatten)/\(s.getD 0 0≠i->i∈L.flatten):=by
 have is:i∈s:=(hm i).mpr ⟨e,p.un g,g.unr i hi⟩;have hh:=head_mem (T8 is);have le:=Dw hs is;refine⟨is,λeh hf=>?_,λeh=>?_⟩
 .obtain⟨s',ZQ,ZJ⟩:=TQ.mp hf;have h1:=S.hl s' ZQ;have h2:=(S.full s' ZQ i hi).mp ZJ;have h3:=dF g p (by lia) hi h2
  obtain⟨k,hk,ek⟩:=(dS g p hi (by lia)).mp h3
  have:=Dw hs ((hm _).mpr ⟨k,hk,ek⟩);lia
 .obtain⟨s',ZQ,ZJ⟩:=TQ.mp (S.cov (s.getD 0 0) (by lia))
  have h1:=S.hl s' ZQ;have h2:=(S.full s' ZQ _ (by lia)).mp ZJ
  have h3:=dF g p (by lia) (by lia) h2
  have h4:=(dS g p hi (by lia)).mpr ((hm _).mp hh)
  have h5:=dF g p hi (by lia) h4
  exact TQ.mpr ⟨s',ZQ,(S.full s' ZQ i hi).mpr (kb g p (by lia) (by lia) hi h3 h5)⟩
noncomputable def Kd(n:Nat)(t:AC)(e:Nat)(R:AT)(b:Nat):Option Nat->Prop
 | none=>∀h∈R,aO n t e h b∈R
 | some h=>h∈R/\aO n t e h b∉R/\∀h'∈R,h' < h->aO n t e h' b∈R
noncomputable def jr(t:AC)(R M:AT)(m j k:Nat):Prop:=M.getD (R.idxOf (tb t (R.getD j 0) (R.getD k 0))) 0=(M.getD j 0+M.getD k 0) % m
noncomputable def lB(t:AC)(R M:AT)(m:Nat):Option (Nat×Nat)->Prop
 | none=>∀j,j<R.length->∀k,k<R.length->jr t R M m j k
 | some (a,b)=>∃j k,j<R.length/\k<R.length/\R.getD j 0=a/\R.getD k 0=b/\¬ jr t R M m j k/\(∀j',j' < j->∀k',k' < R.length->jr t R M m j' k')/\∀k',k' < k->jr t R M m j k'
theorem lB.uni{o o':Option (Nat×Nat)}(h:lB t R M m o)(h':lB t R M m o'):o=o':=by
 cases o with
 | none =>
  cases o' with
  | none=>rfl
  | some p =>
   obtain⟨a,b⟩:=p;obtain⟨j,k,hj,hk,_,_,q,_⟩:=h';exact absurd (h j hj k hk) q
 | some p =>
  obtain⟨a,b⟩:=p;obtain⟨j,k,hj,hk,ea,eb,q,q1,q2⟩:=h;cases o' with
  | none=>exact absurd (h' j hj k hk) q
  | some p' =>
   obtain⟨a',b'⟩:=p';obtain⟨j',k',f',Zv,ea',eb',q',q1',q2'⟩:=h';have ej:j=j':=by
    rcases S2 j j' with z|z|z
    .exact absurd (q1' j z k hk) q
    .exact z
    .exact absurd (q1 j' z k' Zv) q'
   subst ej;have ek:k=k':=by
    rcases S2 k k' with z|z|z
    .exact absurd (q2' k z) q
    .exact z
    .exact absurd (q2 k' z) q'
   subst ek;rw[<- ea,<- eb,<- ea',<- eb']
theorem jy(h:x∈l):l[l.idxOf x]?=some x:=by
 rw[Q8 (R6 h)];simp
noncomputable def Sg(m:Nat):Nat->List Int->Nat->Int
 | _,[],_=>0
 | o,x :: l,k=>(if o % m=k then x else 0)+Sg m (o+1) l k
noncomputable def Dm(m q:Nat)(f:Nat->Int)(k:Nat):Int:=f k - f ((k+(m - q)) % m)
noncomputable def Dq(m:Nat)(qs:AT)(f:Nat->Int):Nat->Int:=qs.foldl (λf q=>Dm m q f) f
noncomputable def Nt(m:Nat)(qs:AT)(l:YZ):Prop:=∀k,k<m->Dq m qs (Sg m 0 l) k=0
noncomputable def iI(d l:YZ):YZ :=
 l.dropLast.take (l.length - d.length)++List.zipWith (λx c=>x - l.getLastD 0 * c) (l.dropLast.drop (l.length - d.length)) d.dropLast
noncomputable def uJ(d:YZ):Nat->List Int->List Int->List Int×YZ
 | 0,l,tk=>(tk.reverse,l)
 | n+1,l,tk=>uJ d n (iI d l) (tk++[l.getLastD 0])
noncomputable def jC(p d:YZ):YZ×YZ:=uJ d (p.length+1 - d.length) p []
theorem BY{d l:YZ}(hd:d≠[])(hl:d.length<=l.length):(iI d l).length=l.length - 1:=by
 have:=RJ.mpr hd;unfold iI;simp;lia
noncomputable def zp(m:Nat)(fs:List (Nat×YZ)):YZ:=fs.foldl (λl f=>if m % f.1=0 then (jC l f.2).1 else l) ([-1]++Rn (m - 1) 0++[1])
noncomputable def b7(m:Nat):Nat->List (Nat×YZ)
 | 0=>[]
 | k+1=>if m % (k+1)=0 then b7 m k++[(k+1,zp (k+1) (b7 m k))] else b7 m k
noncomputable def eA(m:Nat):YZ:=zp m (b7 m (m - 1))
noncomputable def strip(p:Nat):Nat->Nat->Nat
 | 0,r=>r
 | f+1,r=>if r % p=0 then strip p f (r / p) else r
noncomputable def AA(m:Nat):Nat->AT×Nat
 | 0=>([],m)
 | k+1=>let (l,r):=AA m k
  (if r % (k+2)=0 then l++[k+2] else l,strip (k+2) 64 r)
noncomputable def rM(m:Nat):AT:=(AA m (m - 1)).1
noncomputable def Nb(m:Nat):AT:=(rM m).map λp=>m / p
noncomputable def EA(m:Nat):Nat:=((Rh m).filter λk=>(rM m).all λp=>(k+1) % p≠0).length
noncomputable def kf(l:YZ):Bool:=l.all λc=>decide (-1000<=c) && decide (c<=1000)
noncomputable def gq(m:Nat):Bool :=
 decide ((eA m).length=EA m+1) && decide ((eA m).getLastD 0=1) && kf (eA m) && (b7 m m).all (λf=>kf f.2 && decide (f.2.getLastD 0=1)) && decide (eA m≠[]) &&
 (Rh m).all (λk=>decide (Dq m (Nb m) (Sg m 0 (eA m)) k=0))
noncomputable def ic(t:Int)(d:YZ)(st j:Nat)(l:YZ):YZ:=l.mapIdx λi x=>if st<=i/\i<st+j then x - t * d.getD (i - st) 0 else x
theorem jZ{t:Int}{d l:YZ}{st:Nat}:(ic t d st j l)[i]?=l[i]?.map λx=>if st<=i/\i<st+j then x - t * d.getD (i - st) 0 else x:=by
 unfold ic;rw[List.getElem?_mapIdx]
theorem xK{t:Int}{d l:YZ}{st:Nat}:(ic t d st j l).length=l.length:=by
 unfold ic;rw[List.length_mapIdx]
theorem Fl{t:Int}{d l:YZ}{st:Nat}:ic t d st 0 l=l:=by
 refine SV λi=>?_;rw[jZ];cases l[i]? with
 | none=>rfl
 | some x=>rw[S9,if_neg (by lia)]
theorem HN{t:Int}{d l:YZ}{st:Nat}(h:st+j<l.length):(ic t d st j l)[st+j]?=some (l.getD (st+j) 0):=by
 rw[jZ,Q8 h,S9,if_neg (by lia)]
 simp[V1,Q8 h]
theorem FZ{t:Int}{d l:YZ}{st:Nat}(h:st+j<l.length):(ic t d st j l).set (st+j) (l.getD (st+j) 0 - t * d.getD j 0)=ic t d st (j+1) l:=by
 refine SV λi=>?_;rw[List.getElem?_set,jZ,jZ,xK]
 by_cases e:st+j=i
 .subst e;rw[if_pos rfl,if_pos h,Q8 h,S9,if_pos (by lia),show st+j - st=j by lia]
  simp[V1,Q8 h]
 .rw[if_neg e];cases l[i]? with
  | none=>rfl
  | some x =>
   rw[S9,S9]
   by_cases c:st<=i/\i<st+j
   .rw[if_pos c,if_pos (by lia)]
   .rw[if_neg c,if_neg (by lia)]
theorem Fg{d l:YZ}(hn:d≠[])(hl:d.length<=l.length):ic (l.getLastD 0) d (l.length - d.length) (d.length - 1) l.dropLast=iI d l:=by
 have dp:=RJ.mpr hn;refine SV λi=>?_;rw[jZ];unfold iI;rcases Rz i (l.length - d.length) with z|z
 .rw[RI (by simp;lia),SK z]
  cases l.dropLast[i]? with
  | none=>rfl
  | some x=>rw[S9,if_neg (by lia)]
 .rw[RK (by simp;lia),List.getElem?_zipWith,List.getElem?_drop]
  simp only[RG,Vg];rw[show min (l.length - d.length) (l.length - 1)=l.length - d.length by lia,show l.length - d.length+(i - (l.length - d.length))=i by lia]
  rcases Rz i (l.length - 1) with y|y
  .have h1:i<l.dropLast.length:=by simp;exact y
   have h2:i - (l.length - d.length)<d.dropLast.length:=by simp;lia
   have h3:i - (l.length - d.length)<d.length:=by lia
   rw[Q8 h1,Q8 h2,S9,if_pos (by lia)]
   simp[V1,Q8 h3,List.getElem_dropLast]
  .rw[RF (by simp;lia)]
   rfl
theorem FQ{l:YZ}(h:kf l=true)(j:Nat):-1000<=l.getD j 0/\l.getD j 0<=1000:=by
 unfold kf at h;rw[RS]at h
 by_cases hj:j<l.length
 .have:=h l[j] (Sd hj);simp at this;simp[V1,Q8 hj];o_rec
 .rw[V1,RF (by lia)]
  exact⟨by decide,by decide⟩
theorem xU(d:YZ):∀ (n:Nat) (l tk:YZ),(uJ d n l tk).1.length=tk.length+n
 | 0,l,tk=>by show tk.reverse.length=_;simp
 | n+1,l,tk=>by
  show (uJ d n (iI d l) (tk++[l.getLastD 0])).1.length=_;rw[xU d n];simp;lia
theorem IY{l d:YZ}(hn:d≠[]):(jC l d).1.length<=l.length:=by
 have:=RJ.mpr hn;unfold jC;rw[xU];simp;lia
noncomputable def o8(m:Nat)(fs:List (Nat×YZ))(l:YZ):YZ:=fs.foldl (λl f=>if m % f.1=0 then (jC l f.2).1 else l) l
theorem E1(m:Nat)(fs:List (Nat×YZ))(f:Nat×YZ)(l:YZ):o8 m (fs++[f]) l=if m % f.1=0 then (jC (o8 m fs l) f.2).1 else o8 m fs l:=by
 unfold o8;rw[VW];rfl
noncomputable def kC(m:Nat)(sp st:Int)(k:Nat):Nat:=((st+sp * (k:Int)) % (m:Int)).toNat
noncomputable def iq(m:Nat)(sp st:Int)(l:YZ):YZ:=l.zipIdx.foldl (λtot x=>tot.set (kC m sp st x.2) (tot.getD (kC m sp st x.2) 0+x.1)) (Rn m 0)
theorem LH(hm:0<m)(sp st:Int)(k:Nat):kC m sp st k<m:=by
 unfold kC;have h1:=VI (st+sp * (k:Int)) (show (m:Int)≠0 by lia)
 have h2:=WK (st+sp * (k:Int)) (show (0:Int)<m by lia)
 lia
theorem GI(hm:0<m)(sp st:Int)(k:Nat):((kC m sp st k:Nat):Int)=(st+sp * (k:Int)) % (m:Int):=by
 unfold kC;have h1:=VI (st+sp * (k:Int)) (show (m:Int)≠0 by lia)
 lia
theorem ES(m:Nat)(sp st:Int)(l:YZ)(x:Int):iq m sp st (l++[x])=(iq m sp st l).set (kC m sp st l.length) ((iq m sp st l).getD (kC m sp st l.length) 0+x):=by
 unfold iq;rw[List.zipIdx_append,VW];simp
theorem xq(m:Nat)(sp st:Int)(l:YZ):(iq m sp st l).length=m:=by
 unfold iq;generalize l.zipIdx=z;have:∀ (z:List (Int×Nat)) (tot:YZ),(z.foldl (λtot x=>tot.set (kC m sp st x.2) (tot.getD (kC m sp st x.2) 0+x.1)) tot).length=tot.length:=λz=>by
  induction z with
  | nil=>intro tot;rfl
  | cons a r ih=>intro tot;rw[XN,ih,U4]
 rw[this,U3]
noncomputable def NT(m:Nat)(l:YZ):YZ:=(jC (iq m 1 0 l) (eA m)).2
structure wy(m:Nat):Prop where
 len:(eA m).length=EA m+1
 last:(eA m).getLastD 0=1
 sm:kf (eA m)=true
 ne:eA m≠[]
 no:Nt m (Nb m) (eA m)
theorem uU(h:gq m=true):wy m:=by
 unfold gq at h;simp only[Tu,decide_eq_true_eq]at h;obtain⟨⟨⟨⟨⟨h1,h2⟩,h3⟩,_⟩,h5⟩,h6⟩:=h;refine⟨h1,h2,h3,h5,λk hk=>?_⟩;rw[RS]at h6
 simpa using h6 k (Ri.mpr hk)
noncomputable def WG(m:Nat):Prop:=gq m=true/\EA m<=m/\∀p∈rM m,1<=m / p/\m / p<=m/\0<p/\p<=1000
noncomputable instance (m:Nat):Decidable (WG m):=by unfold WG;infer_instance
theorem QW:WG 1:=by trivial
theorem Qw:WG 2:=by trivial
theorem Qs:WG 3:=by trivial
theorem QZ:WG 4:=by trivial
theorem QI:WG 5:=by trivial
theorem QV:WG 6:=by trivial
theorem QR:WG 7:=by trivial
theorem Q3:WG 8:=by trivial
theorem QP:WG 9:=by trivial
theorem Pe:WG 10:=by trivial
theorem PM:WG 11:=by trivial
theorem Ol:WG 12:=by trivial
theorem O2:WG 13:=by trivial
theorem Ou:WG 14:=by trivial
theorem Ox:WG 15:=by trivial
theorem PU:WG 16:=by trivial
theorem OZ:WG 17:=by trivial
theorem Pb:WG 18:=by trivial
theorem Oq:WG 19:=by trivial
theorem Ov:WG 20:=by trivial
theorem P1:WG 21:=by trivial
theorem OE:WG 22:=by trivial
theorem PY:WG 23:=by trivial
theorem PJ:WG 24:=by trivial
theorem PV:WG 25:=by trivial
theorem PD:WG 26:=by trivial
theorem O3:WG 27:=by trivial
theorem OM:WG 28:=by trivial
theorem Qa:WG 29:=by trivial
theorem PN:WG 30:=by trivial
theorem Po:WG 31:=by trivial
theorem Pz:WG 32:=by trivial
theorem PR:WG 33:=by trivial
theorem Qb:WG 34:=by trivial
theorem Pn:WG 35:=by trivial
theorem Pa:WG 36:=by trivial
theorem OD:WG 37:=by trivial
theorem O5:WG 38:=by trivial
theorem Qi:WG 39:=by trivial
theorem Oy:WG 40:=by trivial
theorem Qd:WG 41:=by trivial
theorem OC:WG 42:=by trivial
theorem Pd:WG 43:=by trivial
theorem Qe:WG 44:=by trivial
theorem OT:WG 45:=by trivial
theorem Oj:WG 46:=by trivial
theorem PH:WG 47:=by trivial
theorem Pc:WG 48:=by trivial
theorem OA:WG 49:=by trivial
theorem ON:WG 50:=by trivial
theorem P2:WG 51:=by trivial
theorem P8:WG 52:=by trivial
theorem OG:WG 53:=by trivial
theorem O0:WG 54:=by trivial
theorem PB:WG 55:=by trivial
theorem Oo:WG 56:=by trivial
theorem Qc:WG 57:=by trivial
theorem Qh:WG 58:=by trivial
theorem OY:WG 59:=by trivial
theorem Pm:WG 60:=by trivial
theorem FA:∀m,m<61->m=0\/(gq m=true/\EA m<=m/\∀p∈rM m,1<=m / p/\m / p<=m/\0<p/\p<=1000)
 | 0,_=>.inl rfl
 | 1,_=>.inr QW
 | 2,_=>.inr Qw
 | 3,_=>.inr Qs
 | 4,_=>.inr QZ
 | 5,_=>.inr QI
 | 6,_=>.inr QV
 | 7,_=>.inr QR
 | 8,_=>.inr Q3
 | 9,_=>.inr QP
 | 10,_=>.inr Pe
 | 11,_=>.inr PM
 | 12,_=>.inr Ol
 | 13,_=>.inr O2
 | 14,_=>.inr Ou
 | 15,_=>.inr Ox
 | 16,_=>.inr PU
 | 17,_=>.inr OZ
 | 18,_=>.inr Pb
 | 19,_=>.inr Oq
 | 20,_=>.inr Ov
 | 21,_=>.inr P1
 | 22,_=>.inr OE
 | 23,_=>.inr PY
 | 24,_=>.inr PJ
 | 25,_=>.inr PV
 | 26,_=>.inr PD
 | 27,_=>.inr O3
 | 28,_=>.inr OM
 | 29,_=>.inr Qa
 | 30,_=>.inr PN
 | 31,_=>.inr Po
 | 32,_=>.inr Pz
 | 33,_=>.inr PR
 | 34,_=>.inr Qb
 | 35,_=>.inr Pn
 | 36,_=>.inr Pa
 | 37,_=>.inr OD
 | 38,_=>.inr O5
 | 39,_=>.inr Qi
 | 40,_=>.inr Oy
 | 41,_=>.inr Qd
 | 42,_=>.inr OC
 | 43,_=>.inr Pd
 | 44,_=>.inr Qe
 | 45,_=>.inr OT
 | 46,_=>.inr Oj
 | 47,_=>.inr PH
 | 48,_=>.inr Pc
 | 49,_=>.inr OA
 | 50,_=>.inr ON
 | 51,_=>.inr P2
 | 52,_=>.inr P8
 | 53,_=>.inr OG
 | 54,_=>.inr O0
 | 55,_=>.inr PB
 | 56,_=>.inr Oo
 | 57,_=>.inr Qc
 | 58,_=>.inr Qh
 | 59,_=>.inr OY
 | 60,_=>.inr Pm
 | n+61,h=>absurd h (by lia)
noncomputable def nX(n:Nat)(t:AC)(e:Nat)(R:AT)(x:Nat):Bool:=decide (∀y,y<x->tb t (az n t e y) x∉R)
noncomputable def bH(n:Nat)(t:AC)(e:Nat)(R:AT)(i:Nat):AT:=(Rh i).filter (nX n t e R)
noncomputable def bI(n:Nat)(t:AC)(e:Nat)(R:AT):AT:=bH n t e R n
theorem oa :x∈bH n t e R i↔x<i/\∀y,y<x->tb t (az n t e y) x∉R:=by
 unfold bH nX;rw[RL,Ri,decide_eq_true_iff]
theorem eN :x∈bI n t e R↔x<n/\∀y,y<x->tb t (az n t e y) x∉R:=oa
theorem EF :(bH n t e R i).Pairwise (· < ·):=Ua _ S3
theorem tU:(bI n t e R).Pairwise (· < ·):=EF
theorem dG(h:x∈bI n t e R):x<n:=(eN.mp h).1
theorem ju:(bI n t e R).length<=n:=cE (aB tU) λx hx=>dG hx
theorem nj(i:Nat):bH n t e R (i+1)=if nX n t e R i=true then bH n t e R i++[i] else bH n t e R i:=by
 unfold bH;rw[UL,U1];cases h:nX n t e R i with
 | true=>simp[h]
 | false=>simp[h]
theorem vU(g:GT n t e)(p:IsPart n t R)(x:Nat)(hx:x<n):∃c,c∈bI n t e R/\tb t (az n t e c) x∈R:=by
 induction x using X1 with
 | ind x ih =>
  by_cases h:∀y,y<x->tb t (az n t e y) x∉R
  .exact⟨x,eN.mpr ⟨hx,h⟩,xA g p hx⟩
  .obtain⟨y,hy⟩:=Classical.not_forall.mp h;obtain⟨yx,hr⟩:=Classical.not_imp.mp hy;have hr':=Classical.not_not.mp hr;have yn:=U7 yx hx;obtain⟨c,hc,q⟩:=ih y yx yn;exact⟨c,hc,kb g p yn (dG hc) hx (dF g p (dG hc) yn q) hr'⟩
theorem Hq(g:GT n t e)(p:IsPart n t R){c':Nat}(hx:x<n)(hc:c∈bI n t e R)(ZH:c'∈bI n t e R)(h:tb t (az n t e c) x∈R)(h':tb t (az n t e c') x∈R):c=c':=by
 have l:=dG hc;have l':=dG ZH;have q:=kb g p hx l l' (dF g p l hx h) (dF g p l' hx h');have q':=dF g p l l' q;rcases S2 c c' with z|z|z
 .exact absurd q ((eN.mp ZH).2 c z)
 .exact z
 .exact absurd q' ((eN.mp hc).2 c' z)
theorem Ko(g:GT n t e)(p:IsPart n t R)(hx:x<n)(hc:c∈bI n t e R)(h:tb t (az n t e c) x∈R):c<=x:=by
 rcases Rz x c with z|z
 .exact absurd (dF g p (dG hc) hx h) ((eN.mp hc).2 x z)
 .exact z
theorem zU{s:AT}(h:s.Pairwise (· < ·))(hx:x∈s):s.getD 0 0<=x:=by
 cases s with
 | nil=>cases hx
 | cons a r =>
  show a<=x;rcases RA.mp hx with z|z
  .lia
  .have:=(To.mp h).1 x z;lia
theorem y9.bI{L:AC}(S:y9 n t e R L)(g:GT n t e)(p:IsPart n t R):L.map (λs=>s.getD 0 0)=bI n t e R:=by
 refine eG S.heads tU λx=>?_;have full:∀s∈L,∀y,y<n->tb t (az n t e (s.getD 0 0)) y∈R->y∈s:=λs hs y hy h=>by
  refine Sm λno=>?_;have h0:=S.lt s hs _ (head_mem (S.ne s hs));have nd:(y :: s).Nodup:=R8.mpr ⟨no,aB (S.srt s hs)⟩;have:=sub_len nd (l2:=R.map (tb t (s.getD 0 0))) λz hz=>by
   have hzr:z<n/\tb t (az n t e (s.getD 0 0)) z∈R:=by
    rcases RA.mp hz with q|q
    .rw[q];exact⟨hy,h⟩
    .exact⟨S.lt s hs z q,S.side s hs z q⟩
   obtain⟨k,hk,q⟩:=(dS g p h0 hzr.1).mp hzr.2;exact Rw.mpr ⟨k,hk,q⟩
  rw[Sb,Rc,S.len s hs]at this;lia
 constructor
 .intro hx;obtain⟨s,hs,rfl⟩:=Rw.mp hx;have h0:=S.lt s hs _ (head_mem (S.ne s hs));refine eN.mpr ⟨h0,λy hy q=>?_⟩;have hyn:=U7 hy h0;have ys:=full s hs y hyn (dF g p hyn h0 q);have:=zU (S.srt s hs) ys;have C':y<s.getD 0 0:=hy;lia
 .intro hx;obtain⟨hxn,h⟩:=eN.mp hx;obtain⟨s,hs,xs⟩:=TQ.mp (S.all.mem_iff.mpr (Ri.mpr hxn));refine Rw.mpr ⟨s,hs,?_⟩;have h1:=S.side s hs x xs;have hle:=zU (S.srt s hs) xs;show s.getD 0 0=x;rcases Rz (s.getD 0 0) x with z|z
  .exact absurd h1 (h _ z)
  .lia
noncomputable def hm(n:Nat)(t:AC)(e:Nat)(R:AT)(x:Nat):Nat:=(bI n t e R).findIdx λc=>decide (tb t (az n t e c) x∈R)
noncomputable def ov(n:Nat)(t:AC)(e:Nat)(R:AT)(x:Nat):Nat:=tb t (az n t e ((bI n t e R).getD (hm n t e R x) 0)) x
theorem Ee(g:GT n t e)(p:IsPart n t R)(hx:x<n)(hi:(bI n t e R)[i]?=some c)(h:tb t (az n t e c) x∈R):hm n t e R x=i:=by
 obtain⟨hl,ec⟩:=Q9.mp hi;have hex:∃c,c∈bI n t e R/\decide (tb t (az n t e c) x∈R)=true:=⟨c,Rb hi,decide_eq_true h⟩;have Zd:hm n t e R x<(bI n t e R).length:=List.findIdx_lt_length_of_exists hex;have hget:=List.findIdx_getElem (w:=Zd);have h2:tb t (az n t e ((bI n t e R)[hm n t e R x])) x∈R:=of_decide_eq_true hget;have N':(bI n t e R)[hm n t e R x]∈bI n t e R:=Sd Zd;have:=Hq g p hx (Rb hi) N' h h2;have nd:=aB (tU (n:=n) (t:=t) (e:=e) (R:=R));exact(V2 nd).mp (by rw[ec,<- this])
theorem J6(g:GT n t e)(p:IsPart n t R)(hx:x<n):∃c,(bI n t e R)[hm n t e R x]?=some c/\c<n/\tb t (az n t e c) x=ov n t e R x/\ov n t e R x∈R:=by
 obtain⟨c,hc,h⟩:=vU g p x hx;obtain⟨i,hi⟩:=RD hc;have q:=Ee g p hx hi h;have hg:(bI n t e R).getD i 0=c:=by rw[Rf,hi];rfl
 have ho:ov n t e R x=tb t (az n t e c) x:=by unfold ov;rw[q,hg]
 exact⟨c,by rw[q];exact hi,dG hc,ho.symm,by rw[ho];exact h⟩
theorem J5(g:GT n t e)(p:IsPart n t R)(hi:(bI n t e R)[i]?=some c)(hk:R[k]?=some h)(q:tb t c h=x):hm n t e R x=i/\R.idxOf (ov n t e R x)=k:=by
 have hc:=Rb hi;have hh:=Rb hk;have cn:=dG hc;have hn:=p.lt h hh;have hx:x<n:=by rw[<- q];exact g.lt _ _ cn hn
 have hb:=g.bp cn;have e1:tb t (az n t e c) x=h:=by rw[<- q,<- g.assoc _ _ _ hb cn hn,g.iD cn,g.unl h hn]
 have h1:=Ee g p hx hi (by rw[e1];exact hh)
 obtain⟨c',a1,_,a3,_⟩:=J6 g p hx;rw[h1,hi]at a1;cases a1;refine⟨h1,?_⟩;rw[<- a3,e1];obtain⟨hl,eh⟩:=Q9.mp hk;rw[<- eh];exact(aB p.srt).idxOf_getElem k hl
theorem zt(g:GT n t e)(p:IsPart n t R)(hx:x<n):∃c k,(bI n t e R)[hm n t e R x]?=some c/\R[k]?=some (ov n t e R x)/\R.idxOf (ov n t e R x)=k/\tb t c (ov n t e R x)=x:=by
 obtain⟨c,a1,a2,a3,a4⟩:=J6 g p hx;refine⟨c,_,a1,?_,rfl,?_⟩
 .rw[Q8 (R6 a4),U0]
 .rw[<- a3,<- g.assoc _ _ _ a2 (g.bp a2) hx,g.i9 a2,g.unl x hx]
noncomputable def mz(n:Nat)(t:AC)(e:Nat)(R:AT):List (Y2):=(Rh n).map λa=>(bI n t e R).map λc=>(hm n t e R (tb t a c),R.idxOf (ov n t e R (tb t a c)))
noncomputable def dk(n:Nat)(t:AC)(e:Nat)(R M:AT):List (Y2):=(Rh n).map λa=>(bI n t e R).map λc=>(hm n t e R (tb t a c),M.getD (R.idxOf (ov n t e R (tb t a c))) 0)
theorem b9.dvd(h:b9 l k)(hj:∀s∈l,j % s=0):j % k=0:=by
 rcases Su (j % k) with z|z
 .exact z
 .obtain⟨s,hs,q⟩:=h.least (j % k) z (RT _ h.pos);refine absurd ?_ q;have d1:s ∣ j:=SJ (hj s hs);have d2:s ∣ k:=SJ (h.all s hs);exact XB ((Nat.dvd_mod_iff d2).mpr d1)
theorem J4(g:GT n t e)(hx:x<n)(hy:y<n)(h:tb t x y=e):az n t e x=y:=by
 refine g.dC hx (g.bp hx) hy ?_;rw[g.i9 hx,h]
theorem LP(g:GT n t e)(hx:x<n)(hy:y<n):az n t e (tb t x y)=tb t (az n t e y) (az n t e x):=by
 have bx:=g.bp hx;have b2:=g.bp hy;refine J4 g (g.lt x y hx hy) (g.lt _ _ b2 bx) ?_;rw[g.assoc x y _ hx hy (g.lt _ _ b2 bx),<- g.assoc y _ _ hy b2 bx,g.i9 hy,g.unl _ bx,g.i9 hx]
theorem fW(g:GT n t e)(ha:a<n)(hb:b<n)(hc:c<n):aO n t e (aO n t e a b) c=aO n t e a (tb t c b):=by
 have bb:=g.bp hb;have bc:=g.bp hc;have ba:=g.lt b a hb ha;unfold aO;rw[LP g hc hb,<- g.assoc c (tb t b a) _ hc ba bb,<- g.assoc c b a hc hb ha,g.assoc (tb t (tb t c b) a) _ _ (g.lt _ _ (g.lt c b hc hb) ha) bb bc]
theorem BJ(g:GT n t e)(ha:a<n):aO n t e a e=a:=by
 unfold aO;rw[J4 g g.elt g.elt (g.unl e g.elt),g.unl a ha,g.unr a ha]
noncomputable def cls(n:Nat)(t:AC)(e a:Nat):AT:=(Rh n).filter λc=>decide (c∈(Rh n).map (aO n t e a))
theorem jG(g:GT n t e)(ha:a<n):c∈cls n t e a↔∃b,b<n/\aO n t e a b=c:=by
 unfold cls;rw[RL,decide_eq_true_iff,Rw];constructor
 .rintro⟨_,b,hb,h⟩;exact⟨b,Ri.mp hb,h⟩
 .rintro⟨b,hb,rfl⟩;exact⟨Ri.mpr (CS g ha hb),b,Ri.mpr hb,rfl⟩
theorem jA :(cls n t e a).Pairwise (· < ·):=Ua _ S3
theorem qX(h:c∈cls n t e a):c<n:=Ri.mp (RL.mp h).1
theorem HC(g:GT n t e)(ha:a<n):a∈cls n t e a:=(jG g ha).mpr ⟨e,g.elt,BJ g ha⟩
theorem vR(g:GT n t e)(ha:a<n)(h:c∈cls n t e a):a∈cls n t e c:=by
 have hc:=qX h;obtain⟨b,hb,rfl⟩:=(jG g ha).mp h;refine(jG g hc).mpr ⟨az n t e b,g.bp hb,?_⟩;rw[fW g ha hb (g.bp hb),g.iD hb,BJ g ha]
theorem qe(g:GT n t e){d:Nat}(ha:a<n)(h:c∈cls n t e a)(h':d∈cls n t e c):d∈cls n t e a:=by
 have hc:=qX h;obtain⟨b',Zi,rfl⟩:=(jG g hc).mp h';obtain⟨b,hb,rfl⟩:=(jG g ha).mp h;exact(jG g ha).mpr ⟨tb t b' b,g.lt _ _ Zi hb,(fW g ha hb Zi).symm⟩
theorem NM(g:GT n t e)(ha:a<n)(h:c∈cls n t e a):cls n t e c=cls n t e a :=
 eG jA jA λ_=>⟨λz=>qe g ha h z,λz=>qe g (qX h) (vR g ha h) z⟩
noncomputable def D7(n:Nat)(t:AC)(e x:Nat):Bool:=decide (∀y,y<x->x∉cls n t e y)
noncomputable def i4(n:Nat)(t:AC)(e i:Nat):AT:=(Rh i).filter (D7 n t e)
noncomputable def gG(n:Nat)(t:AC)(e i:Nat):AC:=(i4 n t e i).map (cls n t e)
theorem oj :x∈i4 n t e i↔x<i/\∀y,y<x->x∉cls n t e y:=by
 unfold i4 D7;rw[RL,Ri,decide_eq_true_iff]
theorem B5(i:Nat):i4 n t e (i+1)=if (∀y,y<i->i∉cls n t e y) then i4 n t e i++[i] else i4 n t e i:=by
 unfold i4;rw[UL,U1]
 by_cases c:∀y,y<i->i∉cls n t e y
 .rw[if_pos c];have:D7 n t e i=true:=decide_eq_true c;simp[this]
 .rw[if_neg c];have:D7 n t e i=false:=decide_eq_false c;simp[this]
theorem MW(g:GT n t e):∀ (y:Nat),y<n->∃z,z<=y/\(∀w,w<z->z∉cls n t e w)/\cls n t e z=cls n t e y:=λy=>by
 induction y using X1 with
 | ind y ih =>
  intro hy
  by_cases c:∀w,w<y->y∉cls n t e w
  .exact⟨y,Ru _,c,rfl⟩
  .obtain⟨w,hw,h⟩:∃w,w<y/\y∈cls n t e w:=by
    apply Sm;intro z;exact c λw hw h=>z ⟨w,hw,h⟩
   have hwn:w<n:=by lia
   obtain⟨z,h1,h2,h3⟩:=ih w hw hwn;exact⟨z,by lia,h2,h3.trans (NM g hwn h).symm⟩
theorem HW(g:GT n t e)(hi:i<=n):x∈(gG n t e i).flatten↔∃y,y<i/\x∈cls n t e y:=by
 rw[TQ];constructor
 .rintro⟨l,hl,hx⟩;obtain⟨y,hy,rfl⟩:=Rw.mp hl;exact⟨y,(oj.mp hy).1,hx⟩
 .rintro⟨y,hy,hx⟩;obtain⟨z,h1,h2,h3⟩:=MW g y (by lia)
  exact⟨_,Rw.mpr ⟨z,oj.mpr ⟨by lia,h2⟩,rfl⟩,by rw[h3];exact hx⟩
theorem Jd(g:GT n t e)(hx:x<n)(h:∀y,y<x->x∉cls n t e y):(cls n t e x)[0]?=some x:=by
 have hs:=jA (n:=n) (t:=t) (e:=e) (a:=x);have hm:=HC g hx;have hle:∀c∈cls n t e x,x<=c:=λc hc=>by
  rcases Rz c x with z|z
  .exact absurd (vR g hx hc) (h c z)
  .exact z
 cases q:cls n t e x with
 | nil=>rw[q]at hm;cases hm
 | cons c l =>
  rw[q]at hs hm hle;rw[To]at hs;rcases RA.mp hm with z|z
  .rw[z];rfl
  .have a1:=hs.1 x z;have a2:=hle c Rr;lia
noncomputable def Meta(n:Nat)(t:AC):Prop:=∃ (s:Nat) (φ:Nat->Nat),0<s/\(∀x y,x<n->y<n->φ (tb t x y)=(φ x+φ y) % s)/\(∀x,x<n->φ x<s)/\∀x y,x<n->y<n->φ x=0->φ y=0->tb t x y=tb t y x
theorem Jt(T:Tn m ad f s e):Meta (m * s) (mkT (m * s) (cyc m ad f s e)):=by
 have m0:=T.pos;have dv:∀x,x<m * s->x / m<s:=λx hx=>SN hx;refine⟨s,λx=>x / m,T.iz,λx y hx hy=>?_,λx hx=>dv x hx,λx y hx hy h1 h2=>?_⟩
 .rw[vf hx hy];have x1:=RT x m0;have y1:=RT y m0;have h:=fV T x1 y1 (dv x hx) (dv y hy);rw[<- dm,<- dm]at h;show cyc m ad f s e x y / m=_;rw[h,Ti _ _ m0,Tc (T.lt _ _ (T.lt _ _ x1 (eW T _ y1)) (dR T _)),Tj]
 .rw[vf hx hy,vf hy hx];have small:∀x,x / m=0->x<m:=λx h=>by
   have:=RT x m0;have e1:x=x % m+m * (x / m):=dm m x;rw[h]at e1;lia
  have x1:=small x h1;have y1:=small y h2;have s0:=T.iz;have a1:=fV T x1 y1 s0 s0;have a2:=fV T y1 x1 s0 s0;simp only[Us,TN,WJ,Ut]at a1 a2;rw[a1,a2];show ad (ad x y) 0=ad (ad y x) 0;rw[T.comm x y x1 y1]
theorem Meta.ren{R:AC}(h:Ren n π R rows n 0)(hp:π.Perm (Rh n))(g:GT n R e)(M:Meta n R):Meta n rows:=by
 obtain⟨s,φ,s0,h1,h2,h3⟩:=M;have nd:π.Nodup:=hp.nodup_iff.mpr Tv;have pl:π.length=n:=by rw[hp.length_eq,RP]
 have inv:∀y,y<n->π.idxOf y<n/\π.getD (π.idxOf y) 0=y:=λy hy=>by
  have hm:y∈π:=hp.mem_iff.mpr (Ri.mpr hy);have hl:=R6 hm;refine⟨by lia,?_⟩
  rw[Rf,Q8 hl,U0];rfl
 have idx:∀a,a<n->π.idxOf (π.getD a 0)=a:=λa ha=>by
  have hl:a<π.length:=by lia
  rw[Rf,Q8 hl];exact nd.idxOf_getElem a hl
 have mul:∀x y,x<n->y<n->tb rows x y=π.getD (tb R (π.idxOf x) (π.idxOf y)) 0:=λx y hx hy=>by
  obtain⟨x1,x2⟩:=inv x hx;obtain⟨y1,y2⟩:=inv y hy;have:=h.at_ _ _ x1 y1 (.inl x1);rw[x2,y2]at this;o_rec
 refine⟨s,λx=>φ (π.idxOf x),s0,λx y hx hy=>?_,λx hx=>h2 _ (inv x hx).1,λx y hx hy a b=>?_⟩
 .obtain⟨x1,x2⟩:=inv x hx;obtain⟨y1,y2⟩:=inv y hy;show φ (π.idxOf (tb rows x y))=_;rw[mul x y hx hy,idx _ (g.lt _ _ x1 y1)];exact h1 _ _ x1 y1
 .rw[mul x y hx hy,mul y x hy hx,h3 _ _ (inv x hx).1 (inv y hy).1 a b]
theorem Meta.mixed(M:Meta n t)(g:GT n t e)(G:Gen n t e (fG n t e (Rh n)) P):∀x∈P,∀y∈P,tb t x y=tb t y x:=by
 obtain⟨s,φ,s0,h1,h2,h3⟩:=M;have e0:φ e=0:=by
  have a:=h1 e e g.elt g.elt;rw[g.unl e g.elt]at a;have b:=h2 e g.elt;rcases Rz (φ e+φ e) s with z|z
  .rw[R4 z]at a;lia
  .rw[WI z,R4 (by lia)]at a;lia
 have bk0:∀a,a<n->(φ a+φ (az n t e a)) % s=0:=λa ha=>by
  have:=h1 a _ ha (g.bp ha);rw[g.i9 ha,e0]at this;exact this.symm
 have ker:∀x∈P,φ x=0:=by
  have key:∀x∈P,x<n/\φ x=0:=by
   have h:=G.least (R:=(Rh n).filter λx=>decide (φ x=0)) (RL.mpr ⟨Ri.mpr g.elt,decide_eq_true e0⟩) λx hx c hc=>?_
   .intro x hx;obtain⟨a,b⟩:=RL.mp (h x hx);exact⟨Ri.mp a,of_decide_eq_true b⟩
   .obtain⟨a,ha,b,hb,rfl⟩:=iw.mp hc;have A':=Ri.mp ha;have Zi:=Ri.mp hb;obtain⟨x1,x2⟩:=RL.mp hx;have xn:=Ri.mp x1;have x0:=of_decide_eq_true x2;have ab:=g.lt a b A' Zi;have aba:=g.lt _ _ ab (g.bp A');have cn:=g.lt _ _ aba (g.bp Zi);refine RL.mpr ⟨Ri.mpr (g.lt _ _ xn cn),decide_eq_true ?_⟩;rw[h1 _ _ xn cn,x0,h1 _ _ aba (g.bp Zi),h1 _ _ ab (g.bp A'),h1 _ _ A' Zi,Tj,Nat.mod_mod,Ts];have e1:(φ a+φ b) % s+φ (az n t e a)+φ (az n t e b)=(φ a+φ b) % s+(φ (az n t e a)+φ (az n t e b)):=by lia
    have q1:=bk0 a A';have q2:=bk0 b Zi;rw[e1,Ts];have e2:φ a+φ b+(φ (az n t e a)+φ (az n t e b))=(φ a+φ (az n t e a))+(φ b+φ (az n t e b)):=by lia
    rw[e2,Xl,q1,q2];simp
  exact λx hx=>(key x hx).2
 exact λx hx y hy=>h3 x y (G.lt x hx) (G.lt y hy) (ker x hx) (ker y hy)
theorem HF(g:GT n t e)(G:Gen n t e S P)(hS:∀s∈S,s<n)(h:∀x∈S,∀y∈S,tb t x y=tb t y x):∀x∈P,∀y∈P,tb t x y=tb t y x:=by
 have step:∀s∈S,∀x∈P,tb t x s=tb t s x:=λs hs=>by
  have sn:=hS s hs;have hh:=G.least (R:=(Rh n).filter λx=>decide (tb t x s=tb t s x)) (RL.mpr ⟨Ri.mpr g.elt,decide_eq_true (by rw[g.unl s sn,g.unr s sn])⟩) λx hx c hc=>?_
  .intro x hx;exact of_decide_eq_true (RL.mp (hh x hx)).2
  .obtain⟨x1,x2⟩:=RL.mp hx;have xn:=Ri.mp x1;have x0:=of_decide_eq_true x2;have cn:=hS c hc;refine RL.mpr ⟨Ri.mpr (g.lt _ _ xn cn),decide_eq_true ?_⟩;rw[g.assoc x c s xn cn sn,h c hc s hs,<- g.assoc x s c xn sn cn,x0,g.assoc s x c sn xn cn]
 intro x hx y hy;have xn:=G.lt x hx;have hh:=G.least (R:=(Rh n).filter λy=>decide (tb t x y=tb t y x)) (RL.mpr ⟨Ri.mpr g.elt,decide_eq_true (by rw[g.unl x xn,g.unr x xn])⟩) λz hz c hc=>?_
 .exact of_decide_eq_true (RL.mp (hh y hy)).2
 .obtain⟨z1,z2⟩:=RL.mp hz;have zn:=Ri.mp z1;have z0:=of_decide_eq_true z2;have cn:=hS c hc;refine RL.mpr ⟨Ri.mpr (g.lt _ _ zn cn),decide_eq_true ?_⟩;rw[<- g.assoc x z c xn zn cn,z0,g.assoc z x c zn xn cn,step c hc x hx,<- g.assoc z c x zn cn xn]
section
variable {H:AT}
structure dH(n:Nat)(t:AC)(e:Nat)(H:AT):Prop where
 pt:IsPart n t H
 cm:∀x∈H,∀y∈H,tb t x y=tb t y x
 st:∀b,b<n->∀h∈H,aO n t e h b∈H
 gr:∀x,x<n->(∀h∈H,tb t x h=tb t h x)->x∈H
noncomputable def Led(n:Nat)(t:AC)(e:Nat)(H:AT):Prop:=∃x,x<n/\∀P,Gen n t e (H++[x]) P->P.length=n
theorem v9(g:GT n t e)(p:IsPart n t H)(pp:IsPart n t P)(sub:∀x∈H,x∈P):H.length ∣ P.length :=
 oo g (aB p.srt) p.lt (p.un g) p.cl (λh hh=>p.bk g hh) P.length P (Ru _) (aB pp.srt) pp.lt λx hx h hh=>pp.cl x hx h (sub h hh)
theorem sV(g:GT n t e)(p:IsPart n t H):H.length ∣ n:=by
 have:=oo g (aB p.srt) p.lt (p.un g) p.cl (λh hh=>p.bk g hh) n (Rh n) (by simp) Tv (λx hx=>Ri.mp hx) λx hx h hh=>Ri.mpr (g.lt x h (Ri.mp hx) (p.lt h hh))
 rwa[RP]at this
theorem De(g:GT n t e)(G:Gen n t e S P)(hs:s∈S)(hn:s<n):s∈P:=G.has g hs hn
theorem Ao(hs:P.Pairwise (· < ·))(h:∀x,x∈P↔x<n):P.length=n:=by
 have:P=Rh n:=eG hs S3 λx=>by rw[h x,Ri]
 rw[this,RP]
theorem dH.out(h:dH n t e H)(hl:H.length<n):∃x,x<n/\x∉H:=by
 apply Sm;intro z;have:=sub_len Tv (l1:=Rh n) (l2:=H) λx hx=>Sm λq=>z ⟨x,Ri.mp hx,q⟩;rw[RP]at this;lia
theorem dH.sp(h:dH n t e H)(g:GT n t e)(hx:x<n)(G:Gen n t e (H++[x]) P):IsPart n t P/\(∀y∈H,y∈P)/\x∈P:=by
 have hS:∀s∈H++[x],s<n:=λs hs=>by
  rcases Rq.mp hs with z|z
  .exact h.pt.lt s z
  .rw[Rj.mp z];exact hx
 exact⟨G.part g hS,λy hy=>De g G (SM _ hy) (h.pt.lt y hy),De g G (RX _ (Rj.mpr rfl)) hx⟩
theorem nA(h:dH n t e H)(g:GT n t e)(two:∀x y,x<n->y<n->x∉H->y∉H->tb t x y∈H):Led n t e H:=by
 by_cases c:∃x,x<n/\x∉H
 .obtain⟨x,hx,ZI⟩:=c;walk_at "127";refine Ao pp.srt λy=>⟨λhy=>pp.lt y hy,λhy=>?_⟩
  by_cases d:y∈H
  .exact sub y d
  .have e1:y=tb t (az n t e x) (tb t x y):=by rw[<- g.assoc _ _ _ (g.bp hx) hx hy,g.iD hx,g.unl y hy]
   rw[e1];exact pp.cl _ (pp.bk g xP) _ (sub _ (two x y hx hy ZI d))
 .refine⟨e,g.elt,λP G=>?_⟩;obtain⟨pp,sub,_⟩:=h.sp g g.elt G;exact Ao pp.srt λy=>⟨λhy=>pp.lt y hy,λhy=>sub y (Sm λq=>c ⟨y,hy,q⟩)⟩
theorem qc(h:dH n t e H)(g:GT n t e)(hm:n=H.length * m)(pm:m=1\/m=2\/m=3\/m=5):Led n t e H:=by
 have a0:0<H.length:=RJ.mpr h.pt.ne;rcases Rz H.length n with c|c
 .obtain⟨x,hx,ZI⟩:=h.out c;walk_at "127";obtain⟨j,hj⟩:=v9 g h.pt pp sub;obtain⟨i,hi⟩:=sV g pp;have gt1:H.length<P.length:=by
   have:=sub_len (l1:=x :: H) (l2:=P) (R8.mpr ⟨ZI,aB h.pt.srt⟩) λy hy=>by
    rcases RA.mp hy with rfl|hy
    .exact xP
    .exact sub y hy
   rw[Sb]at this;lia
  have j2:2<=j:=by
   rcases Rz j 2 with z|z
   .have:H.length * j<=H.length * 1:=SE _ (by lia)
    lia
   .exact z
  have ji:m=j * i:=by
   rw[hj,UQ]at hi;rw[hi]at hm;exact(T2 a0 hm).symm
  have i1:i=1:=by
   have i0:0<i:=by
    rcases Su i with z|z
    .subst z;lia
    .exact z
   rcases Rz i 2 with z|z
   .lia
   .have:2 * 2<=j * i:=UW j2 z;have m5:m=5:=by lia
    have jl:j<=2:=by
     rcases Rz 2 j with w|w
     .have:3 * 2<=j * i:=UW w z;lia
     .exact w
    have:j=2:=by lia
    subst this;lia
  subst i1;lia
 .refine⟨e,g.elt,λP G=>?_⟩;obtain⟨pp,sub,_⟩:=h.sp g g.elt G;have:=sub_len (aB h.pt.srt) sub;have:=pp.len;lia
theorem GS(h:dH n t e H)(g:GT n t e)(hm:n=H.length * 4)(hx:x<n)(hs:tb t x x∉H):Led n t e H:=by
 have a0:0<H.length:=RJ.mpr h.pt.ne;have ZI:x∉H:=λz=>hs (h.pt.cl x z x z);walk_at "127";obtain⟨j,hj⟩:=v9 g h.pt pp sub;obtain⟨i,hi⟩:=sV g pp;have nd:(H++H.map (tb t x)).Nodup:=by
  refine Uy.mpr ⟨aB h.pt.srt,f9 (aB h.pt.srt) λa ha b hb q=>g.dC hx (h.pt.lt a ha) (h.pt.lt b hb) q,λa ha b hb q=>?_⟩;obtain⟨k,hk,rfl⟩:=Rw.mp hb;refine ZI ?_;have kn:=h.pt.lt k hk;have e1:x=tb t (tb t x k) (az n t e k):=by rw[g.assoc x k _ hx kn (g.bp kn),g.i9 kn,g.unr x hx]
  rw[e1,<- q];exact h.pt.cl _ ha _ (h.pt.bk g hk)
 have sb:∀y∈H++H.map (tb t x),y∈P:=λy hy=>by
  rcases Rq.mp hy with z|z
  .exact sub y z
  .obtain⟨k,hk,rfl⟩:=Rw.mp z;exact pp.cl _ xP _ (sub k hk)
 have xx:tb t x x∉H++H.map (tb t x):=λhy=>by
  rcases Rq.mp hy with z|z
  .exact hs z
  .obtain⟨k,hk,q⟩:=Rw.mp z;have:=g.dC hx (h.pt.lt k hk) hx q;exact ZI (this ▸ hk)
 have big:H.length+H.length+1<=P.length:=by
  have:=sub_len (l1:=tb t x x :: (H++H.map (tb t x))) (l2:=P) (R8.mpr ⟨xx,nd⟩) λy hy=>by
   rcases RA.mp hy with rfl|hy
   .exact pp.cl _ xP _ xP
   .exact sb y hy
  rw[Sb,Rt,Rc]at this;o_rec
 have j3:3<=j:=by
  rcases Rz j 3 with z|z
  .have:H.length * j<=H.length * 2:=SE _ (by lia)
   lia
  .exact z
 have ji:4=j * i:=by
  rw[hj,UQ]at hi;rw[hi]at hm;exact(T2 a0 hm).symm
 have i1:i=1:=by
  rcases Rz i 2 with z|z
  .rcases Su i with w|w
   .subst w;lia
   .lia
  .have:3 * 2<=j * i:=UW j3 z;lia
 subst i1;lia
noncomputable def cen(t:AC)(H:AT)(x:Nat):AT:=H.filter λh=>decide (tb t x h=tb t h x)
theorem fO :h∈cen t H x↔h∈H/\tb t x h=tb t h x:=by
 unfold cen;rw[RL,decide_eq_true_iff]
theorem dH.cen(h:dH n t e H)(g:GT n t e){x:Nat}(hx:x<n):IsPart n t (cen t H x):=by
 refine⟨Ua _ h.pt.srt,λy hy=>h.pt.lt y (fO.mp hy).1,T8 (fO.mpr ⟨h.pt.un g,by rw[g.unl x hx,g.unr x hx]⟩),λy hy z hz=>?_⟩
 obtain⟨y1,y2⟩:=fO.mp hy;obtain⟨z1,z2⟩:=fO.mp hz;have yn:=h.pt.lt y y1;have zn:=h.pt.lt z z1;refine fO.mpr ⟨h.pt.cl y y1 z z1,?_⟩;rw[<- g.assoc x y z hx yn zn,y2,g.assoc y x z yn hx zn,z2,<- g.assoc y z x yn zn hx]
theorem dH.cdiv(h:dH n t e H)(g:GT n t e)(hx:x<n):(TB.cen t H x).length ∣ H.length:=v9 g (h.cen g hx) h.pt λy hy=>(fO.mp hy).1
theorem dH.call(h:dH n t e H)(g:GT n t e)(hx:x<n)(hl:H.length<=(TB.cen t H x).length):x∈H:=by
 refine h.gr x hx λy hy=>?_;apply Sm;intro z;have nc:y∉TB.cen t H x:=λw=>z (fO.mp w).2;have:=sub_len (l1:=y :: TB.cen t H x) (l2:=H) (R8.mpr ⟨nc,aB (h.cen g hx).srt⟩) λw hw=>by
  rcases RA.mp hw with rfl|hw
  .exact hy
  .exact(fO.mp hw).1
 rw[Sb]at this;lia
theorem oh(g:GT n t e)(hx:x<n)(hy:y<n):aO n t e y x=y↔tb t x y=tb t y x:=by
 have bx:=g.bp hx;have xy:=g.lt x y hx hy;unfold aO;constructor
 .intro q;have e1:tb t (tb t (tb t x y) (az n t e x)) x=tb t x y:=by rw[g.assoc _ _ _ xy bx hx,g.iD hx,g.unr _ xy]
  rw[q]at e1;exact e1.symm
 .intro q;rw[q,g.assoc y x _ hy hx bx,g.i9 hx,g.unr y hy]
theorem JD(g:GT n t e)(hx:x<n)(hy:y<n)(q:aO n t e y x=e):y=e:=by
 have bx:=g.bp hx;have xy:=g.lt x y hx hy;have e1:tb t (tb t (tb t x y) (az n t e x)) x=tb t x y:=by rw[g.assoc _ _ _ xy bx hx,g.iD hx,g.unr _ xy]
 have q':tb t (tb t x y) (az n t e x)=e:=q;rw[q',g.unl x hx]at e1;refine g.dC hx hy g.elt ?_;rw[<- e1,g.unr x hx]
theorem zY(g:GT n t e)(hx:x<n)(hy:y<n)(hz:z<n)(q:aO n t e y x=aO n t e z x):y=z:=by
 have bx:=g.bp hx;exact g.dC hx hy hz (g.oR bx (g.lt x y hx hy) (g.lt x z hx hz) q)
theorem Jj(g:GT n t e)(hx:x<n)(hy:y<n)(hz:z<n):aO n t e (tb t y z) x=tb t (aO n t e y x) (aO n t e z x):=by
 have bx:=g.bp hx;have xy:=g.lt x y hx hy;have xz:=g.lt x z hx hz;have b2:=g.lt _ _ xz bx;unfold aO;rw[g.assoc (tb t x y) _ _ xy bx b2,<- g.assoc (az n t e x) _ _ bx xz bx,<- g.assoc (az n t e x) x z bx hx hz,g.iD hx,g.unl z hz,<- g.assoc x y z hx hy hz,g.assoc (tb t x y) z _ xy hz bx]
theorem dH.Qv(h:dH n t e H)(g:GT n t e):∃N:AT,N.Nodup/\N.length+1=H.length/\(∀x,x∈N↔x∈H/\x≠e):=by
 refine⟨H.erase e,(aB h.pt.srt).erase _,?_,λx=>?_⟩
 .have a0:0<H.length:=RJ.mpr h.pt.ne;rw[W9 (h.pt.un g)];lia
 .rw[(aB h.pt.srt).mem_erase_iff];exact And.comm
theorem dH.con(h:dH n t e H)(g:GT n t e){N:AT}(hN:∀x,x∈N↔x∈H/\x≠e)(hx:x<n)(hy:y∈N):aO n t e y x∈N:=by
 obtain⟨y1,y2⟩:=(hN y).mp hy;exact(hN _).mpr ⟨h.st x hx y y1,λq=>y2 (JD g hx (h.pt.lt y y1) q)⟩
theorem dH.led(h:dH n t e H)(g:GT n t e):Led n t e H:=by
 have Zw:=g.le;have a0:0<H.length:=RJ.mpr h.pt.ne;obtain⟨m,hm⟩:=sV g h.pt;obtain⟨N,nd,Nl,hN⟩:=h.Qv g;have Nn:∀y∈N,y<n:=λy hy=>h.pt.lt y ((hN y).mp hy).1;have NH:∀y∈N,y∈H:=λy hy=>((hN y).mp hy).1;have ZE:∀x,x<n->(∀y∈N,aO n t e y x=y)->x∈H:=λx hx q=>h.gr x hx λy hy=>by
  by_cases c:y=e
  .rw[c,g.unl x hx,g.unr x hx]
  .have yN:=(hN y).mpr ⟨hy,c⟩;exact(oh g hx (Nn y yN)).mp (q y yN)
 have sqf:∀x,x<n->tb t x x∈H->∀y∈H,aO n t e (aO n t e y x) x=y:=λx hx q y hy=>by
  rw[fW g (h.pt.lt y hy) hx hx];exact(oh g (g.lt x x hx hx) (h.pt.lt y hy)).mpr (h.cm _ q _ hy)
 have one:∀x,x<n->x∉H->(TB.cen t H x).length≠H.length:=λx hx ZI q=>ZI (h.call g hx (by lia))
 have Zg:∀x,x<n->0<(TB.cen t H x).length:=λx hx=>RJ.mpr (h.cen g hx).ne;rcases Rz H.length 6 with c6|c6
 .have:H.length=1\/H.length=2\/H.length=3\/H.length=4\/H.length=5:=by lia
  rcases this with c|c|c|c|c
  .-- one thing
   have N0:N=[]:=Th.mp (by lia)
   refine nA h g λx y hx hy ZI _=>absurd (ZE x hx λz hz=>by rw[N0]at hz;cases hz) ZI
  .-- two
   match N,Nl,hN,nd,Nn,ZE with
   | [a],_,hN,nd,Nn,ZE =>
    refine nA h g λx y hx hy ZI _=>absurd (ZE x hx λz hz=>?_) ZI;have:=h.con g hN hx hz;rw[Rj.mp hz]at this ⊢;exact Rj.mp this
   | [],Nl,_,_,_,_=>simp at Nl;lia
   | _ :: _ :: _,Nl,_,_,_,_=>simp at Nl;lia
  .-- three
   match N,Nl,hN,nd,Nn,ZE with
   | [a,b],_,hN,nd,Nn,ZE =>
    have ab:a≠b:=λq=>by rw[q]at nd;simp at nd
    have aN:a∈[a,b]:=by simp
    have bN:b∈[a,b]:=by simp
    have an:=Nn a aN;have bn:=Nn b bN;have sw:∀x,x<n->x∉H->aO n t e a x=b/\aO n t e b x=a:=λx hx ZI=>by
     have c1:=h.con g hN hx aN;have c2:=h.con g hN hx bN;simp only[RA,Tb,or_false]at c1 c2;have i1:aO n t e a x≠aO n t e b x:=λq=>ab (zY g hx an bn q);rcases c1 with c1|c1
     .refine absurd (ZE x hx λz hz=>?_) ZI;simp only[RA,Tb,or_false]at hz;rcases hz with rfl|rfl
      .exact c1
      .rcases c2 with c2|c2
       .exact absurd (c1.trans c2.symm) i1
       .exact c2
     .refine⟨c1,?_⟩;rcases c2 with c2|c2
      .exact c2
      .exact absurd (c1.trans c2.symm) i1
    refine nA h g λx y hx hy ZI hyH=>ZE _ (g.lt x y hx hy) λz hz=>?_;simp only[RA,Tb,or_false]at hz;rcases hz with rfl|rfl
    .rw[<- fW g an hy hx,(sw y hy hyH).1,(sw x hx ZI).2]
    .rw[<- fW g bn hy hx,(sw y hy hyH).2,(sw x hx ZI).1]
   | [],Nl,_,_,_,_=>simp at Nl;lia
   | [_],Nl,_,_,_,_=>simp at Nl;lia
   | _ :: _ :: _ :: _,Nl,_,_,_,_=>simp at Nl;lia
  .-- four
   have m5:m<=5:=by
    rcases Rz 5 m with z|z
    .have:4 * 6<=H.length * m:=UW (by lia) z
     lia
    .exact z
   have m0:0<m:=by
    rcases Su m with z|z
    .subst z;have:=g.pos;lia
    .exact z
   by_cases m4:m=4
   .subst m4
    by_cases q:∃x,x<n/\tb t x x∉H
    .obtain⟨x,hx,hs⟩:=q;exact GS h g hm hx hs
    have sq:∀x,x<n->tb t x x∈H:=λx hx=>Sm λz=>q ⟨x,hx,z⟩
    match N,Nl,hN,nd,Nn,NH,ZE with
    | [a,b,c'],_,hN,nd,Nn,NH,ZE =>
     have ab:a≠b:=λq=>by rw[q]at nd;simp at nd
     have ac:a≠c':=λq=>by rw[q]at nd;simp at nd
     have bc:b≠c':=λq=>by rw[q]at nd;simp at nd
     have mem:∀z,z∈[a,b,c']↔z=a\/z=b\/z=c':=λz=>by simp
     have inj:∀x,x<n->∀y∈[a,b,c'],∀z∈[a,b,c'],aO n t e y x=aO n t e z x->y=z:=λx hx y hy z hz q=>zY g hx (Nn y hy) (Nn z hz) q;have aN:=(mem a).mpr (.inl rfl);have bN:=(mem b).mpr (.inr (.inl rfl));have cN:=(mem c').mpr (.inr (.inr rfl));have kinds:∀x,x<n->x∉H->∃p q r,p∈[a,b,c']/\q∈[a,b,c']/\r∈[a,b,c']/\p≠q/\p≠r/\q≠r/\(∀z∈[a,b,c'],z=p\/z=q\/z=r)/\aO n t e p x=p/\aO n t e q x=r/\aO n t e r x=q:=λx hx ZI=>by
      have f1:=(mem _).mp (h.con g hN hx aN);have f2:=(mem _).mp (h.con g hN hx bN);have f3:=(mem _).mp (h.con g hN hx cN);have i1:=λq=>ab (inj x hx a aN b bN q);have i2:=λq=>ac (inj x hx a aN c' cN q);have i3:=λq=>bc (inj x hx b bN c' cN q);have s1:=sqf x hx (sq x hx) a (NH a aN);have s2:=sqf x hx (sq x hx) b (NH b bN);have s3:=sqf x hx (sq x hx) c' (NH c' cN);rcases f1 with f1|f1|f1
      .rcases f2 with f2|f2|f2
       .exact absurd (f1.trans f2.symm) i1
       .have f3':aO n t e c' x=c':=by
         rcases f3 with f3|f3|f3
         .exact absurd (f1.trans f3.symm) i2
         .exact absurd (f2.trans f3.symm) i3
         .exact f3
        refine absurd (ZE x hx λz hz=>?_) ZI;rcases(mem z).mp hz with rfl|rfl|rfl
        .exact f1
        .exact f2
        .exact f3'
       .refine⟨a,b,c',aN,bN,cN,ab,ac,bc,λz hz=>(mem z).mp hz,f1,f2,?_⟩;rw[f2]at s2;exact s2
      .rw[f1]at s1;refine⟨c',a,b,cN,aN,bN,TR ac,TR bc,ab,λz hz=>?_,?_,f1,s1⟩
       .rcases(mem z).mp hz with z|z|z
        .exact .inr (.inl z)
        .exact .inr (.inr z)
        .exact .inl z
       .rcases f3 with f3|f3|f3
        .exact absurd (s1.trans f3.symm) i3
        .exact absurd (f1.trans f3.symm) i2
        .exact f3
      .rw[f1]at s1;refine⟨b,a,c',bN,aN,cN,TR ab,bc,ac,λz hz=>?_,?_,f1,s1⟩
       .rcases(mem z).mp hz with z|z|z
        .exact .inr (.inl z)
        .exact .inl z
        .exact .inr (.inr z)
       .rcases f2 with f2|f2|f2
        .exact absurd (s1.trans f2.symm) (TR i3)
        .exact f2
        .exact absurd (f1.trans f2.symm) i1
     refine nA h g λx y hx hy ZI hyH=>?_;obtain⟨p,q',r,pN,qN,rN,pq,pr,qr,all,e1,e2,e3⟩:=kinds x hx ZI;have xy:=g.lt x y hx hy;have cc:∀z∈[a,b,c'],aO n t e z (tb t x y)=aO n t e (aO n t e z y) x:=λz hz=>(fW g (Nn z hz) hy hx).symm;have ss:=sqf _ xy (sq _ xy) p (NH p pN);have ti:=inj y hy;have tp:=all _ (h.con g hN hy pN);have tq:=all _ (h.con g hN hy qN);have tr:=all _ (h.con g hN hy rN);have s1:=sqf y hy (sq y hy) p (NH p pN);have s2:=sqf y hy (sq y hy) q' (NH q' qN);rcases tp with tp|tp|tp
     .have tq':aO n t e q' y=r:=by
       rcases tq with tq|tq|tq
       .exact absurd (ti p pN q' qN (tp.trans tq.symm)) pq
       .have tr':aO n t e r y=r:=by
         rcases tr with tr|tr|tr
         .exact absurd (ti p pN r rN (tp.trans tr.symm)) pr
         .exact absurd (ti q' qN r rN (tq.trans tr.symm)) qr
         .exact tr
        refine absurd (ZE y hy λz hz=>?_) hyH;rcases all z hz with rfl|rfl|rfl
        .exact tp
        .exact tq
        .exact tr'
       .exact tq
      rw[tq']at s2;refine ZE _ xy λz hz=>?_;rw[cc z hz];rcases all z hz with rfl|rfl|rfl
      .rw[tp,e1]
      .rw[tq',e3]
      .rw[s2,e2]
     .rw[tp]at s1;have tr':aO n t e r y=r:=by
       rcases tr with tr|tr|tr
       .exact absurd (ti q' qN r rN (s1.trans tr.symm)) qr
       .exact absurd (ti p pN r rN (tp.trans tr.symm)) pr
       .exact tr
      rw[cc p pN,tp,e2,cc r rN,tr',e3]at ss;exact absurd ss.symm pq
     .rw[tp]at s1;have tq':aO n t e q' y=q':=by
       rcases tq with tq|tq|tq
       .exact absurd (ti r rN q' qN (s1.trans tq.symm)) (TR qr)
       .exact tq
       .exact absurd (ti p pN q' qN (tp.trans tq.symm)) pq
      rw[cc p pN,tp,e3,cc q' qN,tq',e2]at ss;exact absurd ss.symm pr
    | [],Nl,_,_,_,_,_=>simp at Nl;lia
    | [_],Nl,_,_,_,_,_=>simp at Nl;lia
    | [_,_],Nl,_,_,_,_,_=>simp at Nl;lia
    | _ :: _ :: _ :: _ :: _,Nl,_,_,_,_,_=>simp at Nl;lia
   .exact qc h g hm (by lia)
  .-- five
   have m5:m<=4:=by
    rcases Rz 4 m with z|z
    .have:5 * 5<=H.length * m:=UW (by lia) z
     lia
    .exact z
   have m0:0<m:=by
    rcases Su m with z|z
    .subst z;have:=g.pos;lia
    .exact z
   by_cases m4:m=4
   .subst m4
    by_cases q:∃x,x<n/\tb t x x∉H
    .obtain⟨x,hx,hs⟩:=q;exact GS h g hm hx hs
    have sq:∀x,x<n->tb t x x∈H:=λx hx=>Sm λz=>q ⟨x,hx,z⟩;have un:=h.pt.un g;have inv:∀x,x<n->x∉H->∀z∈H,tb t z (aO n t e z x)=e:=λx hx ZI z hz=>by
     have zn:=h.pt.lt z hz;have zc:=h.st x hx z hz;have zcn:=h.pt.lt _ zc;have u1:tb t z (aO n t e z x)∈TB.cen t H x:=by
      refine fO.mpr ⟨h.pt.cl _ hz _ zc,(oh g hx (g.lt _ _ zn zcn)).mp ?_⟩;rw[Jj g hx zn zcn,sqf x hx (sq x hx) z hz];exact h.cm _ zc _ hz
     have cd:=h.cdiv g hx;have c1:=one x hx ZI;have c0:=Zg x hx;rw[c]at cd c1;have cl1:(TB.cen t H x).length=1:=by
      have:=Nat.le_of_dvd (by decide) cd
      obtain⟨k,hk⟩:=cd;generalize (TB.cen t H x).length=v at *;have:v=1\/v=2\/v=3\/v=4:=by lia
      rcases this with rfl|rfl|rfl|rfl
      .rfl
      .lia
      .lia
      .lia
     apply Sm;intro ne;have:=sub_len (l1:=[tb t z (aO n t e z x),e]) (l2:=TB.cen t H x) (by simp[ne]) λw hw=>by
      simp only[RA,Tb,or_false]at hw;rcases hw with rfl|rfl
      .exact u1
      .exact fO.mpr ⟨un,by rw[g.unl x hx,g.unr x hx]⟩
     rw[cl1]at this;simp at this
    refine nA h g λx y hx hy ZI hyH=>h.gr _ (g.lt x y hx hy) λz hz=>(oh g (g.lt x y hx hy) (h.pt.lt z hz)).mp ?_;have zn:=h.pt.lt z hz;have zc:=h.st y hy z hz;have zcn:=h.pt.lt _ zc;rw[<- fW g zn hy hx];have i1:=inv y hy hyH z hz;have i2:=inv x hx ZI _ zc;have dn:=h.pt.lt _ (h.st x hx _ zc);exact g.dC zcn dn zn (i2.trans (i1.symm.trans (h.cm _ hz _ zc)))
   .exact qc h g hm (by lia)
 .have m3:m<=3:=by
   rcases Rz 3 m with z|z
   .have:6 * 4<=H.length * m:=UW c6 z;lia
   .exact z
  have m0:0<m:=by
   rcases Su m with z|z
   .subst z;have:=g.pos;lia
   .exact z
  exact qc h g hm (by lia)
end
noncomputable def AU(n:Nat)(t:AC)(e:Nat):Nat->AT->Prop
 | 0,F=>Gen n t e (fG n t e (Rh n)) F
 | i+1,F=>∃F',AU n t e i F'/\(((∀b∈F',tb t i b=tb t b i)/\Gen n t e (F'++[i]) F)\/(¬ (∀b∈F',tb t i b=tb t b i)/\F=F'))
theorem Fv(g:GT n t e):∀s∈fG n t e (Rh n),s<n:=λs hs=>by
 obtain⟨a,ha,b,hb,rfl⟩:=iw.mp hs;have A':=Ri.mp ha;have Zi:=Ri.mp hb;exact g.lt _ _ (g.lt _ _ (g.lt _ _ A' Zi) (g.bp A')) (g.bp Zi)
theorem wA(g:GT n t e)(M:Meta n t):∀ (i:Nat) (F:AT),i<=n->AU n t e i F->IsPart n t F/\(∀x∈F,∀y∈F,tb t x y=tb t y x)/\(∀c∈fG n t e (Rh n),c∈F)/\∀x,x<i->(∀b∈F,tb t x b=tb t b x)->x∈F
 | 0,F,_,G=>⟨Gen.part G g (Fv g),M.mixed g G,λc hc=>Gen.has G g hc (Fv g c hc),λx hx=>absurd hx (UB _)⟩
 | i+1,F,hi,⟨F',h',alt⟩=>by
  obtain⟨p1,p2,p3,p4⟩:=wA g M i F' (by lia) h'
  rcases alt with ⟨q,G⟩|⟨q,rfl⟩
  .have hS:∀s∈F'++[i],s<n:=λs hs=>by
    rcases Rq.mp hs with z|z
    .exact p1.lt s z
    .rw[Rj.mp z];lia
   have sub:∀y∈F',y∈F:=λy hy=>G.has g (SM _ hy) (p1.lt y hy);have iF:i∈F:=G.has g (RX _ (Rj.mpr rfl)) (by lia)
   refine⟨G.part g hS,HF g G hS λx hx y hy=>?_,λc hc=>sub c (p3 c hc),λx hx hc=>?_⟩
   .rcases Rq.mp hx with z|z <;> rcases Rq.mp hy with w|w
    .exact p2 x z y w
    .rw[Rj.mp w];exact(q x z).symm
    .rw[Rj.mp z];exact q y w
    .rw[Rj.mp z,Rj.mp w]
   .rcases Rz x i with z|z
    .exact sub x (p4 x z λb hb=>hc b (sub b hb))
    .have:x=i:=by lia
     rw[this];exact iF
  .refine⟨p1,p2,p3,λx hx hc=>?_⟩;rcases Rz x i with z|z
   .exact p4 x z hc
   .have:x=i:=by lia
    rw[this]at hc;exact absurd hc q
theorem uF(g:GT n t e)(M:Meta n t)(h:AU n t e n F):dH n t e F/\∀c∈fG n t e (Rh n),c∈F:=by
 obtain⟨p1,p2,p3,p4⟩:=wA g M n F (Ru _) h;refine⟨⟨p1,p2,λb hb x hx=>?_,λx hx hc=>p4 x hx hc⟩,p3⟩;have xn:=p1.lt x hx;have bb:=g.bp hb;have bx:=g.bp xn;have c1:=p3 _ (iw.mpr ⟨b,Ri.mpr hb,x,Ri.mpr xn,rfl⟩);have e1:aO n t e x b=tb t (tb t (tb t (tb t b x) (az n t e b)) (az n t e x)) x:=by
  unfold aO;rw[g.assoc _ _ x (g.lt _ _ (g.lt b x hb xn) bb) bx xn,g.iD xn,g.unr _ (g.lt _ _ (g.lt b x hb xn) bb)]
 rw[e1];exact p1.cl _ c1 _ hx
noncomputable def mkO(R W:AT)(x:Nat):Nat:=W.getD (R.idxOf x) 0
structure IsW(t:AC)(R W:AT)(m:Nat):Prop where
 len:W.length=R.length
 lt:∀w∈W,w<m
 add:∀x∈R,∀y∈R,mkO R W (tb t x y)=(mkO R W x+mkO R W y) % m
theorem j6(hx:x∈R):mkO R (R.map f) x=f x:=by
 unfold mkO;rw[Rf,Ro,jy hx];rfl
theorem eE:∀ {R:AT},R.Nodup->∀ {i x:Nat},R[i]?=some x->R.idxOf x=i
 | [],_,i,x,h=>by simp at h
 | a :: R,nd,0,x,h=>by
  simp at h;subst h;simp
 | a :: R,nd,i+1,x,h=>by
  simp at h;rw[R8]at nd;have hx:=Rb h;have ne:a≠x:=λq=>nd.1 (q ▸ hx);rw[List.idxOf_cons,show (a == x)=false from by simpa using ne,eE nd.2 h]
  rfl
theorem map_mk(nd:R.Nodup)(h:W.length=R.length):R.map (mkO R W)=W:=by
 apply SV;intro i;rw[Ro]
 by_cases c:i<R.length
 .have e1:=Q8 c;rw[e1];show some (mkO R W R[i])=_;unfold mkO;rw[eE nd e1,Rf,Q8 (by lia)]
  rfl
 .rw[RF (by lia),RF (by lia)]
  rfl
theorem IsW.mlt(h:IsW t R W m)(hx:x∈R):mkO R W x<m:=by
 have il:=R6 hx;have:=h.len;unfold mkO;rw[Rf,Q8 (by lia)]
 exact h.lt _ (Sd _)
theorem CQ(p:IsPart n t R)(hl:∀x∈R,f x<m)(ha:∀x∈R,∀y∈R,f (tb t x y)=(f x+f y) % m):IsW t R (R.map f) m where
 len:=by simp
 lt:=λw hw=>by
  obtain⟨x,hx,rfl⟩:=Rw.mp hw;exact hl x hx
 add:=λx hx y hy=>by
  rw[j6 (p.cl x hx y hy),j6 hx,j6 hy];exact ha x hx y hy
theorem F7(h:a<m)(q:a=(a+a) % m):a=0:=by
 rcases Rz (a+a) m with c|c
 .rw[R4 c]at q;lia
 .rw[WI c,R4 (by lia)]at q;lia
theorem IsW.un(h:IsW t R W m)(g:GT n t e)(p:IsPart n t R):mkO R W e=0:=by
 have q:=h.add e (p.un g) e (p.un g);rw[g.unl _ g.elt]at q;exact F7 (h.mlt (p.un g)) q
theorem IsPart.pw{R:AT}(p:IsPart n t R)(g:GT n t e){x:Nat}(hx:x∈R):∀i,ay t e x i∈R
 | 0=>p.un g
 | i+1=>p.cl _ (p.pw g hx i) _ hx
theorem IsW.pow{R W:AT}{m:Nat}(h:IsW t R W m)(g:GT n t e)(p:IsPart n t R){x:Nat}(hx:x∈R):∀i,mkO R W (ay t e x i)=i * mkO R W x % m
 | 0=>by
  rw[Vw,Ut];exact h.un g p
 | i+1=>by
  show mkO R W (tb t (ay t e x i) x)=_;rw[h.add _ (p.pw g hx i) _ hx,h.pow g p hx i,Ts,U5]
structure cV(n:Nat)(t:AC)(e:Nat)(R M:AT)(x m k:Nat):Prop where
 pt:IsPart n t R
 w:IsW t R M m
 xn:x<n
 st:∀h∈R,aO n t e h x∈R
 kp:∀h∈R,mkO R M (aO n t e h x)=mkO R M h
 k1:1<=k
 kin:ay t e x k∈R
 mV:∀i,1<=i->i<k->ay t e x i∉R
 m1:0<m
 all:ay t e x m=e
theorem KC(g:GT n t e)(ha:a<n)(hb:b<n):tb t b a=tb t (aO n t e a b) b:=by
 unfold aO;rw[g.assoc _ _ _ (g.lt _ _ hb ha) (g.bp hb) hb,g.iD hb,g.unr _ (g.lt _ _ hb ha)]
theorem cV.cj(T:cV n t e R M x m k)(g:GT n t e):∀i,∀h∈R,∃c,c∈R/\mkO R M c=mkO R M h/\tb t (ay t e x i) h=tb t c (ay t e x i)
 | 0,h,hh=>⟨h,hh,rfl,by
  have hn:=T.pt.lt h hh;show tb t e h=tb t h e;rw[g.unl _ hn,g.unr _ hn]⟩
 | i+1,h,hh=>by
  have hn:=T.pt.lt h hh;obtain⟨c,c1,c2,c3⟩:=T.cj g i _ (T.st h hh);have cn:=T.pt.lt c c1;have pn:=bu g T.xn i;have kn:=T.pt.lt _ (T.st h hh);refine⟨c,c1,c2.trans (T.kp h hh),?_⟩;show tb t (tb t (ay t e x i) x) h=tb t c (tb t (ay t e x i) x);rw[g.assoc _ _ _ pn T.xn hn,KC g hn T.xn,<- g.assoc _ _ _ pn kn T.xn,c3,g.assoc _ _ _ cn pn T.xn]
noncomputable def lay(t:AC)(e x:Nat)(R:AT)(k:Nat):AT:=(Rh k).flatMap λj=>R.map λh=>tb t h (ay t e x j)
theorem zT:lay t e x R (k+1)=lay t e x R k++R.map λh=>tb t h (ay t e x k):=by
 unfold lay;rw[UL,Yr];simp
theorem eT :y∈lay t e x R k↔∃j,j<k/\∃h,h∈R/\tb t h (ay t e x j)=y:=by
 unfold lay;rw[List.mem_flatMap];constructor
 .rintro⟨j,hj,hy⟩;obtain⟨h,hh,q⟩:=Rw.mp hy;exact⟨j,Ri.mp hj,h,hh,q⟩
 .rintro⟨j,hj,h,hh,q⟩;exact⟨j,Ri.mpr hj,Rw.mpr ⟨h,hh,q⟩⟩
theorem vA:(lay t e x R k).length=k * R.length:=by
 induction k with
 | zero=>simp[lay]
 | succ k ih=>rw[zT,Rt,ih,Rc,U5]
theorem cV.one(T:cV n t e R M x m k)(g:GT n t e){h':Nat}(hh:h∈R)(ZL:h'∈R)(hi:i<k)(hj:j<k)(q:tb t h (ay t e x i)=tb t h' (ay t e x j)):i=j/\h=h':=by
 have pn:=λj=>bu g T.xn j;have key:∀ {h h' i j:Nat},h∈R->h'∈R->i<=j->j<k->tb t h (ay t e x i)=tb t h' (ay t e x j)->i=j:=by
  intro h h' i j hh ZL ij hj e1;have hn:=T.pt.lt h hh;have Z':=T.pt.lt h' ZL;rcases Rz i j with c|c
  .exfalso
   rw[show j=(j - i)+i by lia,cO g T.xn,<- g.assoc _ _ _ Z' (pn _) (pn _)]at e1
   have e2:=g.oR (pn i) hn (g.lt _ _ Z' (pn _)) e1;refine T.mV (j - i) (by lia) (by lia) ?_
   have e3:ay t e x (j - i)=tb t (az n t e h') h:=by
    rw[e2,<- g.assoc _ _ _ (g.bp Z') Z' (pn _),g.iD Z',g.unl _ (pn _)]
   rw[e3];exact T.pt.cl _ (T.pt.bk g ZL) _ hh
  .lia
 have eij:i=j:=by
  rcases Nat.le_total i j with c|c
  .exact key hh ZL c hj q
  .exact(key ZL hh c hi q.symm).symm
 subst eij;exact⟨rfl,g.oR (pn i) (T.pt.lt h hh) (T.pt.lt h' ZL) q⟩
theorem cV.nd(T:cV n t e R M x m k)(g:GT n t e):(lay t e x R k).Nodup:=by
 unfold lay List.Nodup;rw[List.pairwise_flatMap];have pn:=λj=>bu g T.xn j;refine⟨λj _=>?_,?_⟩
 .exact f9 (aB T.pt.srt) λa ha b hb q=>g.oR (pn j) (T.pt.lt a ha) (T.pt.lt b hb) q
 .refine List.Pairwise.imp_of_mem ?_ S3;intro i j hi hj ij y hy z hz q;obtain⟨h,hh,rfl⟩:=Rw.mp hy;obtain⟨h',ZL,q'⟩:=Rw.mp hz;have:=(T.one g hh ZL (Ri.mp hi) (Ri.mp hj) (q.trans q'.symm)).1;lia
theorem cV.lt(T:cV n t e R M x m k)(g:GT n t e):∀y∈lay t e x R k,y<n:=λy hy=>by
 obtain⟨j,_,h,hh,rfl⟩:=eT.mp hy;exact g.lt _ _ (T.pt.lt h hh) (bu g T.xn j)
theorem cV.mul(T:cV n t e R M x m k)(g:GT n t e){h':Nat}(hh:h∈R)(ZL:h'∈R)(hi:i<k)(hj:j<k) :
  ∃b l,b∈R/\l<k/\tb t (tb t h (ay t e x i)) (tb t h' (ay t e x j))=tb t b (ay t e x l) /\
   ((i+j<k/\l=i+j/\mkO R M b=(mkO R M h+mkO R M h') % m)\/(k<=i+j/\l=i+j - k/\mkO R M b=(mkO R M h+mkO R M h'+mkO R M (ay t e x k)) % m)):=by
 obtain⟨c,c1,c2,c3⟩:=T.cj g i h' ZL;have pn:=λj=>bu g T.xn j;have hn:=T.pt.lt h hh;have Z':=T.pt.lt h' ZL;have cn:=T.pt.lt c c1;have hc:=T.pt.cl h hh c c1;have hcn:=T.pt.lt _ hc;have e1:tb t (tb t h (ay t e x i)) (tb t h' (ay t e x j))=tb t (tb t h c) (ay t e x (i+j)):=by
  rw[g.assoc _ _ _ hn (pn i) (g.lt _ _ Z' (pn j)),<- g.assoc _ _ _ (pn i) Z' (pn j),c3,g.assoc _ _ _ cn (pn i) (pn j),<- cO g T.xn,<- g.assoc _ _ _ hn cn (pn _)]
 have e2:mkO R M (tb t h c)=(mkO R M h+mkO R M h') % m:=by rw[T.w.add h hh c c1,c2]
 rcases Rz (i+j) k with v|v
 .exact⟨tb t h c,i+j,hc,v,e1,.inl ⟨v,rfl,e2⟩⟩
 .refine⟨tb t (tb t h c) (ay t e x k),i+j - k,T.pt.cl _ hc _ T.kin,by lia,?_,.inr ⟨v,rfl,?_⟩⟩
  .rw[e1,g.assoc _ _ _ hcn (pn k) (pn _),<- cO g T.xn,show k+(i+j - k)=i+j by lia]
  .rw[T.w.add _ hc _ T.kin,e2,Ts]
theorem cV.gen(T:cV n t e R M x m k)(g:GT n t e)(hs:P.Pairwise (· < ·))(hm:∀y,y∈P↔y∈lay t e x R k):Gen n t e (R++[x]) P where
 srt:=hs
 lt:=λy hy=>T.lt g y ((hm y).mp hy)
 un:=(hm e).mpr (eT.mpr ⟨0,T.k1,e,T.pt.un g,g.unl _ g.elt⟩)
 cl:=λy hy s hs=>by
  obtain⟨i,hi,h,hh,rfl⟩:=eT.mp ((hm y).mp hy);rcases Rq.mp hs with w|w
  .obtain⟨b,l,b1,b2,b3,_⟩:=T.mul g hh w hi T.k1 (j:=0);have:tb t s (ay t e x 0)=s:=g.unr s (T.pt.lt s w);rw[this]at b3;exact(hm _).mpr (eT.mpr ⟨l,b2,b,b1,b3.symm⟩)
  .have es:s=x:=Rj.mp w;subst es;have hn:=T.pt.lt h hh;have pn:=λj=>bu g T.xn j;have e1:tb t (tb t h (ay t e s i)) s=tb t h (ay t e s (i+1)):=g.assoc _ _ _ hn (pn i) T.xn;rw[e1];rcases Rz (i+1) k with v|v
   .exact(hm _).mpr (eT.mpr ⟨i+1,v,h,hh,rfl⟩)
   .have:i+1=k:=by lia
    rw[this];exact(hm _).mpr (eT.mpr ⟨0,T.k1,_,T.pt.cl _ hh _ T.kin,g.unr _ (g.lt _ _ hn (pn k))⟩)
 wd:=λy hy=>by
  obtain⟨i,hi,h,hh,rfl⟩:=eT.mp ((hm y).mp hy);have hn:=T.pt.lt h hh;refine⟨h :: Rn i x,λz hz=>?_,?_⟩
  .rcases RA.mp hz with w|w
   .exact Rq.mpr (.inl (w ▸ hh))
   .exact Rq.mpr (.inr (by rw[UM w];exact Rr))
  .show prd t (tb t e h) (Rn i x)=_;rw[g.unl _ hn,AI g hn (λz hz=>by rw[UM hz];exact T.xn),Aa]
noncomputable def ixO(n:Nat)(t:AC)(e:Nat)(R:AT)(x k y:Nat):Nat:=((Rh k).find? λi=>decide (tb t y (az n t e (ay t e x i))∈R)).getD 0
noncomputable def bsO(n:Nat)(t:AC)(e:Nat)(R:AT)(x k y:Nat):Nat:=tb t y (az n t e (ay t e x (ixO n t e R x k y)))
theorem cV.org(T:cV n t e R M x m k)(g:GT n t e)(hh:h∈R)(hi:i<k):ixO n t e R x k (tb t h (ay t e x i))=i/\bsO n t e R x k (tb t h (ay t e x i))=h:=by
 have pn:=λj=>bu g T.xn j;have hn:=T.pt.lt h hh;have e0:tb t (tb t h (ay t e x i)) (az n t e (ay t e x i))=h:=by
  rw[g.assoc _ _ _ hn (pn i) (g.bp (pn i)),g.i9 (pn i),g.unr _ hn]
 have e1:ixO n t e R x k (tb t h (ay t e x i))=i:=by
  unfold ixO;cases hf:(Rh k).find? λj=>decide (tb t (tb t h (ay t e x i)) (az n t e (ay t e x j))∈R) with
  | none =>
   have:=List.find?_eq_none.mp hf i (Ri.mpr hi);rw[e0]at this;exact absurd (decide_eq_true hh) this
  | some j =>
   have c1:tb t (tb t h (ay t e x i)) (az n t e (ay t e x j))∈R:=by
    have:=List.find?_some hf;exact of_decide_eq_true this
   have c2:=Ri.mp (WS hf);have c3:tb t (tb t (tb t h (ay t e x i)) (az n t e (ay t e x j))) (ay t e x j)=tb t h (ay t e x i):=by
    have:=g.lt _ _ hn (pn i);rw[g.assoc _ _ _ this (g.bp (pn j)) (pn j),g.iD (pn j),g.unr _ this]
   exact(T.one g c1 hh c2 hi c3).1
 refine⟨e1,?_⟩;unfold bsO;rw[e1];exact e0
noncomputable def gY(n:Nat)(t:AC)(e:Nat)(R M:AT)(x m k y z:Nat):Nat:=(mkO R M (bsO n t e R x k z)+ixO n t e R x k z * y) % m
theorem cV.gy(T:cV n t e R M x m k)(g:GT n t e)(hh:h∈R)(hi:i<k)(y:Nat):gY n t e R M x m k y (tb t h (ay t e x i))=(mkO R M h+i * y) % m:=by
 unfold gY;rw[(T.org g hh hi).1,(T.org g hh hi).2]
theorem cV.add(T:cV n t e R M x m k)(g:GT n t e)(hy:k * y % m=mkO R M (ay t e x k)){u v:Nat}(hu:u∈lay t e x R k)(hv:v∈lay t e x R k) :
  gY n t e R M x m k y (tb t u v)=(gY n t e R M x m k y u+gY n t e R M x m k y v) % m:=by
 obtain⟨i,hi,h,hh,rfl⟩:=eT.mp hu;obtain⟨j,hj,h',ZL,rfl⟩:=eT.mp hv;obtain⟨b,l,b1,b2,b3,b4⟩:=T.mul g hh ZL hi hj;rw[b3,T.gy g b1 b2,T.gy g hh hi,T.gy g ZL hj,<- Xl];rcases b4 with ⟨c1,c2,c3⟩|⟨c1,c2,c3⟩
 .rw[c2,c3,Ts,Ys]
  congr 1
  lia
 .rw[c2,c3,<- hy,Ts,Nat.add_right_comm,UJ,Vf,<- Ys,show i+j - k+k=i+j by lia,Ys]
  congr 1
  lia
theorem cV.keep(T:cV n t e R M x m k)(g:GT n t e)(y:Nat)(hh:h∈R):gY n t e R M x m k y h=mkO R M h:=by
 have:=T.gy g hh T.k1 y;rw[show ay t e x 0=e from rfl,g.unr _ (T.pt.lt h hh),Vw,TN,R4 (T.w.mlt hh)]at this;o_rec
theorem cV.dvd(T:cV n t e R M x m k)(g:GT n t e)(hj:ay t e x j∈R):k ∣ j:=by
 have pn:=λj=>bu g T.xn j;have e1:ay t e x j=tb t (ay t e x (k * (j / k))) (ay t e x (j % k)):=by rw[<- cO g T.xn,UK]
 have mul:∀i,ay t e x (k * i)∈R:=λi=>by
  induction i with
  | zero=>exact T.pt.un g
  | succ i ih=>rw[T5,cO g T.xn];exact T.pt.cl _ ih _ T.kin
 have e2:ay t e x (j % k)∈R:=by
  have:ay t e x (j % k)=tb t (az n t e (ay t e x (k * (j / k)))) (ay t e x j):=by
   rw[e1,<- g.assoc _ _ _ (g.bp (pn _)) (pn _) (pn _),g.iD (pn _),g.unl _ (pn _)]
  rw[this];exact T.pt.cl _ (T.pt.bk g (mul _)) _ hj
 rcases Su (j % k) with c|c
 .exact SJ c
 .exact absurd e2 (T.mV _ c (RT _ T.k1))
theorem cV.pm(T:cV n t e R M x m k)(g:GT n t e):∀i,mkO R M (ay t e x (k * i))=i * mkO R M (ay t e x k) % m
 | 0=>by
  rw[Vw,Ut];exact T.w.un g T.pt
 | i+1=>by
  have mul:∀i,ay t e x (k * i)∈R:=λi=>by
   induction i with
   | zero=>exact T.pt.un g
   | succ i ih=>rw[T5,cO g T.xn];exact T.pt.cl _ ih _ T.kin
  rw[T5,cO g T.xn,T.w.add _ (mul i) _ T.kin,T.pm g i,Ts,U5]
theorem cV.QN(T:cV n t e R M x m k)(g:GT n t e):((Rh m).filter λy=>decide (k * y % m=mkO R M (ay t e x k))).length=k:=by
 obtain⟨q,rfl⟩:=T.dvd g (j:=m) (by rw[T.all];exact T.pt.un g)
 have q1:0<q:=Nat.pos_of_mul_pos_left T.m1;have k1:=T.k1;have am:=T.w.mlt T.kin;have d1:k ∣ mkO R M (ay t e x k):=by
  have e1:=T.pm g q;rw[T.all,T.w.un g T.pt]at e1;obtain⟨c,hc⟩:=SJ e1.symm;refine⟨c,?_⟩;have:q * mkO R M (ay t e x k)=q * (k * c):=by rw[hc,Ug k q,UQ]
  exact T2 q1 this
 obtain⟨a,ha⟩:=d1;rw[ha]at am ⊢;have aq:a<q:=Nat.lt_of_mul_lt_mul_left am;have hl:((Rh (k * q)).filter λy=>decide (k * y % (k * q)=k * a))=(Rh k).map λj=>a+j * q:=by
  refine eG (Ua _ S3) ?_ λy=>?_
  .rw[Vd];refine S3.imp λz=>?_;have:=Nat.mul_lt_mul_of_pos_right z q1;lia
  .rw[RL,Ri,decide_eq_true_iff,Nat.mul_mod_mul_left,Rw];constructor
   .rintro⟨h1,h2⟩;have h3:=T2 k1 h2;refine⟨y / q,Ri.mpr (SN (by rw[Ug];exact h1)),?_⟩
    have:=UK y q;rw[h3,Ug q]at this;lia
   .rintro⟨j,hj,rfl⟩;have f':=Ri.mp hj;refine⟨?_,?_⟩
    .have:(j+1) * q<=k * q:=Ub q f';rw[U5]at this;lia
    .rw[Nat.add_mul_mod_self_right,R4 aq]
 rw[hl,Rc,RP]
theorem vo{α β:Type}{f:α->β}:∀ {l:List α},l.Nodup->(∀x∈l,∀y∈l,f x=f y->x=y)->(l.map f).Nodup
 | [],_,_=>Vj
 | a :: l,nd,h=>by
  rw[R8]at nd;rw[Si,R8];refine⟨λz=>?_,vo nd.2 λx hx y hy=>h x (Rp _ hx) y (Rp _ hy)⟩;obtain⟨y,hy,q⟩:=Rw.mp z;have:=h y (Rp _ hy) a Rr q;subst this;exact nd.1 hy
section
structure Taken(n:Nat)(t:AC)(e:Nat)(R M:AT)(x m:Nat)(P:AT)(L:AC):Prop where
 gen:Gen n t e (R++[x]) P
 srt:L.Nodup
 len:L.length * R.length=P.length
 mem:∀W,W∈L↔IsW t P W m/\∀h∈R,mkO P W h=mkO R M h
noncomputable def Bv(t:AC)(e:Nat)(R M:AT)(x m k:Nat):AT:=(Rh m).filter λy=>decide (k * y % m=mkO R M (ay t e x k))
theorem Hu{L:AT}(h1:P.Nodup)(h2:L.Nodup)(h:∀y,y∈P↔y∈L):P.length=L.length:=by
 have a:=sub_len h1 λy hy=>(h y).mp hy;have b:=sub_len h2 λy hy=>(h y).mpr hy;lia
theorem cV.taken(T:cV n t e R M x m k)(g:GT n t e)(hs:P.Pairwise (· < ·))(hm:∀y,y∈P↔y∈lay t e x R k)(hp:L.Perm ((Bv t e R M x m k).map λy=>P.map (gY n t e R M x m k y))) :
  Taken n t e R M x m P L:=by
 have G:=T.gen g hs hm;have hS:∀s∈R++[x],s<n:=λs hs=>by
  rcases Rq.mp hs with z|z
  .exact T.pt.lt s z
  .rw[Rj.mp z];exact T.xn
 have pp:=G.part g hS;have sub:∀h∈R,h∈P:=λh hh=>G.has g (Rq.mpr (.inl hh)) (T.pt.lt h hh);have xP:x∈P:=G.has g (Rq.mpr (.inr Rr)) T.xn;have om:∀y,y∈Bv t e R M x m k↔y<m/\k * y % m=mkO R M (ay t e x k):=λy=>by
  unfold Bv;rw[RL,Ri,decide_eq_true_iff]
 have k1:=T.k1;have nd0:((Bv t e R M x m k).map λy=>P.map (gY n t e R M x m k y)).Nodup:=by
  refine vo (Ua _ Tv) λy hy y' C' q=>?_;obtain⟨a1,a2⟩:=(om y).mp hy;obtain⟨b1,b2⟩:=(om y').mp C';rcases Rz 1 k with c|c
  .have e1:=congrArg (λl=>mkO P l x) q;simp only[j6 xP]at e1;have ex:tb t e (ay t e x 1)=x:=by rw[g.unl _ (bu g T.xn 1),oq g T.xn]
   have key:∀y,y<m->gY n t e R M x m k y x=y:=λy hy=>by
    have:=T.gy g (T.pt.un g) c y;rw[ex,T.w.un g T.pt,Tj,YS,R4 hy]at this;o_rec
   rw[key y a1,key y' b1]at e1;exact e1
  .have:k=1:=by lia
   rw[this,YS,R4 a1]at a2;rw[this,YS,R4 b1]at b2;rw[a2,b2]
 refine⟨G,hp.nodup_iff.mpr nd0,?_,λW=>?_⟩
 .have ol:(Bv t e R M x m k).length=k:=T.QN g;rw[hp.length_eq,Rc,ol,<- vA (t:=t) (e:=e) (x:=x)];exact(Hu (aB hs) (T.nd g) hm).symm
 .rw[hp.mem_iff,Rw];constructor
  .rintro⟨y,hy,rfl⟩;obtain⟨a1,a2⟩:=(om y).mp hy;refine⟨CQ pp (λz _=>RT _ T.m1) λu hu v hv=>T.add g a2 ((hm u).mp hu) ((hm v).mp hv),λh hh=>?_⟩;rw[j6 (sub h hh)];exact T.keep g y hh
  .rintro⟨w,hw⟩;have e1:=w.pow g pp xP k;rw[hw _ T.kin]at e1;refine⟨mkO P W x,(om _).mpr ⟨w.mlt xP,e1.symm⟩,?_⟩;rw[<- map_mk (aB hs) w.len];refine UO λz hz=>?_;obtain⟨i,hi,h,hh,rfl⟩:=eT.mp ((hm z).mp hz);rw[map_mk (aB hs) w.len,T.gy g hh hi,w.add _ (sub h hh) _ (pp.pw g xP i),w.pow g pp xP i,hw h hh,UJ]
structure fH(n:Nat)(t:AC)(e:Nat)(D S:AT)(m:Nat)(R:AT)(F:AC):Prop where
 pt:IsPart n t R
 lo:∀d∈D,d∈R
 hi:∀y∈R,y∈S
 nd:F.Nodup
 mem:∀W,W∈F↔IsW t R W m/\∀d∈D,mkO R W d=0
 len:F.length * D.length=R.length
structure M9(t:AC)(D S:AT)(m:Nat)(L:AC):Prop where
 srt:L.Nodup
 mem:∀W,W∈L↔IsW t S W m
 len:L.length * D.length=S.length
variable {D:AT}
theorem rK(g:GT n t e)(p:IsPart n t S):∀s∈fG n t e S,s∈S:=λs hs=>by
 obtain⟨a,ha,b,hb,rfl⟩:=iw.mp hs;exact p.cl _ (p.cl _ (p.cl _ ha _ hb) _ (p.bk g ha)) _ (p.bk g hb)
theorem K1(g:GT n t e)(p:IsPart n t S)(G:Gen n t e (fG n t e S) D):∀d∈D,d∈S :=
 G.least (p.un g) λx hx s hs=>p.cl _ hx _ (rK g p s hs)
theorem fY{l:Nat} :mkO R (Rn l 0) y=0:=by
 unfold mkO;rw[Rf,UN]
 split <;> rfl
theorem fH.start(g:GT n t e)(p:IsPart n t S)(G:Gen n t e (fG n t e S) D)(m1:0<m):fH n t e D S m D [Rn D.length 0]:=by
 have pd:=G.part g λs hs=>p.lt s (rK g p s hs);refine⟨pd,λd hd=>hd,K1 g p G,by simp,λW=>?_,by simp⟩
 rw[Rj];constructor
 .intro q;subst q;refine⟨⟨by simp,λw hw=>by rw[UM hw];exact m1,λx _ y _=>?_⟩,λd _=>fY⟩
  rw[fY,fY,fY,Ut]
 .rintro⟨w,h⟩;rw[<- map_mk (aB pd.srt) w.len];apply SV;intro i;rw[Ro]
  by_cases c:i<D.length
  .rw[Q8 c,UN,if_pos c];show some (mkO D W D[i])=some 0;rw[h _ (Sd c)]
  .rw[RF (by lia),UN,if_neg c]
   rfl
theorem fH.on{F:AC}(I:fH n t e D S m R F)(g:GT n t e)(p:IsPart n t S)(G:Gen n t e (fG n t e S) D)(hx:x∈S)(hM:M∈F)(k1:1<=k)(kin:ay t e x k∈R)(mV:∀i,1<=i->i<k->ay t e x i∉R)(m1:0<m)(all:ay t e x m=e) :
  cV n t e R M x m k:=by
 obtain⟨w,z⟩:=(I.mem M).mp hM;have xn:=p.lt x hx;have key:∀h∈R,∃c,c∈D/\aO n t e h x=tb t c h:=λh hh=>by
  have hn:=I.pt.lt h hh;refine⟨tb t (tb t (tb t x h) (az n t e x)) (az n t e h),?_,?_⟩
  .have hs:tb t (tb t (tb t x h) (az n t e x)) (az n t e h)∈fG n t e S:=iw.mpr ⟨x,hx,h,I.hi h hh,rfl⟩;exact G.has g hs (p.lt _ (rK g p _ hs))
  .unfold aO;have a1:=g.lt _ _ (g.lt _ _ xn hn) (g.bp xn);rw[g.assoc _ _ _ a1 (g.bp hn) hn,g.iD hn,g.unr _ a1]
 refine⟨I.pt,w,xn,λh hh=>?_,λh hh=>?_,k1,kin,mV,m1,all⟩
 .obtain⟨c,c1,c2⟩:=key h hh;rw[c2];exact I.pt.cl _ (I.lo c c1) _ hh
 .obtain⟨c,c1,c2⟩:=key h hh;rw[c2,w.add _ (I.lo c c1) _ hh,z c c1,Tj,R4 (w.mlt hh)]
theorem Dt{α:Type}{q:Nat}:∀ (Ls:List (List α)) (a b:Nat),(∀L∈Ls,L.length * a=b)->Ls.flatten.length * a=Ls.length * b
 | [],a,b,_=>by simp
 | L :: Ls,a,b,h=>by
  rw[TZ,Rt,Ys,h L Rr,Dt (q:=q) Ls a b λL hL=>h L (Rp _ hL),Sb,U5,Ue]
theorem fH.step{F:AC}(I:fH n t e D S m R F)(g:GT n t e)(p:IsPart n t S)(hx:x∈S)(hl:Ls.length=F.length)
  (hT:∀ (i:Nat) (M:AT) (L:AC),F[i]?=some M->Ls[i]?=some L->Taken n t e R M x m P L):fH n t e D S m P Ls.flatten:=by
 have r1:0<R.length:=RJ.mpr I.pt.ne;have f1:0<F.length:=by
  rcases Su F.length with c|c
  .have:=I.len;rw[c,Vw]at this;lia
  .exact c
 have T0:=hT 0 _ _ (Q8 f1) (Q8 (by lia))
 have G:=T0.gen;have xn:=p.lt x hx;have hS:∀s∈R++[x],s<n:=λs hs=>by
  rcases Rq.mp hs with z|z
  .exact I.pt.lt s z
  .rw[Rj.mp z];exact xn
 have pp:=G.part g hS;have sub:∀h∈R,h∈P:=λh hh=>G.has g (Rq.mpr (.inl hh)) (I.pt.lt h hh);have rl:∀M∈F,M.length=R.length:=λM hM=>((I.mem M).mp hM).1.len;have ext:∀ {M M' W:AT},M∈F->M'∈F->(∀h∈R,mkO P W h=mkO R M h)->(∀h∈R,mkO P W h=mkO R M' h)->M=M':=λ{M M' W} hM hM' a b=>by
  rw[<- map_mk (aB I.pt.srt) (rl M hM),<- map_mk (aB I.pt.srt) (rl M' hM')];exact UO λh hh=>(a h hh).symm.trans (b h hh)
 refine⟨pp,λd hd=>sub d (I.lo d hd),?_,?_,λW=>?_,?_⟩
 .exact G.least (p.un g) λy hy s hs=>p.cl _ hy _ (by
   rcases Rq.mp hs with z|z
   .exact I.hi s z
   .rw[Rj.mp z];exact hx)
 .unfold List.Nodup;rw[List.pairwise_flatten];refine⟨λL hL=>?_,?_⟩
  .obtain⟨i,hi⟩:=RD hL;have il:i<F.length:=by rw[<- hl];exact(Q9.mp hi).1
   exact(hT i _ L (Q8 il) hi).srt
  .rw[R7];intro i j hi hj ij W hW W' hW' q;subst q;have i2:i<F.length:=by lia
   have j2:j<F.length:=by lia
   have a:=((hT i _ _ (Q8 i2) (Q8 hi)).mem W).mp hW;have b:=((hT j _ _ (Q8 j2) (Q8 hj)).mem W).mp hW';have q:=ext (Sd i2) (Sd j2) a.2 b.2;exact(R7.mp I.nd i j i2 j2 ij) q
 .rw[TQ];constructor
  .rintro⟨L,hL,hW⟩;obtain⟨i,hi⟩:=RD hL;have il:i<F.length:=by rw[<- hl];exact(Q9.mp hi).1
   have a:=((hT i _ L (Q8 il) hi).mem W).mp hW;refine⟨a.1,λd hd=>?_⟩;rw[a.2 d (I.lo d hd)];exact((I.mem _).mp (Sd il)).2 d hd
  .rintro⟨w,z⟩;have hM:R.map (mkO P W)∈F:=(I.mem _).mpr ⟨CQ I.pt (λy hy=>w.mlt (sub y hy)) λy hy y' C'=>w.add y (sub y hy) y' (sub y' C'),λd hd=>by
    rw[j6 (I.lo d hd)];exact z d hd⟩
   obtain⟨i,hi⟩:=RD hM;have il:i<Ls.length:=by rw[hl];exact(Q9.mp hi).1
   exact⟨Ls[i],Sd il,((hT i _ _ hi (Q8 il)).mem W).mpr ⟨w,λh hh=>(j6 hh).symm⟩⟩
 .have sl:=Dt (q:=0) Ls R.length P.length λL hL=>by
   obtain⟨i,hi⟩:=RD hL;have il:i<F.length:=by rw[<- hl];exact(Q9.mp hi).1
   exact(hT i _ L (Q8 il) hi).len
  rw[hl]at sl;have il:=I.len;refine Nat.eq_of_mul_eq_mul_right r1 ?_
  calc Ls.flatten.length * D.length * R.length=Ls.flatten.length * R.length * D.length:=by rw[Nat.mul_right_comm]
   _=F.length * P.length * D.length:=by rw[sl]
   _=F.length * D.length * P.length:=by rw[Nat.mul_right_comm]
   _=P.length * R.length:=by rw[il,Ug]
theorem Ii(g:GT n t e)(p:IsPart n t S)(G:Gen n t e (fG n t e S) D)(w:IsW t S W m):∀d∈D,mkO S W d=0:=by
 have m1:0<m:=Sf (R5 _) (w.mlt (p.un g));have bk:∀a∈S,(mkO S W a+mkO S W (az n t e a)) % m=0:=λa ha=>by
  rw[<- w.add a ha _ (p.bk g ha),g.i9 (p.lt a ha),w.un g p]
 have c0:∀s∈fG n t e S,mkO S W s=0:=λs hs=>by
  obtain⟨a,ha,b,hb,rfl⟩:=iw.mp hs;have ab:=p.cl a ha b hb;have a':=p.bk g ha;have b':=p.bk g hb;rw[w.add _ (p.cl _ ab _ a') _ b',w.add _ ab _ a',w.add a ha b hb,Ts,Vf,Ts,<- Vf];rw[show mkO S W a+mkO S W b+mkO S W (az n t e a)+mkO S W (az n t e b)=(mkO S W a+mkO S W (az n t e a))+(mkO S W b+mkO S W (az n t e b)) by lia,Xl,bk a ha,bk b hb,TN,Ut]
 have:=G.least (R:=S.filter λd=>decide (mkO S W d=0)) (RL.mpr ⟨p.un g,decide_eq_true (w.un g p)⟩) λy hy s hs=>by
  obtain⟨y1,y2⟩:=RL.mp hy;have sS:=rK g p s hs;refine RL.mpr ⟨p.cl _ y1 _ sS,decide_eq_true ?_⟩;rw[w.add y y1 s sS,of_decide_eq_true y2,c0 s hs,TN,Ut]
 exact λd hd=>of_decide_eq_true (RL.mp (this d hd)).2
theorem fH.fin{F:AC}(I:fH n t e D S m R F)(g:GT n t e)(p:IsPart n t S)(G:Gen n t e (fG n t e S) D)(hS:∀y∈S,y∈R)(hp:L.Perm F):M9 t D S m L:=by
 have eq:R=S:=eG I.pt.srt p.srt λy=>⟨I.hi y,hS y⟩;subst eq;refine⟨hp.nodup_iff.mpr I.nd,λW=>?_,by rw[hp.length_eq];exact I.len⟩
 rw[hp.mem_iff,I.mem];exact⟨λz=>z.1,λz=>⟨z,Ii g p G z⟩⟩
theorem fH.few{F:AC}(I:fH n t e D S m R F):F.length<=n:=by
 have il:=I.len;have:=I.pt.len;rcases Su D.length with c|c
 .rw[c,Us]at il;have:=RJ.mpr I.pt.ne;lia
 .have:=Ud F.length c;lia
theorem fH.some{F:AC}(I:fH n t e D S m R F):0<F.length:=by
 have:=RJ.mpr I.pt.ne;rcases Su F.length with c|c
 .have:=I.len;rw[c,Vw]at this;lia
 .exact c
end
variable (T:Txt K mg)
section
variable {P:RB}{w:World} 
inductive yH(K:Q7)(vs:Y6)(H:Hp)(Q:VK)(E:XK):Prop
 | mk (v:V) (n:Nat) (t:AC) (_:vs=[v]) (_:At K H v t) (_:Sq n t) (_:Q .non H)
theorem yu:Fa P w base T.jj 1 (yH K):=by
 exists T.jj.ok km
 obtain⟨v,n,t,rfl,hT,sq,q⟩:=h;refine⟨_,(aa (pz 1 km.nd (pln K T.bo (pv 0)))
   (aa (aK (PW.pt (fR (pcm jI (pv 1) aj) (fg (pcm iW (pv 1) (wB (v:=.int 23) rfl T.yD ⟨_,rfl⟩))))) (ae c9) aG)
   (ae (pfo (pil K (pv 0)) (pgn 2 km.nd) (ae (aK (pcm d9 (pln K T.bo (pv 2)) (pv 1)) (ae c9) aG)))))),?_⟩
 k_in;refine cp hT ?_;k_in;have h1:=sq.len;have h2:=sq.pos;have h3:=sq.le;k_get
 k_in;k_get
 k_in;refine dB hT (λi σ H'=>hX (H'=H) (λx=>σ=[some v,I? t.length,x])) ⟨rfl,_,rfl⟩ (λi σ H' h=>by rw[h.1];exact ag.refl _) ?_ ?_
 .rintro i r w' σ' H' hr' hw ⟨rfl,x,rfl⟩;k_in;refine cp hw ?_;k_in;refine bJ (λc=>absurd (by rw[sq.row i r hr',h1]) c) (λ_=>?_)
  k_in;exact⟨rfl,_,rfl⟩
 .rintro σ' H' ⟨rfl,x,rfl⟩;exact q
inductive qv(K:Q7)(vs:Y6)(H:Hp)(Q:VK)(E:XK):Prop
 | mk (v:V) (n:Nat) (t:AC) (_:vs=[v]) (_:At K H v t) (_:Gd n t) (_:Q .non H)
theorem qk:Fa P w base T.eP 1 (qv K):=by
 exists T.eP.ok eJ
 obtain⟨v,n,t,rfl,hT,gd,q⟩:=h;refine⟨_,(aa (pz 1 eJ.nd (pln K T.bo (pv 0)))
   (ae (pfo (prg T.aU (pv 1)) (pgn 2 eJ.nd) (ae (pfo (prg T.aU (pv 1)) (pgn 3 eJ.nd) (ae (aK (PW.pt (fR (pcm jI (pxl K (pxl K (pv 0) (pv 2)) (pv 3)) aj) (fg (pcm oH (pxl K (pxl K (pv 0) (pv 2)) (pv 3)) (pv 1))))) (ae c9) aG))))))),?_⟩
 k_in;refine cp hT ?_;k_in;have h1:=gd.len;have h3:=gd.le;rw[h1];refine bf (n:=n) rfl (by omega) (λi σ H'=>qT (H'=H) (λx y=>σ=[some v,I? n,x,y])) ⟨rfl,_,_,rfl⟩ ?_ ?_
 .rintro i σ' H' hi ⟨rfl,x,y,rfl⟩;k_in;refine bf (n:=n) rfl (by omega) (λj σ Zn=>hX (Zn=H') (λy=>σ=[some v,I? n,I? i,y])) ⟨rfl,_,rfl⟩ ?_ ?_
  .rintro j σ'' Zn hj ⟨rfl,y,rfl⟩;have Zd:=gd.lt i j hi hj;k_in;refine cM hT rfl (gd.get hi) λw1 Zk=>?_;k_in;refine ik Zk rfl (gd.dz hi hj) ?_;k_in;k_get
   k_in;refine cM hT rfl (gd.get hi) λw2 Y'=>?_;k_in;refine ik Y' rfl (gd.dz hi hj) ?_;k_in;k_get
   k_in;exact⟨rfl,_,rfl⟩
  .rintro σ'' Zn ⟨rfl,y,rfl⟩;w_up
   exact⟨rfl,_,_,rfl⟩
 .rintro σ' H' ⟨rfl,x,y,rfl⟩;exact q
inductive yt(K:Q7)(vs:Y6)(H:Hp)(Q:VK)(E:XK):Prop
 | mk (v:V) (n x:Nat) (t:AC) (_:vs=[v,.int x]) (_:At K H v t) (_:Sq n t) (_:x<n) (_:Q (.bl (decide (qG n t x))) H)
theorem yU:Fa P w base T.ja 1 (yt K):=by
 exists T.ja.ok pR
 obtain⟨v,n,x,t,rfl,hT,sq,hx,q⟩:=h;refine⟨_,(aa (pfo (prg T.aU (pln K T.bo (pv 0))) (pgn 2 pR.nd) (ae (aK (PW.pt (fR (pcm d9 (pxl K (pxl K (pv 0) (pv 1)) (pv 2)) (pv 2)) (fg (pcm d9 (pxl K (pxl K (pv 0) (pv 2)) (pv 1)) (pv 2))))) (ae (ax b6)) aG)))
   (ae (ax b6))),?_⟩
 k_in;refine cp hT ?_;k_in;have h1:=sq.len;have h3:=sq.le;rw[h1];refine bf (n:=n) rfl (by omega) (λi σ H'=>iU (H'=H) ((∀o,o<i->tb t x o=o/\tb t o x=o)) (λy=>σ=[some v,I? x,y])) ⟨rfl,λo ho=>absurd ho (by omega),_,rfl⟩ ?_ ?_
 .rintro i σ' H' hi ⟨rfl,hb,y,rfl⟩;have no:∀ (z:¬ (tb t x i=i/\tb t i x=i)),Q (.bl false) H':=λz=>by
   rw[decide_eq_false (λl:qG n t x=>z (l i hi))]at q;exact q
  k_in;refine cM hT rfl (sq.get hx) λw1 Zk=>?_;k_in;refine ik Zk rfl (sq.dz hx hi) ?_;k_in;refine bJ (λc=>?_) (λc1=>?_)
  .k_in;exact no λz=>c (by rw[z.1])
  .k_in;refine cM hT rfl (sq.get hi) λw2 Y'=>?_;k_in;refine ik Y' rfl (sq.dz hi hx) ?_;k_in;refine bJ (λc=>?_) (λc2=>?_)
   .k_in;exact no λz=>c (by rw[z.2])
   .k_in;refine⟨rfl,λo ho=>?_,_,rfl⟩;rcases Rz o i with z|z
    .exact hb o z
    .have e:o=i:=by omega
     subst e;exact⟨by omega,by omega⟩
 .rintro σ' H' ⟨rfl,hb,y,rfl⟩;k_in;rw[decide_eq_true (show qG n t x from hb)]at q;exact q
inductive ED(K:Q7)(vs:Y6)(H:Hp)(Q:VK)(E:XK):Prop
 | mk (v:V) (n e:Nat) (t:AC) (_:vs=[v]) (_:At K H v t) (_:GT n t e) (_:Q (.int e) H)
theorem D2:Fa P w base T.mN 2 (ED K):=by
 exists T.mN.ok uQ
 obtain⟨v,n,e,t,rfl,hT,gt,q⟩:=h;refine⟨_,(aa (pfo (prg T.aU (pln K T.bo (pv 0))) (pgn 1 uQ.nd) (ae (aK (dA (pdf T.ja (yU T) hr (paF (pv 0) (pa1 (pv 1))))) (ae (ax (pv 1))) aG)))
   (ae c9)),?_⟩
 k_in;walk_at "123";rw[h1];refine bf (n:=n) rfl (by omega) (λi σ H'=>iU (H'=H) (i<=e) (λy=>σ=[some v,y])) ⟨rfl,R5 _,_,rfl⟩ ?_ ?_
 .rintro i σ' H' hi ⟨rfl,hle,y,rfl⟩;k_in;refine⟨v,n,i,t,rfl,hT,gt.toSq,hi,?_⟩;k_in;o_new
  .k_in;rw[(gt.uO hi).mp c];exact q
  .k_in;refine⟨rfl,?_,_,rfl⟩;have:i≠e:=λz=>c ((gt.uO hi).mpr z);omega
 .rintro σ' H' ⟨rfl,hle,y,rfl⟩;exact absurd gt.elt (by omega)
inductive Ei(K:Q7)(vs:Y6)(H:Hp)(Q:VK)(E:XK):Prop
 | mk (v:V) (n e a:Nat) (t:AC) (_:vs=[v,.int e,.int a]) (_:At K H v t) (_:GT n t e) (_:a<n) (_:Q (.int (az n t e a:Int)) H)
theorem EZ:Fa P w base T.mT 1 (Ei K):=by
 exists T.mT.ok uZ
 obtain⟨v,n,e,a,t,rfl,hT,gt,ha,q⟩:=h;refine⟨_,(aa (pfo (prg T.aU (pln K T.bo (pv 0))) (pgn 3 uZ.nd) (ae (aK (PW.pt (gM (pcm cU (pxl K (pxl K (pv 0) (pv 2)) (pv 3)) (pv 1)) (iR (pcm cU (pxl K (pxl K (pv 0) (pv 3)) (pv 2)) (pv 1))))) (ae (ax (pv 3))) aG)))
   (ae c9)),?_⟩
 k_in;walk_at "123";rw[h1];refine bf (n:=n) rfl (by omega) (λi σ H'=>iU (H'=H) ((∀o,o<i->¬ (tb t a o=e/\tb t o a=e))) (λy=>σ=[some v,I? e,I? a,y])) ⟨rfl,λo ho=>absurd ho (by omega),_,rfl⟩ ?_ ?_
 .rintro i σ' H' hi ⟨rfl,hb,y,rfl⟩;have on:(¬ (tb t a i=e/\tb t i a=e))->∀o,o<i+1->¬ (tb t a o=e/\tb t o a=e):=λz o ho=>by
   rcases Rz o i with l|l
   .exact hb o l
   .have e':o=i:=by omega
    subst e';exact z
  k_in;refine cM hT rfl (gt.get ha) λw1 Zk=>?_;k_in;refine ik Zk rfl (gt.dz ha hi) ?_;k_in;refine aV (λc1=>?_) (λc=>?_)
  .k_in;refine cM hT rfl (gt.get hi) λw2 Y'=>?_;k_in;refine ik Y' rfl (gt.dz hi ha) ?_;k_in;refine aV (λc2=>?_) (λc=>?_)
   .k_in;rw[KZ hi ⟨by omega,by omega⟩ hb]at q
    exact q
   .k_in;exact⟨rfl,on λz=>c (by rw[z.2]),_,rfl⟩
  .refine de ?_;k_in;exact⟨rfl,on λz=>c (by rw[z.1]),_,rfl⟩
 .rintro σ' H' ⟨rfl,hb,y,rfl⟩;obtain⟨b,Zi,z⟩:=gt.back a ha;exact absurd z (hb b Zi)
inductive B2(K:Q7)(vs:Y6)(H:Hp)(Q:VK)(E:XK):Prop
 | mk (v:V) (n e:Nat) (t:AC) (_:vs=[v,.int e]) (_:At K H v t) (_:GT n t e) (_:∀d H',H d=none->ag H H'->Gr K H' d (bks n t e)->Q (.ref d) H')
theorem BX:Fa P w base T.lg 2 (B2 K):=by
 exists T.lg.ok BU
 obtain⟨v,n,e,t,rfl,hT,gt,q⟩:=h;refine⟨_,(ae (ax (bL rfl pF (prg T.aU (pln K T.bo (pv 0))) (λ_ _ _ _=>⟨(pgn 0 pF.nd),bz,(pdf T.mT (EZ T) hr (paF (pv 1) (paF (pv 2) (pa1 (pv 0)))))⟩)))),?_⟩;k_in;walk_at "123";rw[h1];refine kO K (n:=n) rfl (by omega) (λi=>(bks n t e).take i) (λσ'=>∃y,σ'=[y,some v,I? e]) rfl (λi hi=>by rw[RG];omega) ⟨_,rfl⟩ ?_ ?_
 .rintro i σ' H' d R R0 hi hs ⟨y,rfl⟩ hR ZF hd;k_in;refine⟨v,n,e,i,t,rfl,Rep.mono hs hT,gt,hi,?_⟩;exact hR _ _ (az n t e i) _ ⟨_,rfl⟩ (ag.refl _) rfl (cR _ n i hi)
 .intro d H' fd hs ha;have e1:(bks n t e).take n=bks n t e:=RQ (by simp[bks])
  have A':Gr K H' d ((bks n t e).take n):=ha;rw[e1]at A';exact q d H' fd hs A'
inductive sr(K:Q7)(vs:Y6)(H:Hp)(Q:VK)(E:XK):Prop
 | mk (v:V) (n e:Nat) (t:AC) (_:vs=[v]) (_:At K H v t) (_:GT n t e) (_:Q .non H)
theorem si:Fa P w base T.fv 1 (sr K):=by
 exists T.fv.ok dO
 obtain⟨v,n,e,t,rfl,hT,gt,q⟩:=h;refine⟨_,(aa (pz 1 dO.nd (pln K T.bo (pv 0)))
   (ae (pfo (prg T.aU (pv 1)) (pgn 2 dO.nd) (ae (pfo (prg T.aU (pv 1)) (pgn 3 dO.nd) (ae (pfo (prg T.aU (pv 1)) (pgn 4 dO.nd) (ae (aK (pcm d9 (pxl K (pxl K (pv 0) (pxl K (pxl K (pv 0) (pv 2)) (pv 3))) (pv 4)) (pxl K (pxl K (pv 0) (pv 2)) (pxl K (pxl K (pv 0) (pv 3)) (pv 4)))) (ae c9) aG))))))))),?_⟩
 k_in;walk_at "123";rw[h1];refine bf (n:=n) rfl (by omega) (λi σ H'=>wc (H'=H) (λx y z=>σ=[some v,I? n,x,y,z])) ⟨rfl,_,_,_,rfl⟩ ?_ ?_
 .rintro i σ' H' hi ⟨rfl,x,y,z,rfl⟩;k_in;refine bf (n:=n) rfl (by omega) (λj σ Zn=>qT (Zn=H') (λy z=>σ=[some v,I? n,I? i,y,z])) ⟨rfl,_,_,rfl⟩ ?_ ?_
  .rintro j σ'' Zn hj ⟨rfl,y,z,rfl⟩;k_in;refine bf (n:=n) rfl (by omega) (λk σ H3=>hX (H3=Zn) (λz=>σ=[some v,I? n,I? i,I? j,z])) ⟨rfl,_,rfl⟩ ?_ ?_
   .rintro k σ3 H3 hk ⟨rfl,z,rfl⟩;have hij:=gt.lt i j hi hj;have hjk:=gt.lt j k hj hk;k_in;refine cM hT rfl (gt.get hi) λw1 Zk=>?_;k_in;refine ik Zk rfl (gt.dz hi hj) ?_;refine cM hT rfl (gt.get hij) λw2 Y'=>?_;k_in;refine ik Y' rfl (gt.dz hij hk) ?_;k_in;refine cM hT rfl (gt.get hi) λw3 hw3=>?_;k_in;refine cM hT rfl (gt.get hj) λw4 hw4=>?_;k_in;refine ik hw4 rfl (gt.dz hj hk) ?_;refine ik hw3 rfl (gt.dz hi hjk) ?_;k_in;refine bJ (λc=>absurd (by rw[gt.assoc i j k hi hj hk]) c) (λ_=>?_)
    k_in;exact⟨rfl,_,rfl⟩
   .rintro σ3 H3 ⟨rfl,z,rfl⟩;w_up
    exact⟨rfl,_,_,rfl⟩
  .rintro σ'' Zn ⟨rfl,y,z,rfl⟩;w_up
   exact⟨rfl,_,_,_,rfl⟩
 .rintro σ' H' ⟨rfl,x,y,z,rfl⟩;exact q
noncomputable def gfs(n:Int)(r e b:V):List (Str×V):=[("many",.int n),("rows",r),("unit",e),("backs",b)]
theorem Ih(n:Int)(r e b:V):(gfs n r e b).lookup ("many" : Str)=some (.int n):=rfl
theorem zN(n:Int)(r e b:V):(gfs n r e b).lookup ("rows" : Str)=some r:=rfl
theorem Bl(n:Int)(r e b:V):(gfs n r e b).lookup ("unit" : Str)=some e:=rfl
theorem Fx(n:Int)(r e b:V):(gfs n r e b).lookup ("backs" : Str)=some b:=rfl
noncomputable def aI(C:Addr)(H:Hp)(g:Addr)(n:Nat)(t:AC)(e:Nat):Prop :=
 ∃dx r b ps,H g=some (.ins C dx (gfs n (.ref r) (.int e) (.ref b)))/\Tbl H r t ps/\H b=some (.lst (au (bks n t e)))
theorem aI.mono{g:Nat}(s:ag H H')(h:aI C H g n t e):aI C H' g n t e:=by
 obtain⟨dx,r,b,ps,h1,h2,h3⟩:=h;exact⟨dx,r,b,ps,s _ _ h1,h2.mono s,s _ _ h3⟩
theorem aW{b:Addr}(h:H b=some (.lst (au l))):At K H (.ref b) l:=⟨b,_,rfl,SqL.of h,dQ⟩
theorem fL(h:Gr K H d l):H d=some (.lst (au l)):=by
 obtain⟨ys,hy,hP⟩:=h;have e:ys=au l:=by
  unfold au
  clear hy
  induction hP with
  | nil=>rfl
  | cons r _ ih=>rw[Si,<- ih];exact congrArg (· :: _) r
 rw[<- e];exact hy
theorem aI.get{g:Nat}(h:aI C H g n t e):∃dx r b,H g=some (.ins C dx (gfs n (.ref r) (.int e) (.ref b)))/\At K H (.ref r) t/\At K H (.ref b) (bks n t e):=by
 obtain⟨dx,r,b,ps,h1,h2,h3⟩:=h;exact⟨dx,r,b,h1,h2.at,aW h3⟩
theorem vL(h:a<n):(bks n t e)[a]?=some (az n t e a):=by
 unfold bks;simp[h]
section
variable (T:Txt K mg){H:Hp}{g dx:Addr}{n:Int}{r e b:V}{Q:VK}(hg:H g=some (.ins T.aE dx (gfs n r e b)))
include hg
theorem bA(q:Q (.int n) H):isF K "many" (.ref g) H Q:=⟨g,T.aE,dx,_,_,rfl,hg,T.fN,T.rD,Ih _ _ _ _,q⟩
theorem bO(q:Q r H):isF K "rows" (.ref g) H Q:=⟨g,T.aE,dx,_,_,rfl,hg,T.fN,T.mf,zN _ _ _ _,q⟩
theorem b8(q:Q e H):isF K "unit" (.ref g) H Q:=⟨g,T.aE,dx,_,_,rfl,hg,T.fN,T.lN,Bl _ _ _ _,q⟩
theorem bC(q:Q b H):isF K "backs" (.ref g) H Q:=⟨g,T.aE,dx,_,_,rfl,hg,T.fN,T.pL,Fx _ _ _ _,q⟩
end
inductive HK(C:Addr)(K:Q7)(vs:Y6)(H:Hp)(Q:VK)(E:XK):Prop
 | mk (p dx:Addr) (r e b:V) (t:AC) (_:vs=[.ref p,r,e,b]) (_:H p=some (.ins C dx [])) (_:At K H r t) (_:∀H',H' p=some (.ins C dx (gfs t.length r e b))->(∀a o,H a=some o->a≠p->H' a=some o)->Q .non H')
theorem HP:aH P w K mg base CX0 1 T.wg T.vI ["self","rows","unit","backs"] (HK T.aE K):=by
 exists T.K5.ok yT
 obtain⟨p,dx,r,e,b,t,rfl,hp,hT,k⟩:=h;refine⟨_,(aa (cG K rfl (pv 0) (pln K T.bo (pv 1)) rfl)
   (aa (cG K rfl (pv 0) (pv 1) rfl)
   (aa (cG K rfl (pv 0) (pv 2) rfl)
   (ae (cG K rfl (pv 0) (pv 3) rfl))))),?_⟩
 k_in;refine cp hT ?_;k_in;refine⟨p,T.aE,dx,_,rfl,hp,T.fN,T.rD,(by show 0<1000;decide),?_⟩
 k_in;refine⟨p,T.aE,dx,_,rfl,ai,T.fN,T.mf,(by show 1<1000;decide),?_⟩
 k_in;refine⟨p,T.aE,dx,_,rfl,ai,T.fN,T.lN,(by show 2<1000;decide),?_⟩
 k_in;refine⟨p,T.aE,dx,_,rfl,ai,T.fN,T.pL,(by show 3<1000;decide),?_⟩
 refine k _ ai λa o ha Zj=>?_;rw[ak Zj,ak Zj,ak Zj,ak Zj];exact ha
inductive Ce(C:Addr)(K:Q7)(vs:Y6)(H:Hp)(Q:VK)(E:XK):Prop
 | mk (v:V) (n e:Nat) (t:AC) (_:vs=[v]) (_:At K H v t) (_:GT n t e) (_:∀g H',H g=none->ag H H'->aI C (since H H') g n t e->Q (.ref g) H')
theorem Cm:Fa P w base T.lj 3 (Ce T.aE K):=by
 exists T.lj.ok jM
 obtain⟨v,n,e,t,rfl,hT,gt,k⟩:=h;refine⟨_,(aa (dP (i:=1) rfl jM.nd rfl (V7 rfl) pO (pil K (pv 0)) (λ_ _ _ _=>⟨(pgn 0 pO.nd),bz,(cb (eK K rfl) rfl T.eZ Ss (pa1 (pv 0)))⟩) rfl)
   (aa (aZ (pdf T.jj (yu T) hr (pa1 (pv 1))))
   (aa (aZ (pdf T.eP (qk T) hr (pa1 (pv 1))))
   (aa (pz 2 jM.nd (pdf T.mN (D2 T) hr (pa1 (pv 1))))
   (aa (pz 3 jM.nd (pdf T.lg (BX T) hr (paF (pv 1) (pa1 (pv 2)))))
   (aa (aZ (pdf T.fv (si T) hr (pa1 (pv 1))))
   (ae (ax (oz T.LV (HP T) (hr.mono (by decide)) rfl T.K7 T.Lx .nil jL (paF (pv 1) (paF (pv 2) (pa1 (pv 3))))))))))))),?_⟩
 have h1:=gt.len;have h3:=gt.le;k_in;refine oV hT (by omega) λd H1 ps s1 fd d6 tb1=>?_
 have dh:At K H1 (.ref d) t:=tb1.at;k_in;refine⟨_,n,t,rfl,dh,gt.toSq,?_⟩;k_in;refine⟨_,n,t,rfl,dh,gt.toGd,?_⟩;k_in;refine⟨_,n,e,t,rfl,dh,gt,?_⟩;k_in;refine⟨_,n,e,t,rfl,dh,gt,λb H2 fb s2 hb=>?_⟩;k_in;refine⟨_,n,e,t,rfl,Rep.mono s2 dh,gt,?_⟩;k_in;intro x dx hx hdx Zj;have s3:ag H2 (upd (upd H2 dx (.own x)) x (.ins T.aE dx [])):=λb' o z=>by
  rw[ak (av z hx),ak (av z hdx)];exact z
 refine⟨x,dx,_,_,_,t,rfl,ai,Rep.mono s3 (Rep.mono s2 dh),λH4 h4 k4=>⟨rfl,?_⟩⟩;have s4:ag H2 H4:=λb' o z=>k4 b' o (s3 b' o z) (av z hx);have fx:H x=none:=(s1.trans s2).free hx;refine k x H4 fx (s1.trans (s2.trans s4)) ⟨dx,d,b,ps,?_,(tb1.mono (s2.trans s4)).since fd d6,?_⟩
 .rw[oE fx,h4,h1]
 .rw[oE (s1.free fb)];exact s4 _ _ (fL hb)
inductive ET(C:Addr)(K:Q7)(vs:Y6)(H:Hp)(Q:VK)(E:XK):Prop
 | mk (g:Addr) (v:V) (n e:Nat) (t:AC) (l:AT) (_:vs=[.ref g,v]) (_:aI C H g n t e) (_:GT n t e) (_:At K H v l) (_:(∀x∈l,x<n)) (_:Q (.int (prd t e l:Int)) H)
theorem ot:Fa P w base T.iP 1 (ET T.aE K):=by
 exists T.iP.ok kW
 obtain⟨g,v,n,e,t,l,rfl,hG,gt,hl,hx,q⟩:=h;obtain⟨dx,r,b,hg,hT,hb⟩:=hG.get (K:=K);refine⟨_,(aa (pz 2 kW.nd (pfl K (pv 0)))
   (aa (pfo (pil K (pv 1)) (pgn 3 kW.nd) (ae (pz 2 kW.nd (pxl K (pxl K (pfl K (pv 0)) (pv 2)) (pv 3)))))
   (ae (ax (pv 2))))),?_⟩
 k_in;refine⟨g,T.aE,dx,_,_,rfl,hg,T.fN,T.lN,Bl _ _ _ _,?_⟩;k_in;refine dB hl (λi σ H'=>hX (H'=H) (λx=>σ=[R? g,some v,I? (prd t e (l.take i):Int),x])) ⟨rfl,_,rfl⟩ (λi σ H' h=>by rw[h.1];exact ag.refl _) ?_ ?_
 .rintro i c w' σ' H' hc hw ⟨rfl,x,rfl⟩;have ZH:c<n:=hx c (Rb hc);have hp:prd t e (l.take i)<n:=gt.FF gt.elt λy hy=>hx y (Vh hy);k_exc;k_in;refine⟨g,T.aE,dx,_,_,rfl,hg,T.fN,T.mf,zN _ _ _ _,?_⟩;k_in;refine cM hT rfl (gt.get hp) λw1 Zk=>?_;k_in;refine ik Zk rfl (gt.dz hp ZH) ?_;k_in;refine⟨rfl,I? c,?_⟩;rw[IV hc];rfl
 .rintro σ' H' ⟨rfl,x,rfl⟩;k_in;rw[Sr];exact q
end
noncomputable def ow(ns:YZ)(k:Nat):Nat:=match ns[k]? with
 | some x=>(x % 2147483647).toNat
 | none=>0
theorem tY(ns:YZ)(k:Nat):ow ns k<2147483647:=by
 unfold ow
 split
 .rename_i x _
  have:=WK x (show (0:Int)<2147483647 by decide)
  have:=VI x (show (2147483647:Int)≠0 by decide)
  omega
 .decide
structure f6(a b c s:Nat):Prop where
 a1:1<=a
 b1:1<=b
 c1:1<=c
 s1:1<=s
 s4:s<=4
 le:a * b * c * s<=23
noncomputable def szL(l:AT):Bool:=match l with
 | [a,b,c,s]=>decide (1<=a/\1<=b/\1<=c/\1<=s/\s<=4/\a * b * c * s<=23)
 | _=>false
theorem NB(h:szL l=true):∃a b c s,l=[a,b,c,s]/\f6 a b c s:=by
 match l,h with
 | [a,b,c,s],h =>
  have h':=of_decide_eq_true h;exact⟨a,b,c,s,rfl,h'.1,h'.2.1,h'.2.2.1,h'.2.2.2.1,h'.2.2.2.2.1,h'.2.2.2.2.2⟩
theorem jq(h:1<=y):x<=x * y:=by
 have:=SE x h;omega
theorem f6.ab(h:f6 a b c s):a * b<=23:=by
 have h1:=h.le;have h2:a * b<=a * b * c:=jq h.c1;have h3:a * b * c<=a * b * c * s:=jq h.s1;omega
theorem f6.abc(h:f6 a b c s):a * b * c<=23:=by
 have h1:=h.le;have h3:a * b * c<=a * b * c * s:=jq h.s1;omega
theorem f6.a23(h:f6 a b c s):a<=23:=by
 have h1:=h.ab;have h2:a<=a * b:=jq h.b1;omega
theorem f6.b23(h:f6 a b c s):b<=23:=by
 have h1:=h.ab;have h2:b<=b * a:=jq h.a1;rw[Ug]at h2;omega
theorem f6.c23(h:f6 a b c s):c<=23:=by
 have h1:=h.abc;have h2:c<=c * (a * b):=jq (T1 h.a1 h.b1);rw[Ug]at h2;omega
theorem Lh:ID.all szL=true:=by decide
theorem LK:∀k,k<4->6<=([8,12,6,23]:AT).getD k 0/\([8,12,6,23]:AT).getD k 0<=23:=by decide
theorem II:∀k,k<6->1<=([2,1,2,3,2,4]:AT).getD k 0/\([2,1,2,3,2,4]:AT).getD k 0<=4:=by decide
theorem HQ:∀k,k<3->0<([12,276,6348]:AT).getD k 0/\([12,276,6348]:AT).getD k 0<1073741824:=by decide
theorem Pj{fi se th st room top:Nat}(h1:1<=fi)(h2:1<=se)(h3:1<=th)(h4:1<=st)(h5:st<=4)(hfs:0<fi * se)(ht:th<=room / (fi * se))(hr:room * st<=top)(ZV:top<=23):f6 fi se th st:=by
 refine⟨h1,h2,h3,h4,h5,?_⟩;have e1:fi * se * th<=room:=RU (SE _ ht) (Yl room (fi * se));have e2:fi * se * th * st<=room * st:=Ub _ e1;omega
section
variable {P:RB}{w:World} 
inductive Ca(K:Q7)(vs:Y6)(H:Hp)(Q:VK)(E:XK):Prop
 | mk (v:V) (ns:YZ) (k:Nat) (_:vs=[v,.int k]) (_:At K H v ns) (_:Q (.int (ow ns k:Int)) H)
theorem mZ:Fa P w base T.gB 1 (Ca K):=by
 exists T.gB.ok Cz
 obtain⟨v,ns,k,rfl,hA,q⟩:=h;refine⟨_,(aa (aK (pcm jI (pv 1) (pln K T.bo (pv 0))) (ae (ax (ao aQ (pxl K (pv 0) (pv 1)) aj))) aG)
   (ae (ax aj))),?_⟩
 k_in;refine cp hA ?_;k_in;o_new
 .have hk:k<ns.length:=by omega
  k_in;refine JW (n:=k) hA rfl (Q8 hk) ?_;k_in;refine wO (show (0:Int)<2147483647 by decide) ?_
  unfold ow at q;rw[Q8 hk]at q;have:=VI ns[k] (show (2147483647:Int)≠0 by decide)
  dsimp only at q;rw[Int.toNat_of_nonneg this]at q;exact q
 .have hk:¬ k<ns.length:=by omega
  k_in;unfold ow at q;rw[RF (by omega)]at q
  exact q
inductive Ap(K:Q7)(vs:Y6)(H:Hp)(Q:VK)(E:XK):Prop
 | mk (one two:Nat) (_:vs=[.int one,.int two]) (_:∀v H' a b c s,ag H H'->f6 a b c s->At K H' v [a,b,c,s]->Q v H')
theorem z9:Fa P w base T.jH 1 (Ap K):=by
 exists T.jH.ok cq
 obtain⟨one,two,rfl,q⟩:=h;refine⟨_,(aa (pz 2 cq.nd (ao dy (pv 0) aj))
   (aa (aK (pcm cU (ao aQ (pv 0) aj) aj) (aa (pz 3 cq.nd (bg (zE [[2,2,1,3],[7,1,1,3],[5,1,1,4],[4,2,1,2],[3,3,1,2],[8,1,1,2]] (by trivial)).out))
   (aa (pz 3 cq.nd (ao nC (pv 3) (bg (zE [[4,1,1,2],[2,2,2,2],[3,1,1,4],[2,2,1,2],[5,1,1,2],[9,1,1,2]] (by trivial)).out)))
   (ae (ax (pxl K (pv 3) (ao aQ (pv 2) aj)))))) aG)
   (aa (pz 4 cq.nd (pxl K (bg (sY [8,12,6,23] (by trivial)).out) (ao aQ (pv 2) aj)))
   (aa (aK (PW.pt (gM (pcm iW (pv 4) aj) (iR (pcm iW (ao aQ (ao dy (pv 1) aj) aj) aj)))) (ae (pz 4 cq.nd aj)) aG)
   (aa (pz 5 cq.nd (pxl K (bg (sY [2,1,2,3,2,4] (by trivial)).out) (ao aQ (ao dy (pv 2) aj) aj)))
   (aa (pz 6 cq.nd (ao dy (pv 4) (pv 5)))
   (aa (pz 7 cq.nd (ao aY aj (ao aQ (ao dy (pv 2) aj) (pv 6))))
   (aa (pz 8 cq.nd (ao aY aj (ao aQ (pv 1) (ao dy (pv 6) (pv 7)))))
   (aa (pz 9 cq.nd (ao aY aj (ao aQ (ao dy (pv 1) aj) (ao dy (pv 6) (ao bT (pv 7) (pv 8))))))
   (ae (ax (bg (paF (pv 7) (paF (pv 8) (paF (pv 9) (pa1 (pv 5))))))))))))))))),?_⟩
 k_go;generalize one / 3=num;k_ne;k_go;refine aV (λ_=>?_) (λ_=>?_)
 .k_go;refine eC (K:=K) (l:=([[2,2,1,3],[7,1,1,3],[5,1,1,4],[4,2,1,2],[3,3,1,2],[8,1,1,2]]:AC)) (vF _ (by decide)) (by decide) λd1 H1 f1 s1 g1=>?_
  k_go;refine eC (K:=K) (l:=([[4,1,1,2],[2,2,2,2],[3,1,1,4],[2,2,1,2],[5,1,1,2],[9,1,1,2]]:AC)) (vF _ (by decide)) (by decide) λd2 H2 f2 s2 g2=>?_
  refine Pk (g1.mono s2).copy g2.copy (by decide) λd3 H3 f3 s3 a3=>?_
  have a3':At K H3 (.ref d3) ID:=a3;k_go;have hm:num % 12<ID.length:=RT _ (by decide)
  refine cM (n:=num % 12) a3' rfl (getD_some [] hm) λw hw=>?_;obtain⟨a,b,c,s,e,ok⟩:=NB (RS.mp Lh _ (Rb (getD_some [] hm)));rw[e]at hw;exact q w H3 a b c s (s1.trans (s2.trans s3)) ok hw
 .k_go;refine eC (K:=K) (l:=([8,12,6,23]:AT)) (nY _) (by decide) λd1 H1 f1 s1 g1=>?_
  k_go;have hm4:num % 4<4:=RT _ (by decide)
  refine bh g1.at (getD_some 0 (show num % 4<([8,12,6,23]:AT).length from hm4)) ?_;obtain⟨h6,ZV⟩:=LK (num % 4) hm4;generalize ([8,12,6,23]:AT).getD (num % 4) 0=top0 at h6 ZV ⊢;k_go;refine kK (λσ' H'=>H'=H1/\∃top:Nat,6<=top/\top<=23/\σ'=[I? one,I? two,I? num,none,I? top,none,none,none,none,none]) (λN hN=>?_) ?_
  .k_go;refine aV (λ_=>?_) (λ_=>?_)
   .k_go;refine aV (λ_=>?_) (λ_=>?_)
    .k_go;exact hN _ _ ⟨rfl,10,by decide,by decide,rfl⟩
    .k_go;exact hN _ _ ⟨rfl,top0,h6,ZV,rfl⟩
   .k_go;exact hN _ _ ⟨rfl,top0,h6,ZV,rfl⟩
  rintro σ' H1' ⟨rfl,top,h6,ZV,rfl⟩;k_go;refine eC (K:=K) (l:=([2,1,2,3,2,4]:AT)) (nY _) (by decide) λd2 H2 f2 s2 g2=>?_
  k_go;have hm6:num / 4 % 6<6:=RT _ (by decide)
  refine bh g2.at (getD_some 0 (show num / 4 % 6<([2,1,2,3,2,4]:AT).length from hm6)) ?_;obtain⟨t1,t4⟩:=II (num / 4 % 6) hm6;generalize ([2,1,2,3,2,4]:AT).getD (num / 4 % 6) 0=st at t1 t4 ⊢;k_go;have hroom:0<top / st:=YT (by omega) (by omega)
  have hrs:top / st * st<=top:=Nat.div_mul_le_self _ _;generalize top / st=room at hroom hrs ⊢;have hr23:room<=23:=by
   have:=Ud room (show 0<st by omega)
   omega
  k_go;have hf:1+num / 24 % room<=room:=by
   have:=RT (num / 24) hroom;omega
  have hf1:1<=1+num / 24 % room:=by omega
  generalize 1+num / 24 % room=fi at hf hf1 ⊢;k_go;have h2:0<room / fi:=YT hf hf1;refine zw h2 ?_;k_go;have hse:1+two % (room / fi)<=room / fi:=by
   have:=RT two h2;omega
  have hse1:1<=1+two % (room / fi):=by omega
  generalize 1+two % (room / fi)=se at hse hse1 ⊢;have hfs:fi * se<=room:=RU (SE _ hse) (Yl room fi);have hfs1:0<fi * se:=T1 hf1 hse1;k_go;have h3:0<room / (fi * se):=YT hfs hfs1;refine zw h3 ?_;k_go;have hth:1+two / 23 % (room / (fi * se))<=room / (fi * se):=by
   have:=RT (two / 23) h3;omega
  have hth1:1<=1+two / 23 % (room / (fi * se)):=by omega
  generalize 1+two / 23 % (room / (fi * se))=th at hth hth1 ⊢;refine cK ?_;k_go;refine⟨small (by show 4<=1000;decide),λp hp=>q _ _ fi se th st (s1.trans (s2.trans (ar hp _))) (Pj hf1 hse1 hth1 t1 t4 hfs1 hth hrs ZV) ?_⟩
  exact⟨p,_,rfl,SqL.of ai,.cons rfl (.cons rfl (.cons rfl (.cons rfl .nil)))⟩
noncomputable def KJ(K:Q7)(H:Hp)(v:V)(x a b s:Nat)(d:Addr)(n:Nat):St->Hp->Prop:=λσ' H'=>σ'=[some v,I? x,R? d]/\ag H H'/\∃l:AT,Gr K H' d l/\l≠[]/\l.length<=n/\∀k∈l,k<5/\eD a b s k=true
theorem KJ.put{v:V}(hd:H d=none)(hn:n<=1000)(h:KJ K H v x a b s d n σ' H')(h5:k<5)(hk:eD a b s k=true)(hN:∀Zn,KJ K H v x a b s d (n+1) σ' Zn->N σ' Zn) :
  jB (.ref d) [.int k] H' λ_ H1=>N σ' H1:=by
 obtain⟨e,s1,l,g,ne,ll,hl⟩:=h;refine iC (b:=k) g (by omega) rfl λH3 g3 k3 _=>hN H3 ⟨e,ag.but hd s1 k3,_,g3,by simp,by rw[Rt];simp;omega,λy hy=>?_⟩
 rcases Rq.mp hy with z|z
 .exact hl y z
 .rw[Rj.mp z];exact⟨h5,hk⟩
theorem KJ.skip{v:V}(h:KJ K H v x a b s d n σ' H'):KJ K H v x a b s d (n+1) σ' H':=by
 obtain⟨e,s1,l,g,ne,ll,hl⟩:=h;exact⟨e,s1,l,g,ne,by omega,hl⟩
theorem KJ.ty{v:V}(h:KJ K H v x a b s d n σ' H'):tyV K "list" (.ref d) H':=by
 obtain⟨e,s1,l,g,_⟩:=h;exact g.ty
theorem PL(h1:a=b)(h2:s % 2=0):eD a b s 1=true:=by subst h1;simp[eD,h2]
theorem PZ(h1:a=b)(h2:s % 3=0):eD a b s 2=true:=by subst h1;simp[eD,h2]
theorem PF(h1:a % b=0)(h2:1<b)(h3:s % b=0):eD a b s 3=true:=by simp[eD,h1,h2,h3]
theorem P7(h1:a % 2=0)(h2:b % 2=0)(h3:s % 2=0):eD a b s 4=true:=by simp[eD,h1,h2,h3]
inductive Cj(K:Q7)(vs:Y6)(H:Hp)(Q:VK)(E:XK):Prop
 | mk (v:V) (x a b c s:Nat) (_:vs=[v,.int x]) (_:f6 a b c s) (_:At K H v [a,b,c,s]) (_:∀k H',ag H H'->k<5->eD a b s k=true->Q (.int k) H')
theorem BV:Fa P w base T.lq 1 (Cj K):=by
 exists T.lq.ok sC
 obtain⟨v,x,a,b,c,s,rfl,sz,hS,q⟩:=h;refine⟨_,(aa (pz 2 sC.nd (bg (pa1 aj)))
   (aa (aK (PW.pt (gM (pcm cU (pxl K (pv 0) aj) (pxl K (pv 0) aj)) (iR (pcm cU (ao aQ (pxl K (pv 0) aj) aj) aj)))) (ae (aZ (pap K (pv 2) aj))) aG)
   (aa (aK (PW.pt (gM (pcm cU (pxl K (pv 0) aj) (pxl K (pv 0) aj)) (iR (pcm cU (ao aQ (pxl K (pv 0) aj) aj) aj)))) (ae (aZ (pap K (pv 2) aj))) aG)
   (aa (aK (PW.pt (gM (pcm cU (ao aQ (pxl K (pv 0) aj) (pxl K (pv 0) aj)) aj) (gM (pcm iW (pxl K (pv 0) aj) aj) (iR (pcm cU (ao aQ (pxl K (pv 0) aj) (pxl K (pv 0) aj)) aj))))) (ae (aZ (pap K (pv 2) aj))) aG)
   (aa (aK (PW.pt (gM (pcm cU (ao aQ (pxl K (pv 0) aj) aj) aj) (gM (pcm cU (ao aQ (pxl K (pv 0) aj) aj) aj) (iR (pcm cU (ao aQ (pxl K (pv 0) aj) aj) aj))))) (ae (aZ (pap K (pv 2) aj))) aG)
   (ae (ax (pxl K (pv 2) (ao aQ (pv 1) (pln K T.bo (pv 2))))))))))),?_⟩
 have b1:=sz.b1;k_go;refine eC (K:=K) (l:=([0]:AT)) (by walk_at "wr") (by decide) λd H1 f1 s1 g1=>?_
 have j1:KJ K H v x a b s d 1 [some v,I? x,R? d] H1:=⟨rfl,s1,_,g1,by simp,by simp,λk hk=>by rw[Rj.mp hk];exact⟨by decide,rfl⟩⟩
 have hS1:=Rep.mono s1 hS;k_go;refine kK (KJ K H v x a b s d 2) (λN hN=>?_) ?_
 .walk_at "132"
  .walk_at "131"
   .k_go;refine⟨j1.ty,?_⟩;k_go;exact KJ.put f1 (by decide) j1 (by decide) (PL c1 c2) λH2 z=>hN _ _ z
   .k_go;exact hN _ _ j1.skip
  .refine de ?_;k_go;exact hN _ _ j1.skip
 rintro σ2 H2 j2;obtain⟨rfl,s2,z2⟩:=id j2;have hS2:=Rep.mono s2 hS;k_go;refine kK (KJ K H v x a b s d 3) (λN hN=>?_) ?_
 .walk_at "132"
  .walk_at "131"
   .k_go;refine⟨j2.ty,?_⟩;k_go;exact KJ.put f1 (by decide) j2 (by decide) (PZ c1 c2) λH2 z=>hN _ _ z
   .k_go;exact hN _ _ j2.skip
  .refine de ?_;k_go;exact hN _ _ j2.skip
 rintro σ3 H3 j3;obtain⟨rfl,s3,z3⟩:=id j3;have hS3:=Rep.mono s3 hS;k_go;refine kK (KJ K H v x a b s d 4) (λN hN=>?_) ?_
 .walk_at "132"
  .walk_at "131"
   .k_go;refine aV (λc3=>?_) (λ_=>?_)
    .k_go;refine⟨j3.ty,?_⟩;k_go;exact KJ.put f1 (by decide) j3 (by decide) (PF c1 c2 c3) λH2 z=>hN _ _ z
    .k_go;exact hN _ _ j3.skip
   .refine de ?_;k_go;exact hN _ _ j3.skip
  .refine de ?_;k_go;exact hN _ _ j3.skip
 rintro σ4 H4 j4;obtain⟨rfl,s4,z4⟩:=id j4;have hS4:=Rep.mono s4 hS;k_go;refine kK (KJ K H v x a b s d 5) (λN hN=>?_) ?_
 .walk_at "132"
  .walk_at "131"
   .k_go;refine aV (λc3=>?_) (λ_=>?_)
    .k_go;refine⟨j4.ty,?_⟩;k_go;exact KJ.put f1 (by decide) j4 (by decide) (P7 c1 c2 c3) λH2 z=>hN _ _ z
    .k_go;exact hN _ _ j4.skip
   .refine de ?_;k_go;exact hN _ _ j4.skip
  .refine de ?_;k_go;exact hN _ _ j4.skip
 rintro σ5 H5 ⟨rfl,s5,l,g5,ne,ll,hl⟩;have ha5:=g5.at;have hl0:0<l.length:=RJ.mpr ne;k_go;have hm:x % l.length<l.length:=RT _ hl0;refine bh ha5 (getD_some 0 hm) ?_;have hk:=hl _ (Rb (getD_some 0 hm));exact q _ H5 s5 hk.1 hk.2
inductive BZ(K:Q7)(vs:Y6)(H:Hp)(Q:VK)(E:XK):Prop
 | mk (m s x:Nat) (_:vs=[.int m,.int s,.int x]) (_:1<=m) (_:m<=23) (_:1<=s) (_:s<=4) (_:∀u H',ag H H'->u∈unitsOf m s->Q (.int u) H')
theorem CM:Fa P w base T.lr 1 (BZ K):=by
 exists T.lr.ok eM
 obtain⟨m,s,x,rfl,m1,m23,s1,s4,q⟩:=h;refine⟨_,(aa (pz 3 eM.nd (bg bZ))
   (aa (pfo (prg T.aU (pv 0)) (pgn 4 eM.nd) (aa (pz 5 eM.nd aj)
   (aa (pfo (prg T.aU (pv 1)) (pgn 6 eM.nd) (ae (pz 5 eM.nd (ao aQ (ao bT (pv 5) (pv 4)) (pv 0)))))
   (ae (aK (pcm cU (pv 5) (ao aQ aj (pv 0))) (ae (aZ (pap K (pv 3) (pv 4)))) aG)))))
   (aa (aK (PW.pt (gM (pcm iW (ao bT (pv 0) (pv 1)) aj) (iR (pcm iW (pln K T.bo (pv 3)) aj)))) (ae (pz 3 eM.nd (Jb (Ij K rfl) (pv 3) (Kv aj) Lz))) aG)
   (ae (ax (pxl K (pv 3) (ao aQ (pv 2) (pln K T.bo (pv 3))))))))),?_⟩
 k_go;refine eC (K:=K) (l:=([]:AT)) jb (by decide) λd H1 f1 e1 g1=>?_
 k_go;refine bf (n:=m) rfl (by omega) (λi σ H'=>tF (ag H H') (Gr K H' d ((Rh i).filter λu=>Um (pw u m s) (1 % m))) (λy z k=>σ=[I? m,I? s,I? x,R? d,y,z,k])) ⟨e1,g1,_,_,_,rfl⟩ ?_ ?_
 .rintro i σ' H' hi ⟨e2,g2,y,z,k,rfl⟩;k_go;refine bf (n:=s) rfl (by omega) (λj σ H2=>hX (H2=H') (λk=>σ=[I? m,I? s,I? x,R? d,I? i,I? (pw i m j:Int),k])) ⟨rfl,_,rfl⟩ ?_ ?_
  .rintro j σ'' H2 hj ⟨rfl,k,rfl⟩;k_go;exact⟨rfl,_,rfl⟩
  .rintro σ'' H2 ⟨rfl,k,rfl⟩;k_go;k_ne;k_go;have hl:((Rh i).filter λu=>Um (pw u m s) (1 % m)).length<=100000:=by
    have:=TC (λu=>Um (pw u m s) (1 % m)) (Rh i);rw[RP]at this;omega
   o_new
   .k_go;refine⟨g2.ty,?_⟩;k_go;refine iC (b:=i) g2 hl rfl λH3 g3 k3 _=>?_;w_up
    refine⟨ag.but f1 e2 k3,?_,_,_,_,rfl⟩;rw[vc,if_pos c];exact g3
   .k_go;refine⟨e2,?_,_,_,_,rfl⟩;rw[vc,if_neg c];exact g2
 .rintro σ' H2 ⟨e2,g2,y,z,k,rfl⟩;have g2':Gr K H2 d (unitsOf m s):=g2;have a2:=g2'.at;have ne:=HV m1 m23 s1 s4;have ul:(unitsOf m s).length<=23:=by
   have:=TC (λu=>Um (pw u m s) (1 % m)) (Rh m);rw[RP]at this;exact RU this m23
  have u0:0<(unitsOf m s).length:=RJ.mpr ne;k_go;refine kK (λσ' H'=>ag H H'/\∃ (p:Addr) (l:AT),At K H' (.ref p) l/\0<l.length/\(∀u∈l,u∈unitsOf m s)/\∃y z k,σ'=[I? m,I? s,I? x,R? p,y,z,k]) (λN hN=>?_) ?_
  .have no:N [I? m,I? s,I? x,R? d,y,z,k] H2:=hN _ _ ⟨e2,d,_,a2,u0,λ_ z=>z,_,_,_,rfl⟩;walk_at "132"
   .walk_at "131"
    .k_go;refine Ks a2 λp H3 e3 _ a3=>?_;k_go;have ec:cut (unitsOf m s) (some ((1:Nat):Int)) none=(unitsOf m s).drop 1:=Hl _;rw[ec]at a3;exact hN _ _ ⟨e2.trans e3,p,_,a3,by rw[Xo];omega,λu hu=>V8 hu,_,_,_,rfl⟩
    .k_go;exact no
   .refine de ?_;k_go;exact no
  .rintro σ3 H3 ⟨e3,p,l,a3,l0,hl,y,z,k,rfl⟩;k_go;have hm:x % l.length<l.length:=RT _ l0;refine bh a3 (getD_some 0 hm) ?_;exact q _ H3 e3 (hl _ (Rb (getD_some 0 hm)))
theorem Par.sz{kind u0 u1 u2:Nat}(h:Par a b c s kind u0 u1 u2):f6 a b c s:=⟨h.a1,h.b1,h.c1,h.s1,h.s4,h.le⟩
inductive yP(K:Q7)(vs:Y6)(H:Hp)(Q:VK)(E:XK):Prop
 | mk (v u:V) (p kind a b c s u0 u1 u2:Nat) (_:vs=[.int p,v,.int kind,u]) (_:Par a b c s kind u0 u1 u2) (_:At K H v [a,b,c,s]) (_:At K H u [u0,u1,u2]) (_:p<a * b * c) (_:Q (.int (ee a b c kind u0 u1 u2 p:Int)) H)
theorem yS:Fa P w base T.iY 1 (yP K):=by
 exists T.iY.ok cv
 obtain⟨v,u,p,kind,a,b,c,s,u0,u1,u2,rfl,pr,hS,hU,hp,q⟩:=h;refine⟨_,(aa (pz 4 cv.nd (ao aQ (pv 0) (pxl K (pv 1) aj)))
   (aa (pz 5 cv.nd (ao aQ (ao dy (pv 0) (pxl K (pv 1) aj)) (pxl K (pv 1) aj)))
   (aa (pz 6 cv.nd (ao aQ (ao bT (ao dy (pv 0) (ao bT (pxl K (pv 1) aj) (pxl K (pv 1) aj))) (pxl K (pv 3) aj)) (pxl K (pv 1) aj)))
   (aa (aK (pcm cU (pv 2) aj) (ae (F3 (i:=4) (j:=5) rfl cv.nd rfl rfl (by decide) rfl rfl (paF (pv 5) (pa1 (pv 4))) rfl)) (ae (aK (pcm cU (pv 2) aj) (ae (F3 (i:=4) (j:=5) rfl cv.nd rfl rfl (by decide) rfl rfl (paF (ao aQ (ao gQ aj (pv 5)) (pxl K (pv 1) aj)) (pa1 (ao aQ (ao gQ (pv 4) (pv 5)) (pxl K (pv 1) aj)))) rfl)) (ae (aK (pcm cU (pv 2) aj) (ae (pz 5 cv.nd (ao aQ (ao aY (pv 5) (pv 4)) (pxl K (pv 1) aj)))) (ae (aK (pcm cU (pv 2) aj) (ae (pz 4 cv.nd (ao aQ (ao aY (pv 4) (ao bT (ao dy (pxl K (pv 1) aj) aj) (pv 5))) (pxl K (pv 1) aj)))) (aa (pz 4 cv.nd (ao aQ (ao bT (pv 4) (pxl K (pv 3) aj)) (pxl K (pv 1) aj)))
   (ae (pz 5 cv.nd (ao aQ (ao bT (pv 5) (pxl K (pv 3) aj)) (pxl K (pv 1) aj))))))))))))
   (ae (ax (ao aY (pv 4) (ao bT (pxl K (pv 1) aj) (ao aY (pv 5) (ao bT (pxl K (pv 1) aj) (pv 6))))))))))),?_⟩
 have a1:=pr.a1;have b1:=pr.b1;have c1:=pr.c1;have a23:=pr.sz.a23;have b23:=pr.sz.b23;have c23:=pr.sz.c23;have ab23:=pr.sz.ab;have ab0:0<a * b:=T1 a1 b1;have lu0:=(qh.mp pr.v0).1;have lu1:=(qh.mp pr.v1).1;have lu2:=(qh.mp pr.v2).1;k_go;refine kK (λσ' H'=>H'=H/\∃X Y:Nat,X+a * (Y+b * (p / (a * b) * u2 % c))=ee a b c kind u0 u1 u2 p/\σ'=[I? p,some v,I? kind,some u,I? X,I? Y,I? ((p / (a * b) * u2 % c:Nat):Int)]) (λN hN=>?_) ?_
 .k_go;refine aV (λk1=>?_) (λk1=>?_)
  .k_go;refine hN _ _ ⟨rfl,p / a % b,p % a,?_,rfl⟩;subst k1;rfl
  .k_ne;k_go;refine aV (λk2=>?_) (λk2=>?_)
   .have eab:a=b:=by
     have:=pr.kind;subst k2;simp[eD]at this;exact this.1
    have hy:p / a % b<a:=by rw[eab];exact RT _ b1
    have hx:p % a<a:=RT _ a1;k_go;refine wO (by omega) ?_
    k_go;refine wO (by omega) ?_
    k_go;refine hN _ _ ⟨rfl,(a - p / a % b) % a,(p % a+a - p / a % b) % a,?_,?_⟩
    .subst k2;rfl
    .have e1:(((0:Nat):Int) - ((p / a % b:Nat):Int)) % (a:Int)=(((a - p / a % b) % a:Nat):Int):=by
      have z:(((a - p / a % b) % a:Nat):Int)=((a - p / a % b:Nat):Int) % (a:Int):=by push_cast;rfl
      rw[z,show ((a - p / a % b:Nat):Int)=(((0:Nat):Int) - ((p / a % b:Nat):Int))+(a:Int) * 1 by omega,Wz]
     have e2:(((p % a:Nat):Int) - ((p / a % b:Nat):Int)) % (a:Int)=(((p % a+a - p / a % b) % a:Nat):Int):=by
      have z:(((p % a+a - p / a % b) % a:Nat):Int)=((p % a+a - p / a % b:Nat):Int) % (a:Int):=by push_cast;rfl
      rw[z,show ((p % a+a - p / a % b:Nat):Int)=(((p % a:Nat):Int) - ((p / a % b:Nat):Int))+(a:Int) * 1 by omega,Wz]
     rw[<- e1,<- e2];rfl
   .k_ne;k_go;refine aV (λk3=>?_) (λk3=>?_)
    .k_go;refine hN _ _ ⟨rfl,p % a,(p / a % b+p % a) % b,?_,rfl⟩;subst k3;rfl
    .k_ne;k_go;refine aV (λk4=>?_) (λk4=>?_)
     .k_go;refine hN _ _ ⟨rfl,(p % a+a / 2 * (p / a % b)) % a,p / a % b,?_,rfl⟩;subst k4;rfl
     .have k0:kind=0:=by have:=pr.k5;omega
      k_go;refine hN _ _ ⟨rfl,p % a * u0 % a,p / a % b * u1 % b,?_,rfl⟩;subst k0;rfl
 .rintro σ' H' ⟨rfl,X,Y,e,rfl⟩;k_go;rw[e];exact q
inductive E4(K:Q7)(vs:Y6)(H:Hp)(Q:VK)(E:XK):Prop
 | mk (v:V) (p r a b c s:Nat) (_:vs=[.int p,.int r,v]) (_:f6 a b c s) (_:At K H v [a,b,c,s]) (_:Q (.int (lsum a b c p r:Int)) H)
theorem uh:Fa P w base T.ke 1 (E4 K):=by
 exists T.ke.ok jg
 obtain⟨v,p,r,a,b,c,s,rfl,sz,hS,q⟩:=h;refine⟨_,(aa (pz 3 jg.nd (ao bT (pxl K (pv 2) aj) (pxl K (pv 2) aj)))
   (aa (pz 4 jg.nd (ao aQ (ao aY (pv 0) (pv 1)) (pxl K (pv 2) aj)))
   (aa (pz 5 jg.nd (ao aQ (ao aY (ao dy (pv 0) (pxl K (pv 2) aj)) (ao dy (pv 1) (pxl K (pv 2) aj))) (pxl K (pv 2) aj)))
   (aa (pz 6 jg.nd (ao aQ (ao aY (ao dy (pv 0) (pv 3)) (ao dy (pv 1) (pv 3))) (pxl K (pv 2) aj)))
   (ae (ax (ao aY (ao aY (pv 4) (ao bT (pxl K (pv 2) aj) (pv 5))) (ao bT (pv 3) (pv 6))))))))),?_⟩
 have a1:=sz.a1;have b1:=sz.b1;have c1:=sz.c1;have a23:=sz.a23;have b23:=sz.b23;have ab23:=sz.ab;have ab0:0<a * b:=T1 a1 b1;k_go;exact q
inductive Ag(K:Q7)(vs:Y6)(H:Hp)(Q:VK)(E:XK):Prop
 | mk (n x:Nat) (_:vs=[.int n,.int x]) (_:n<=23) (_:x<2147483647) (_:∀ (d:Addr) (H':Hp) (π:AT),ag H H'->π.Perm (Rh n)->At K H' (.ref d) π->Q (.ref d) H')
theorem As:Fa P w base T.jT 1 (Ag K):=by
 exists T.jT.ok jk
 obtain⟨n,x,rfl,Zw,hx,q⟩:=h;refine⟨_,(aa (pz 2 jk.nd (bg bZ))
   (aa (pfo (prg T.aU (pv 0)) (pgn 3 jk.nd) (aa (pz 1 jk.nd (ao aQ (ao aY (ao aY (ao aY (ao bT (pv 1) (pv 1)) (ao bT aj (pv 1))) (pv 3)) aj) aj))
   (ae (aZ (qR K rfl TK PySem.F.slot_list_insert PySem.F.type_list_insert Hd (pv 2) (paF (ao aQ (pv 1) (ao aY (pv 3) aj)) (pa1 (pv 3))))))))
   (ae (ax (pv 2))))),?_⟩
 k_go;refine eC (K:=K) (l:=([]:AT)) jb (by decide) λd H1 f1 e1 g1=>?_
 k_go;refine bf (n:=n) rfl (by omega) (λi σ H'=>oQ (ag H H') (λ(π:AT) (y:Nat) (k:Z4)=>π.Perm (Rh i)) (λπ y k=>y<2147483647) (λπ y k=>Gr K H' d π) (λπ y k=>σ=[I? n,I? y,R? d,k])) ⟨e1,[],x,_,.refl _,hx,g1,rfl⟩ ?_ ?_
 .rintro i σ' H' hi ⟨e2,π,y,k,hp,hy,g2,rfl⟩;have hl:π.length=i:=by rw[hp.length_eq,RP]
  k_go;have F!:(y * y+48271 * y+i+11) % 2147483647<2147483647:=RT _ (by decide)
  generalize (y * y+48271 * y+i+11) % 2147483647=y2 at F! ⊢;refine⟨g2.ty,?_⟩;k_go;have hk:y2 % (i+1)<i+1:=RT _ (by omega)
  refine Io (b:=i) g2 (show y2 % (i+1)<=π.length by omega) (by omega) rfl λH3 g3 k3=>?_
  w_up
  exact⟨ag.but f1 e2 k3,_,y2,_,Iv hp,F!,g3,rfl⟩
 .rintro σ' H2 ⟨e2,π,y,k,hp,hy,g2,rfl⟩;k_go;exact q d H2 π e2 hp g2.at
theorem iu{β:Type}(f:Nat->β)(h:i<n):((Rh n).map f)[i]?=some (f i):=by simp[h]
inductive Cb(K:Q7)(vs:Y6)(H:Hp)(Q:VK)(E:XK):Prop
 | mk (v tv:V) (a b c s e:Nat) (f:Nat->Nat) (_:vs=[v,tv,.int e]) (_:f6 a b c s) (_:Tn (a * b * c) (lsum a b c) f s e) (_:At K H v [a,b,c,s]) (_:At K H tv ((Rh (a * b * c)).map f)) (_:∀d H',ag H H'->At K H' (.ref d) (mkT (a * b * c * s) (cyc (a * b * c) (lsum a b c) f s e))->Q (.ref d) H')
theorem Ci:Fa P w base T.kP 2 (Cb K):=by
 exists T.kP.ok cu
 obtain⟨v,tv,a,b,c,s,e,f,rfl,sz,tn,hS,hT,q⟩:=h;refine⟨_,(aa (pz 3 cu.nd (pln K T.bo (pv 1)))
   (aa (pz 4 cu.nd (bg bZ))
   (aa (pz 5 cu.nd (cb (n5 rfl) rfl T.eZ Ss (paF (cb sT rfl T.aU Xn (pa1 (pv 3))) bZ)))
   (aa (pfo (prg T.aU (pxl K (pv 0) aj)) (pgn 6 cu.nd) (aa (pfo (prg T.aU (pv 3)) (pgn 7 cu.nd) (aa (pz 8 cu.nd (bg bZ))
   (aa (pfo (prg T.aU (pxl K (pv 0) aj)) (pgn 9 cu.nd) (ae (pfo (prg T.aU (pv 3)) (pgn 10 cu.nd) (aa (pz 11 cu.nd (pdf T.ke (uh T) hr (paF (pv 7) (paF (pxl K (pv 5) (pv 10)) (pa1 (pv 0))))))
   (aa (aK (pcm oH (ao aY (pv 6) (pv 9)) (pxl K (pv 0) aj)) (ae (pz 11 cu.nd (pdf T.ke (uh T) hr (paF (pv 11) (paF (pv 2) (pa1 (pv 0))))))) aG)
   (ae (aZ (pap K (pv 8) (ao aY (pv 11) (ao bT (pv 3) (ao aQ (ao aY (pv 6) (pv 9)) (pxl K (pv 0) aj))))))))))))
   (ae (aZ (pap K (pv 4) (pv 8)))))))
   (ae (dP (i:=5) rfl cu.nd rfl (V7 rfl) pV (pil K (pv 5)) (λ_ _ _ _=>⟨(pgn 0 pV.nd),bz,(pxl K (pv 1) (pv 0))⟩) rfl))))
   (ae (ax (pv 4))))))),?_⟩
 have s1:=sz.s1;have s4:=sz.s4;have hle:=sz.le;have m23:=sz.abc;have m0:=tn.pos;have hlen:((Rh (a * b * c)).map f).length=a * b * c:=by simp
 k_go;rw[hlen];generalize hm:a * b * c=m at hle m23 m0 hlen tn hT q ⊢;generalize hF:cyc m (lsum a b c) f s e=F at q ⊢;refine eC (K:=K) (l:=([]:AC)) jb (by decide) λd H1 fd e1 g1=>?_
 k_go;refine C1 λpr hpr=>?_;k_go;refine sQ (K:=K) ai (by omega) λdl H2 fl e2 gl=>?_
 have e12:ag H H2:=e1.trans ((ar hpr _).trans e2);have g2:Gr K H2 d ([]:AC):=g1.mono ((ar hpr _).trans e2);have hdl:dl≠d:=λz=>by
  obtain⟨ys,hy⟩:=g1.is;have:(upd H1 pr (.rng 0 (m:Int))) d=some (.lst ys):=by rw[ak (av hy hpr)];exact hy
  rw[z,this]at fl;cases fl
 have hS2:=Rep.mono e12 hS;k_go;refine bf (n:=s) rfl (by omega) (λi σ H'=>yF (ag H H') (Gr K H' d ((mkT (m * s) F).take (m * i))) (λ(vl:V)=>At K (del H' d) vl ((Rh m).map (Nat.repeat f i))) (λ(vl:V) x6 x7 x8 x9 Zu o!=>σ=[some v,some tv,I? e,I? m,R? d,some vl,x6,x7,x8,x9,Zu,o!])) ?_ ?_ ?_
 .refine⟨e12,by rw[Us];exact g2,.ref dl,?_,_,_,_,_,_,_,rfl⟩
  have z:(Rh m).map (Nat.repeat f 0)=Rh m:=by
   have:Nat.repeat f 0=id:=by funext x;rfl
   rw[this,Wg]
  rw[z];exact pB gl hdl
 .rintro i σ' H3 hi ⟨e3,g3,vl,hl3,x6,x7,x8,x9,Zu,o!,rfl⟩;k_go;refine bf (n:=m) rfl (by omega) (λo σ H'=>BW (ag H H') (Gr K H' d ((mkT (m * s) F).take (m * i+o))) (At K (del H' d) vl ((Rh m).map (Nat.repeat f i))) (λx7 x8 x9 Zu o!=>σ=[some v,some tv,I? e,I? m,R? d,some vl,I? i,x7,x8,x9,Zu,o!])) ⟨e3,g3,hl3,_,_,_,_,_,rfl⟩ ?_ ?_
  .rintro o σ' H4 ho ⟨e4,g4,hl4,x7,x8,x9,Zu,o!,rfl⟩;have hI:m * i+o<m * s:=by
    have:m * (i+1)<=m * s:=SE m hi;rw[T5]at this;omega
   k_go;refine eC (K:=K) (l:=([]:AT)) jb (by decide) λp H5 fp e5 g5=>?_
   have hpd:p≠d:=F1 g4.is fp;have hS5:=Rep.mono (e4.trans e5) hS;k_go;refine bf (n:=s) rfl (by omega) (λj σ H'=>tF (ag H4 H') (Gr K H' p (((Rh (m * s)).map λy=>F (m * i+o) y).take (m * j))) (λx9 Zu o!=>σ=[some v,some tv,I? e,I? m,R? d,some vl,I? i,I? o,R? p,x9,Zu,o!])) ⟨e5,by rw[Us];exact g5,_,_,_,rfl⟩ ?_ ?_
   .rintro j σ' H6 hj ⟨e6,g6,x9,Zu,o!,rfl⟩;k_go;refine bf (n:=m) rfl (by omega) (λk σ H'=>nM (ag H4 H') (Gr K H' p (((Rh (m * s)).map λy=>F (m * i+o) y).take (m * j+k))) (λZu o!=>σ=[some v,some tv,I? e,I? m,R? d,some vl,I? i,I? o,R? p,I? j,Zu,o!])) ⟨e6,g6,_,_,rfl⟩ ?_ ?_
    .rintro k σ' H7 hk ⟨e7,g7,Zu,o!,rfl⟩;have hJ:m * j+k<m * s:=by
      have:m * (j+1)<=m * s:=SE m hj;rw[T5]at this;omega
     have hS7:=Rep.mono (e4.trans e7) hS;have hl7:At K H7 vl ((Rh m).map (Nat.repeat f i)):=Rep.mono e7 (Rep.mono dE hl4);k_go;refine bh hl7 (iu _ hk) ?_;k_go;refine⟨v,o,Nat.repeat f i k,a,b,c,s,rfl,sz,hS7,?_⟩;k_go;refine kK (λσ' H'=>H'=H7/\σ'=[some v,some tv,I? e,I? m,R? d,some vl,I? i,I? o,R? p,I? j,I? k,I? ((if s<=i+j then lsum a b c (lsum a b c o (Nat.repeat f i k)) e else lsum a b c o (Nat.repeat f i k):Nat):Int)]) (λN hN=>?_) ?_
     .k_go;refine aV (λc1=>?_) (λc1=>?_)
      .k_go;refine⟨v,_,e,a,b,c,s,rfl,sz,hS7,?_⟩;k_go;refine hN _ _ ⟨rfl,?_⟩;rw[if_pos c1];rfl
      .k_go;refine hN _ _ ⟨rfl,?_⟩;rw[if_neg c1];rfl
     .rintro σ' H8 ⟨rfl,rfl⟩;k_go;refine⟨g7.ty,?_⟩;k_go;have ev:(if s<=i+j then lsum a b c (lsum a b c o (Nat.repeat f i k)) e else lsum a b c o (Nat.repeat f i k))+m * ((i+j) % s)=F (m * i+o) (m * j+k):=by
       rw[<- hF,Ue (m * i) o,Ue (m * j) k,My ho hk]
      rw[ev];refine iC (b:=F (m * i+o) (m * j+k)) g7 (by rw[RG];omega) rfl λH9 g9 k9 _=>?_
      w_up
      refine⟨ag.but fp e7 k9,?_,_,_,rfl⟩;rw[show m * j+(k+1)=(m * j+k)+1 by omega,cR (λy=>F (m * i+o) y) (m * s) (m * j+k) hJ]
      exact g9
    .rintro σ' H7 ⟨e7,g7,Zu,o!,rfl⟩;w_up
     refine⟨e7,?_,_,_,_,rfl⟩;rw[T5];exact g7
   .rintro σ' H6 ⟨e6,g6,x9,Zu,o!,rfl⟩;have et:((Rh (m * s)).map λy=>F (m * i+o) y).take (m * s)=(Rh (m * s)).map λy=>F (m * i+o) y:=RQ (by simp)
    rw[et]at g6;have g6d:=g4.mono e6;k_go;refine⟨g6d.ty,?_⟩;k_go;refine iC g6d (by rw[RG];omega) (pB g6 hpd) λH7 g7 k7 _=>?_
    have hdH:H d=none:=fd;w_up
    refine⟨ag.but hdH (e4.trans e6) k7,?_,Rep.mono (Pp k7) (Rep.mono (gh e6) hl4),_,_,_,_,_,rfl⟩;rw[show m * i+(o+1)=(m * i+o)+1 by omega]
    unfold mkT;rw[cR (λx=>(Rh (m * s)).map λy=>F x y) (m * s) (m * i+o) hI];exact g7
  .rintro σ' H4 ⟨e4,g4,hl4,x7,x8,x9,Zu,o!,rfl⟩;k_go;have hl4':At K H4 vl ((Rh m).map (Nat.repeat f i)):=Rep.mono dE hl4;have hll:((Rh m).map (Nat.repeat f i)).length=m:=by simp
   refine j8 (β:=Nat) hl4' (by omega) (λk=>((Rh m).map (Nat.repeat f (i+1))).take k) (λσ'=>∃y,σ'=[y,some tv]) rfl (λk hk=>by rw[RG];omega) ⟨_,rfl⟩ ?_ ?_
   .rintro k z w' σ' H5 d' R R0 hz hs hw ⟨y,rfl⟩ hR ZF dh;have hkm:k<m:=by
     have:=(Q9.mp hz).1;omega
    rw[iu _ hkm]at hz;cases hz;cases(show w'=V.int ((Nat.repeat f i k:Nat):Int) from hw);have hT5:=Rep.mono (e4.trans hs) hT;k_go;refine bh hT5 (iu _ (eW tn i hkm)) ?_;exact hR _ _ (Nat.repeat f (i+1) k) _ ⟨_,rfl⟩ (ag.refl _) rfl (cR _ m k hkm)
   .intro d' H5 fd' e5 hg;have hg':Gr K H5 d' (((Rh m).map (Nat.repeat f (i+1))).take m):=by
     have:=hg;rw[hll]at this;o_rec
    rw[RQ (by simp)]at hg'
    k_go;refine⟨e4.trans e5,?_,.ref d',pB hg' (F1 g4.is fd'),_,_,_,_,_,_,rfl⟩;rw[T5];exact g4.mono e5
 .rintro σ' H3 ⟨e3,g3,vl,hl3,x6,x7,x8,x9,Zu,o!,rfl⟩;rw[RQ (by simp[mkT])]at g3
  k_go;exact q d H3 e3 g3.at
inductive zD(K:Q7)(vs:Y6)(H:Hp)(Q:VK)(E:XK):Prop
 | mk (v:V) (ns:YZ) (st:Nat) (_:vs=[v,.int st]) (_:At K H v ns) (_:∀d H' n t e ps,ag H H'->GT n t e->Meta n t->Tbl H' d t ps->H d=none->(∀p∈ps,H p=none)->Q (.ref d) H')
theorem BQ:Fa P w base T.jJ 3 (zD K):=by
 exists T.jJ.ok a9
 obtain⟨v,ns,st,rfl,hA,q⟩:=h;refine⟨_,(aa (pz 2 a9.nd (pdf T.gB (mZ T) hr (paF (pv 0) (pa1 (pv 1)))))
   (aa (pz 3 a9.nd (pdf T.gB (mZ T) hr (paF (pv 0) (pa1 (ao aY (pv 1) aj)))))
   (aa (pz 4 a9.nd (pdf T.jH (z9 T) hr (paF (pv 2) (pa1 (pv 3)))))
   (aa (pz 5 a9.nd (ao aQ (ao bT (ao bT (ao aY (pv 3) aj) (ao aY (pv 3) aj)) aj) aj))
   (aa (pz 6 a9.nd (pdf T.lq (BV T) hr (paF (pv 4) (pa1 (pv 5)))))
   (aa (pz 7 a9.nd (bg bZ))
   (aa (pfo (prg T.aU aj) (pgn 8 a9.nd) (ae (aZ (pap K (pv 7) (pdf T.lr (CM T) hr (paF (pxl K (pv 4) (pv 8)) (paF (pxl K (pv 4) aj) (pa1 (ao dy (pv 5) (pxl K (bg (sY [12,276,6348] (by trivial)).out) (pv 8)))))))))))
   (aa (pz 9 a9.nd (ao bT (ao bT (pxl K (pv 4) aj) (pxl K (pv 4) aj)) (pxl K (pv 4) aj)))
   (aa (dP (i:=10) rfl a9.nd rfl (V7 rfl) nP (prg T.aU (pv 9)) (λ_ _ _ _=>⟨(pgn 0 nP.nd),bz,(pdf T.iY (yS T) hr (paF (pv 0) (paF (pv 2) (paF (pv 1) (pa1 (pv 3))))))⟩) rfl)
   (aa (pz 11 a9.nd (ao aQ (ao aQ (ao bT (ao bT (ao aY (pv 2) aj) (ao aY (pv 2) aj)) aj) aj) (pv 9)))
   (aa (aK (pcm d9 (pxl K (pv 10) (pv 11)) (pv 11)) (ae (pz 11 a9.nd aj)) aG)
   (aa (pz 12 a9.nd (pdf T.kP (Ci T) hr (paF (pv 4) (paF (pv 10) (pa1 (pv 11))))))
   (aa (pz 13 a9.nd (pdf T.jT (As T) hr (paF (pln K T.bo (pv 12)) (pa1 (pdf T.gB (mZ T) hr (paF (pv 0) (pa1 (ao aY (pv 1) aj))))))))
   (aa (dP (i:=15) rfl a9.nd rfl (V7 rfl) nJ (pil K (pv 12)) (λ_ _ _ _=>⟨(pgn 0 nJ.nd),bz,(cb (eK K rfl) rfl T.eZ Ss (pa1 (pv 0)))⟩) rfl)
   (aa (pfo (iE K rfl rfl T.eL (pa1 (pv 12))) (md rfl (c7 (pgn 16 a9.nd) (c7 (pgn 14 a9.nd) js))) (ae (pfo (iE K rfl rfl T.eL (pa1 (pv 14))) (md rfl (c7 (pgn 17 a9.nd) (c7 (pgn 18 a9.nd) js))) (ae (uK (pxl K (pv 13) (pv 18)) (uT (pxl K (pv 15) (pxl K (pv 13) (pv 16))) (pxl K (pv 13) (pv 17)) set_list))))))
   (ae (ax (pv 15)))))))))))))))))),?_⟩
 k_go;refine⟨v,ns,st,rfl,hA,?_⟩;have one2:=tY ns st;generalize ow ns st=one at one2 ⊢;k_go;refine⟨v,ns,st+1,rfl,hA,?_⟩;have two2:=tY ns (st+1);generalize ow ns (st+1)=two at two2 ⊢;k_go;refine⟨one,two,rfl,λvS H1 a b c s s1 sz hS=>?_⟩;k_go;generalize (two+11) * (two+29) * 48271 % 2147483629=stir;refine⟨vS,stir,a,b,c,s,rfl,sz,hS,λkind H2 s2 k5 hk=>?_⟩;have hS2:=Rep.mono s2 hS;k_go;refine eC (K:=K) (l:=([]:AT)) jb (by decide) λdu H3 fu s3 gu=>?_
 k_go;refine bf (n:=3) rfl (by decide) (λi σ H'=>Fn (ag H2 H') (λ(us:AT)=>Gr K H' du us) (λus=>us.length=i) (λus=>(∀j,j<i->us.getD j 0∈unitsOf ([a,b,c,s].getD j 0) s)) (λ(us:AT) x8=>σ=[some v,I? st,I? one,I? two,some vS,I? stir,I? kind,R? du,x8,none,none,none,none,none,none,none,none,none,none])) ⟨s3,[],gu,rfl,λj hj=>absurd hj (by omega),_,rfl⟩ ?_ ?_
 .rintro i σ' H4 hi ⟨s4,us,g4,l4,hu,x8,rfl⟩;k_go;refine⟨g4.ty,?_⟩;have hS4:=Rep.mono s4 hS2;k_go;refine bh hS4 (getD_some 0 (show i<4 by omega)) ?_
  k_go;refine eC (K:=K) (l:=([12,276,6348]:AT)) (nY _) (by decide) λd5 H5 f5 s5 g5=>?_
  k_go;refine bh g5.at (getD_some 0 (show i<3 from hi)) ?_;obtain⟨p1,p2⟩:=HQ i hi;refine Gv p1 p2 ?_;k_go;have hmi:1<=[a,b,c,s].getD i 0/\[a,b,c,s].getD i 0<=23:=by
   match i,hi with
   | 0,_=>exact⟨sz.a1,sz.a23⟩
   | 1,_=>exact⟨sz.b1,sz.b23⟩
   | 2,_=>exact⟨sz.c1,sz.c23⟩
  refine⟨_,s,_,rfl,hmi.1,hmi.2,sz.s1,sz.s4,λu H6 s6 hu6=>?_⟩;k_go;refine iC (b:=u) (g4.mono (s5.trans s6)) (by omega) rfl λH7 g7 k7 _=>?_
  w_up
  refine⟨ag.but fu (s4.trans (s5.trans s6)) k7,_,g7,by rw[Rt,l4];rfl,λj hj=>?_,_,rfl⟩
  rcases Rz j i with z|z
  .have e1:(us++[u]).getD j 0=us.getD j 0:=by
    rw[Rf,RI (by omega),<- Rf]
   rw[e1];exact hu j z
  .have e:j=i:=by omega
   subst e;have e1:(us++[u]).getD j 0=u:=by
    rw[Rf,RK (by omega),l4,WC]
    rfl
   rw[e1];exact hu6
 rintro σ' H4 ⟨s4,us,g4,l4,hu,x8,rfl⟩
 match us,l4 with
 | [u0,u1,u2],_ =>
 have v0:u0∈unitsOf a s:=hu 0 (by decide)
 have v1:u1∈unitsOf b s:=hu 1 (by decide)
 have v2:u2∈unitsOf c s:=hu 2 (by decide)
 have pr:Par a b c s kind u0 u1 u2:=⟨sz.a1,sz.b1,sz.c1,sz.s1,sz.s4,sz.le,k5,hk,v0,v1,v2⟩;have hS4:=Rep.mono s4 hS2;have hU4:=g4.at;have a23:=sz.a23;have ab23:=sz.ab;have m23:=sz.abc;have m0:0<a * b * c:=T1 (T1 sz.a1 sz.b1) sz.c1;k_go;refine qY K (n:=a * b * c) (β:=Nat) rfl (by omega) (λi=>((Rh (a * b * c)).map (ee a b c kind u0 u1 u2)).take i) (λσ'=>∃y,σ'=[y,I? kind,some vS,R? du]) rfl (λi hi=>by rw[RG];omega) ⟨_,rfl⟩ ?_ ?_
 .rintro i σ' H5 d' R R0 hi hs ⟨y,rfl⟩ hR ZF dh;k_go;refine⟨vS,_,i,kind,a,b,c,s,u0,u1,u2,rfl,pr,Rep.mono hs hS4,Rep.mono hs hU4,hi,?_⟩;exact hR _ _ _ _ ⟨_,rfl⟩ (ag.refl _) rfl (cR _ _ i hi)
 intro dt H5 s5 ht5;have ht5':At K H5 (.ref dt) ((Rh (a * b * c)).map (ee a b c kind u0 u1 u2)):=by
  have z:At K H5 (.ref dt) (((Rh (a * b * c)).map (ee a b c kind u0 u1 u2)).take (a * b * c)):=ht5;rw[RQ (by simp)]at z
  exact z
 k_go;have en:(one+5) * (one+17) * 69621 % 2147483587 % (a * b * c)<a * b * c:=RT _ m0;generalize (one+5) * (one+17) * 69621 % 2147483587 % (a * b * c)=en0 at en ⊢;refine kK (λσ' H'=>H'=H5/\∃e:Nat,e<a * b * c/\ee a b c kind u0 u1 u2 e=e/\σ'=[some v,I? st,I? one,I? two,some vS,I? stir,I? kind,R? du,x8,I? ((a * b * c:Nat):Int),R? dt,I? e,none,none,none,none,none,none,none]) (λN hN=>?_) ?_
 .k_go;refine bh ht5' (iu _ en) ?_;k_go;refine bJ (λc1=>?_) (λc1=>?_)
  .k_go;exact hN _ _ ⟨rfl,0,m0,E6 ..,rfl⟩
  .k_go;exact hN _ _ ⟨rfl,en0,en,c1,rfl⟩
 rintro σ' H5 ⟨rfl,e,he,fe,rfl⟩;have tn:=pr.tn he fe;have hS5:=Rep.mono s5 hS4;k_go;refine⟨vS,_,a,b,c,s,e,_,rfl,sz,tn,hS5,ht5',λdr H6 s6 hR6=>?_⟩;have gt:=Na tn sz.le;have mt:=Jt tn;have G!:ag H H6:=s1.trans (s2.trans (s4.trans (s5.trans s6)));generalize mkT (a * b * c * s) (cyc (a * b * c) (lsum a b c) (ee a b c kind u0 u1 u2) s e)=R at gt mt hR6;generalize a * b * c * s=n at gt mt;have hA6:=Rep.mono G! hA;k_go;rw[gt.len];refine⟨v,ns,st+2,rfl,hA6,?_⟩;k_go;refine⟨n,_,rfl,gt.le,tY ns (st+2),λdn H7 π s7 hp hN7=>?_⟩;have hR7:=Rep.mono s7 hR6;have hl:π.length=n:=by rw[hp.length_eq,RP]
 k_go;refine oV hR7 (by rw[gt.len];have:=gt.le;omega) λd H8 ps s8 fd d6 tb8=>?_
 k_go;refine iQ (H₀:=H7) hR7 (λi σ H'=>Cc (ag H7 H') (λrows=>Ren n π R rows i 0) (λrows=>Tbl H' d rows ps) (λrows x14 x16 x17 x18=>σ=[some v,I? st,I? one,I? two,some vS,I? stir,I? kind,R? du,x8,I? ((a * b * c:Nat):Int),R? dt,I? e,R? dr,R? dn,x14,R? d,x16,x17,x18])) ?_ (λi σ' H' z=>z.1) ?_ ?_
 .exact⟨s8,R,⟨gt.len,gt.row,λx y hx hy z=>absurd z (by omega)⟩,tb8,_,_,_,_,rfl⟩
 .rintro i row wr σ' H9 H10 p Zt hwr ⟨s9,rows,rn,tb9,x14,x16,x17,x18,rfl⟩ hp9 e10 s10;have hi:i<n:=by
   have:=(Q9.mp Zt).1;rw[gt.len]at this;o_rec
  have hrl:row.length=n:=gt.row i row Zt;k_go;refine iQ (H₀:=H7) hwr (λj σ H'=>FV (ag H7 H') (λrows=>Ren n π R rows i j) (λrows=>Tbl H' d rows ps) (λrows x17 x18=>σ=[some v,I? st,I? one,I? two,some vS,I? stir,I? kind,R? du,x8,I? ((a * b * c:Nat):Int),R? dt,I? e,R? dr,R? dn,some wr,R? d,I? i,x17,x18])) ⟨s9.trans s10,rows,rn,tb9.mono s10,_,_,rfl⟩ (λj σ' H' z=>z.1) ?_ ?_
  .rintro j th wt σ'' H11 H12 p2 hth hwt ⟨s11,z!,rn2,tb11,x17,x18,rfl⟩ hp11 e12 s12;have hj:j<n:=by
    have:=(Q9.mp hth).1;omega
   cases(show wt=V.int th from hwt);have hth':th=tb R i j:=by
    have e1:=gt.get hi;rw[Zt]at e1;cases e1;have e2:=gt.dz hi hj;rw[hth]at e2;exact RW e2
   have htl:th<n:=by rw[hth'];exact gt.lt i j hi hj
   have hN12:=Rep.mono (s11.trans s12) hN7;have tb12:=tb11.mono s12;k_go;refine bh hN12 (getD_some 0 (by omega)) ?_
   k_go;refine bh hN12 (getD_some 0 (by omega)) ?_
   have iA:=mK hp hi;have iB:=mK hp hj;have hrw:z![π.getD i 0]?=some (z!.getD (π.getD i 0) []):=getD_some [] (by rw[rn2.len];exact iA)
   obtain⟨pp,hpp,hHp⟩:=tb12.get hrw;refine OF tb12 hpp ?_;k_go;refine bh hN12 (getD_some 0 (by omega)) ?_
   refine uS hHp rfl (by unfold au;rw[Rc,rn2.row _ _ hrw];exact iB) ?_
   w_up
   refine⟨λb' o z=>?_,_,?_,tb12.set hrw hpp,_,_,rfl⟩
   .rw[ak (av z (d6 pp (Rb hpp)))];exact(s11.trans s12) b' o z
   .rw[hth'];exact rn2.put hp hi hj
  .rintro σ'' H11 ⟨s11,z!,rn2,tb11,x17,x18,rfl⟩;rw[hrl]at rn2;w_up
   exact⟨s11,z!,rn2.next,tb11,_,_,_,_,rfl⟩
 .rintro σ' H9 ⟨s9,rows,rn,tb9,x14,x16,x17,x18,rfl⟩;rw[gt.len]at rn;k_go;have s07:=G!.trans s7;exact q d H9 n rows _ ps (s07.trans s9) (rn.gt hp gt) (Meta.ren rn hp gt mt) tb9 (s07.free fd) λp hp'=>s07.free (d6 p hp')
end
local macro_rules | `(tactic| walk_at "rg1")=>`(tactic| first|walk_at "rx1" | refine bA (by assumption) (by assumption) ?_|refine bO (by assumption) (by assumption) ?_|refine b8 (by assumption) (by assumption) ?_|refine bC (by assumption) (by assumption) ?_)
local macro_rules | `(tactic| walk_at "rg")=>`(tactic| repeat walk_at "rg1")
local macro_rules|`(tactic|apply $t)=>`(tactic|(fin2;refine $t))
section
variable {P:RB}{w:World} 
inductive HS(C:Addr)(K:Q7)(vs:Y6)(H:Hp)(Q:VK)(E:XK):Prop
 | mk (g:Addr) (n e a:Nat) (t:AC) (_:vs=[.ref g,.int a]) (_:aI C H g n t e) (_:GT n t e) (_:a<n) (_:Q (.int (aM n t e a:Int)) H)
theorem Bu:Fa P w base T.nZ 1 (HS T.aE K):=by
 exists T.nZ.ok l8
 obtain⟨g,n,e,a,t,rfl,hG,gt,ha,q⟩:=h;obtain⟨dx,r,b,hg,hT,hb⟩:=hG.get (K:=K);refine⟨_,(aa (pz 2 l8.nd aj)
   (aa (pz 3 l8.nd (pv 1))
   (aa (jo UI (pcm d9 (pv 3) (pfl K (pv 0))) (aa (pz 3 l8.nd (pxl K (pxl K (pfl K (pv 0)) (pv 3)) (pv 1)))
   (ae (pz 2 l8.nd (ao aY (pv 2) aj)))))
   (ae (ax (pv 2)))))),?_⟩
 obtain⟨o1,o2,o3⟩:=dW gt ha;have o4:1<=aM n t e a:=gC;symm;refine jz (λm σ' H'=>sW (H'=H) (λk=>1<=k) (λk=>k<=aM n t e a) (λk=>m=aM n t e a - k) (λk=>σ'=[R? g,I? a,I? k,I? (ay t e a k:Int)])) (aM n t e a - 1) ⟨rfl,1,Ru _,o4,rfl,by rw[oq gt ha];rfl⟩ ?_
 rintro m σ' H' ⟨rfl,k,k1,k2,rfl,rfl⟩;have kl:=bu gt ha k;symm;refine bJ (λc=>?_) (λc=>?_)
 .have k3:k<aM n t e a:=by
   rcases Rz k (aM n t e a) with z|z
   .exact z
   .have:k=aM n t e a:=by omega
    rw[this]at c;exact absurd o2 c
  refine⟨λσ2 H2=>H2=H'/\σ2=[R? g,I? a,I? ((k+1:Nat):Int),I? (ay t e a (k+1):Int)],λσ2 H2 z=>⟨aM n t e a - (k+1),by omega,z.1,k+1,by omega,k3,rfl,z.2⟩,?_⟩
  symm;refine cM hT rfl (gt.get kl) λw1 Zk=>?_;symm;refine bh Zk (gt.dz kl ha) ?_;symm;exact⟨rfl,rfl⟩
 .have k3:k=aM n t e a:=by
   rcases Rz k (aM n t e a) with z|z
   .exact absurd c (o3 k k1 z)
   .omega
  symm;rw[k3];exact q
theorem Jv(k a:Nat):(Rn k [V.int a]).flatten=au (Rn k a):=by
 unfold au
 induction k with
 | zero=>rfl
 | succ k ih=>rw[SS,TZ,ih,SS];rfl
inductive IJ(C:Addr)(K:Q7)(vs:Y6)(H:Hp)(Q:VK)(E:XK):Prop
 | mk (g:Addr) (n e a:Nat) (z:Int) (t:AC) (_:vs=[.ref g,.int a,.int z]) (_:aI C H g n t e) (_:GT n t e) (_:a<n) (_:∀H',ag H H'->Q (.int (ay t e a (z % (aM n t e a:Int)).toNat:Int)) H')
theorem lY:Fa P w base T.iK 2 (IJ T.aE K):=by
 exists T.iK.ok BE
 obtain⟨g,n,e,a,z,t,rfl,hG,gt,ha,q⟩:=h;refine⟨_,(aa (pz 3 BE.nd (ao aQ (pv 2) (pdf T.nZ (Bu T) hr (paF (pv 0) (pa1 (pv 1))))))
   (ae (ax (pdf T.iP (ot T) hr (paF (pv 0) (pa1 (ao rA (bg (pa1 (pv 1))) (pv 3)))))))),?_⟩
 have o1:=(dW gt ha).1;have o4:1<=aM n t e a:=gC;have Zw:=gt.le;symm;refine⟨g,n,e,a,t,rfl,hG,gt,ha,?_⟩;refine wO (show (0:Int)<(aM n t e a:Int) by omega) ?_
 have z1:=VI z (show (aM n t e a:Int)≠0 by omega)
 have z2:=WK z (show (0:Int)<(aM n t e a:Int) by omega)
 generalize hk:(z % (aM n t e a:Int)).toNat=k at q;have ek:z % (aM n t e a:Int)=(k:Int):=by omega
 rw[ek];symm;refine cK ?_;symm;refine⟨sK,λp hp=>?_⟩
 symm;refine⟨p,_,_,rfl,rfl,ai,by omega,by omega,?_,λp2 b!=>?_⟩
 .rw[S1];exact small (by show 1 * k<=1000;omega)
 rw[S1,Jv];have s1:ag H (upd (upd H p (.lst [.int a])) p2 (.lst (au (Rn k a)))):=(ar hp _).trans (ar b! _);symm;refine⟨g,_,n,e,t,Rn k a,rfl,aI.mono s1 hG,gt,aW ai,λx hx=>by rw[(List.mem_replicate.mp hx).2];exact ha,?_⟩
 rw[Aa];exact q _ s1
noncomputable def bX(n:Nat)(t:AC)(e:Nat):AT:=(Rh n).map (aM n t e)
theorem Ai :∀s∈bX n t e,1<=s:=λs hs=>by
 obtain⟨a,_,rfl⟩:=Rw.mp hs;exact gC
inductive HG(C:Addr)(K:Q7)(vs:Y6)(H:Hp)(Q:VK)(E:XK):Prop
 | mk (g:Addr) (n e:Nat) (t:AC) (_:vs=[.ref g]) (_:aI C H g n t e) (_:GT n t e) (_:∀k H',ag H H'->b9 (bX n t e) k->Q (.int k) H')
theorem Jy:Fa P w base T.rL 2 (HG T.aE K):=by
 exists T.rL.ok oW
 obtain⟨g,n,e,t,rfl,hG,gt,q⟩:=h;obtain⟨dx,r,b,hg,hT,hb⟩:=hG.get (K:=K);refine⟨_,(aa (dP (i:=1) rfl oW.nd rfl (V7 rfl) uo (prg T.aU (pfl K (pv 0))) (λ_ _ _ _=>⟨(pgn 0 uo.nd),bz,(pdf T.nZ (Bu T) hr (paF (pv 1) (pa1 (pv 0))))⟩) rfl)
   (aa (pz 2 oW.nd aj)
   (aa (jo UI (dA (bK (xk K rfl rfl) rfl T.Kf X2 (pa1 (bL rfl vq (pil K (pv 1)) (λ_ _ _ _=>⟨(pgn 0 vq.nd),bz,(iO d9 (ao aQ (pv 1) (pv 0)) aj (iT _))⟩))))) (ae (pz 2 oW.nd (ao aY (pv 2) aj))))
   (ae (ax (pv 2)))))),?_⟩
 have Zw:=gt.le;symm;refine qY K (n:=n) (β:=Nat) rfl (by omega) (λi=>(bX n t e).take i) (λσ'=>∃y,σ'=[y,R? g]) rfl (λi hi=>by rw[RG];omega) ⟨_,rfl⟩ ?_ ?_
 .rintro i σ' H5 d' R R0 hi hs ⟨y,rfl⟩ hR ZF dh;symm;refine⟨g,n,e,i,t,rfl,aI.mono hs hG,gt,hi,?_⟩;exact hR _ _ _ _ ⟨_,rfl⟩ (ag.refl _) rfl (cR _ _ i hi)
 intro d1 H1 s1 h1;have hlen:(bX n t e).length=n:=by simp[bX]
 have h1':At K H1 (.ref d1) (bX n t e):=by
  have z:At K H1 (.ref d1) ((bX n t e).take n):=h1;rw[RQ (by omega)]at z
  exact z
 symm;have b1:=wx (Ai (n:=n) (t:=t) (e:=e));refine jz (λm σ' H'=>qW (ag H1 H') (λk=>1<=k) (λk=>k<=bnd (bX n t e)) (λk=>m=bnd (bX n t e) - k) (λk=>(∀j,1<=j->j<k->∃s,s∈bX n t e/\j % s≠0)) (λk=>σ'=[R? g,R? d1,I? k])) (bnd (bX n t e) - 1) ⟨ag.refl _,1,Ru _,b1,rfl,λj j1 j2=>absurd j1 (by omega),rfl⟩ ?_
 rintro m σ' H2 ⟨s2,k,k1,k2,rfl,hk,rfl⟩;have h2:=Rep.mono s2 h1';symm;refine oF (β:=Bool) h2 (by omega) (λi=>((bX n t e).map λs=>!decide (k % s=0)).take i) (λσ'=>∃y,σ'=[y,I? k]) rfl (λi hi=>by rw[RG];omega) ⟨_,rfl⟩ ?_ ?_
 .rintro i c w' σ' H3 d' R R0 hc hs hw ⟨y,rfl⟩ hR ZF dh;k_exc;have c1:0<c:=Ai c (Rb hc);symm;refine hR _ _ (!decide (k % c=0)) _ ⟨_,rfl⟩ (ag.refl _) rfl ?_;rw[RM,Ro,hc];rfl
 intro d2 H3 s3 h3;have h3':At K H3 (.ref d2) ((bX n t e).map λs=>!decide (k % s=0)):=by
  have z:At K H3 (.ref d2) (((bX n t e).map λs=>!decide (k % s=0)).take (bX n t e).length):=h3;rw[RQ (by simp)]at z
  exact z
 symm;refine JE h3' ?_;symm;cases Zi:((bX n t e).map λs=>!decide (k % s=0)).any id with
 | true =>
  refine vX ?_;have ex:∃s,s∈bX n t e/\k % s≠0:=by
   obtain⟨x,hx,ex⟩:=V4.mp Zi;obtain⟨s,hs,rfl⟩:=Rw.mp hx;exact⟨s,hs,by simpa using ex⟩
  have k3:k<bnd (bX n t e):=by
   rcases Rz k (bnd (bX n t e)) with z|z
   .exact z
   .have ek:k=bnd (bX n t e):=by omega
    obtain⟨s,hs,z⟩:=ex;rw[ek]at z;exact absurd (wz hs) z
  refine⟨λσ2 H4=>ag H1 H4/\σ2=[R? g,R? d1,I? ((k+1:Nat):Int)],λσ2 H4 z=>⟨bnd (bX n t e) - (k+1),by omega,z.1,k+1,by omega,k3,rfl,λj j1 j2=>?_,z.2⟩,?_⟩
  .rcases Rz j k with z' | z'
   .exact hk j j1 z'
   .have:j=k:=by omega
    rw[this];exact ex
  symm;exact⟨s2.trans s3,rfl⟩
 | false =>
  refine de ?_;symm;refine q k H3 (s1.trans (s2.trans s3)) ⟨k1,λs hs=>?_,hk⟩;rw[VL]at Zi;have:=Zi _ (Rw.mpr ⟨s,hs,rfl⟩)
  simpa using this
noncomputable def Qp:Option Nat->V
 | some b=>.int b
 | none=>.non
noncomputable def QY(n:Nat)(t:AC)(a:Nat):Prop:=∀b,b<n->tb t a b=tb t b a
noncomputable instance :Decidable (QY n t a):=inferInstanceAs (Decidable (∀b,b<n->tb t a b=tb t b a))
inductive Ft(C:Addr)(K:Q7)(vs:Y6)(H:Hp)(Q:VK)(E:XK):Prop
 | mk (g:Addr) (n e a b:Nat) (t:AC) (_:vs=[.ref g,.int a,.int b]) (_:aI C H g n t e) (_:GT n t e) (_:a<n) (_:b<n) (_:∀H',ag H H'->Q (.int (aO n t e a b:Int)) H')
theorem mw:Fa P w base T.iG 2 (Ft T.aE K):=by
 exists T.iG.ok F2
 obtain⟨g,n,e,a,b,t,rfl,hG,gt,ha,hb,q⟩:=h;obtain⟨dx,r,bk,hg,hT,hB⟩:=hG.get (K:=K);refine⟨_,(ae (ax (pdf T.iP (ot T) hr (paF (pv 0) (pa1 (bg (paF (pv 2) (paF (pv 1) (pa1 (pxl K (pfl K (pv 0)) (pv 2))))))))))),?_⟩;symm;refine cK ?_;symm;refine bh hB (vL hb) ?_;symm;refine⟨small (by show 3<=1000;decide),λp hp=>?_⟩
 have s1:ag H (upd H p (.lst (au [b,a,az n t e b]))):=ar hp _;symm;refine⟨g,_,n,e,t,[b,a,az n t e b],rfl,aI.mono s1 hG,gt,aW ai,λx hx=>?_,?_⟩
 .simp only[RA,Tb,or_false]at hx;rcases hx with rfl|rfl|rfl
  .exact hb
  .exact ha
  .exact gt.bp hb
 .have e1:prd t e [b,a,az n t e b]=aO n t e a b:=by
   show tb t (tb t (tb t e b) a) (az n t e b)=_;rw[gt.unl b hb];rfl
  rw[e1];exact q _ s1
noncomputable def zr(t:AC)(a:Nat)(l:AT):Prop:=∀b∈l,tb t a b=tb t b a
noncomputable instance :Decidable (zr t a l):=inferInstanceAs (Decidable (∀b∈l,tb t a b=tb t b a))
inductive By(C:Addr)(K:Q7)(vs:Y6)(H:Hp)(Q:VK)(E:XK):Prop
 | mk (g:Addr) (v:V) (n e a:Nat) (t:AC) (l:AT) (_:vs=[.ref g,.int a,v]) (_:aI C H g n t e) (_:GT n t e) (_:a<n) (_:At K H v l) (_:(∀x∈l,x<n)) (_:Q (.bl (decide (zr t a l))) H)
theorem BA:Fa P w base T.jN 1 (By T.aE K):=by
 exists T.jN.ok qU
 obtain⟨g,v,n,e,a,t,l,rfl,hG,gt,ha,hl,Zd,q⟩:=h;obtain⟨dx,r,bk,hg,hT,hB⟩:=hG.get (K:=K);refine⟨_,(aa (pfo (pil K (pv 2)) (pgn 3 qU.nd) (ae (aK (pcm d9 (pxl K (pxl K (pfl K (pv 0)) (pv 1)) (pv 3)) (pxl K (pxl K (pfl K (pv 0)) (pv 3)) (pv 1))) (ae (ax b6)) aG)))
   (ae (ax b6))),?_⟩
 symm;refine dB hl (λi σ H'=>iU (H'=H) ((∀b∈l.take i,tb t a b=tb t b a)) (λy=>σ=[R? g,I? a,some v,y])) ⟨rfl,by simp,_,rfl⟩ (λi σ H' h=>by rw[h.1];exact ag.refl _) ?_ ?_
 .rintro i c w' σ' H' hc hw ⟨rfl,hf,y,rfl⟩;k_exc;have hcm:=Rb hc;have hi:=Zd c hcm;symm;k_ne;symm;refine cM hT rfl (gt.get ha) λw1 Zk=>?_;symm;refine bh Zk (gt.dz ha hi) ?_;symm;refine cM hT rfl (gt.get hi) λw2 Y'=>?_;symm;refine bh Y' (gt.dz hi ha) ?_;symm;refine bJ (λz=>?_) (λz=>?_)
  .symm;rw[decide_eq_false (λk:zr t a l=>z (k c hcm))]at q;exact q
  .symm;refine⟨rfl,λb hb=>?_,_,rfl⟩;rw[RM,hc]at hb;rcases Rq.mp hb with k|k
   .exact hf b k
   .rw[Rj.mp k];exact z
 .rintro σ' H' ⟨rfl,hf,y,rfl⟩;rw[Sr]at hf;symm;rw[decide_eq_true (show zr t a l from hf)]at q;exact q
inductive B1(C:Addr)(K:Q7)(vs:Y6)(H:Hp)(Q:VK)(E:XK):Prop
 | mk (g:Addr) (n e a:Nat) (t:AC) (_:vs=[.ref g,.int a]) (_:aI C H g n t e) (_:GT n t e) (_:a<n) (_:∀d H',H d=none->ag H H'->H' d=some (.lst (au (cls n t e a)))->Q (.ref d) H')
theorem Cy:Fa P w base T.kQ 3 (B1 T.aE K):=by
 exists T.kQ.ok Ck
 obtain⟨g,n,e,a,t,rfl,hG,gt,ha,q⟩:=h;obtain⟨dx,gr,gb,hg,hT,hB⟩:=hG.get (K:=K);have Zw:=gt.le;refine⟨_,(ae (ax (bK (pK w rfl rfl) rfl T.fX S5 (paF (cb (uV K rfl w rfl rfl) rfl T.JN X3 (pa1 (bL rfl pW (prg T.aU (pfl K (pv 0))) (λ_ _ _ _=>⟨(pgn 0 pW.nd),bz,(pdf T.iG (mw T) hr (paF (pv 1) (paF (pv 2) (pa1 (pv 0)))))⟩)))) bZ)))),?_⟩;apply bA T hg ?_;refine kO K (n:=n) (β:=Nat) rfl (by omega) (λi=>((Rh n).map (aO n t e a)).take i) (λσ'=>∃y,σ'=[y,R? g,I? a]) rfl (λi _=>by rw[RG];omega) ⟨_,rfl⟩ ?_ ?_
 .rintro i σ' H1 d' R R0 hi hs ⟨y,rfl⟩ hR ZF dh;apply⟨g,n,e,a,i,t,rfl,hG.mono hs,gt,ha,hi,λH2 s2=>?_⟩;exact hR _ _ _ _ ⟨_,rfl⟩ s2 rfl (cR _ n i hi)
 intro dc H1 fc s1 h1;have g1:Gr K H1 dc (((Rh n).map (aO n t e a)).take n):=h1;rw[RQ (by simp)]at g1
 have Zd:∀x∈(Rh n).map (aO n t e a),x<n:=λx hx=>by
  obtain⟨b,hb,rfl⟩:=Rw.mp hx;exact CS gt ha (Ri.mp hb)
 apply Fw g1.at (λx hx=>by have:=Zd x hx;omega) λsa ks fs hks nd=>?_
 exists fs,(fC w sa ks),H1,sa,s2,h2,(fC w sa ks),H2;apply xV h2 λsd sl fd hp hs=>?_;k_upd;have e1:sl=cls n t e a:=eG (jX (hp.nodup_iff.mpr nd) hs) jA λx=>by
  rw[hp.mem_iff,hks x,jG gt ha,Rw];exact⟨λ⟨b,hb,h⟩=>⟨b,Ri.mp hb,h⟩,λ⟨b,hb,h⟩=>⟨b,Ri.mpr hb,h⟩⟩
 rw[e1];exact q sd _ (Zf.free fd) (Zf.trans (ar fd _)) ai
noncomputable def tK(F:AT):Y1:=F.map λk=>(nk k,V.bl true)
theorem vY:∀ {F:AT} {f:Nat},f∉F->bq (tK F) (nk f)=none
 | [],_,_=>rfl
 | a :: F,f,h=>by
  show bq ((nk a,V.bl true) :: tK F) (nk f)=none;rw[cC (λz=>h (by rw[gK z];exact Rr))]
  exact vY λz=>h (Rp _ z)
theorem Dh:∀ {F:AT} {f:Nat},f∈F->(bq (tK F) (nk f)).isSome=true
 | a :: F,f,h=>by
  by_cases c:a=f
  .subst c;show (bq ((nk a,V.bl true) :: tK F) (nk a)).isSome=true;rw[cZ rfl];rfl
  .show (bq ((nk a,V.bl true) :: tK F) (nk f)).isSome=true;rw[cC (λz=>c (gK z))];rcases RA.mp h with z|z
   .exact absurd z.symm c
   .exact Dh z
theorem Qn{f:Nat}:(bq (tK F) (nk f)).isSome=decide (f∈F):=by
 by_cases h:f∈F
 .rw[Dh h,decide_eq_true h]
 .rw[vY h,decide_eq_false h];rfl
theorem KO{f:Nat}(h:f∉F):putK (tK F) (nk f) (.bl true)=tK (F++[f]):=by
 rw[pD _ (vY h)];unfold tK;rw[R3];rfl
theorem KL{a:Addr}(h:Tbl H d L ps)(n1:a≠d)(n2:a∉ps):Tbl (del H a) d L ps :=
 ⟨by rw[bS n1.symm];exact h.top,h.nd,h.ap,h.len,λi p r e1 e2=>by rw[bS (λz:p=a=>n2 (by rw[<- z];exact Rb e1))];exact h.row i p r e1 e2⟩
theorem dE{a:Addr}:ag (del H a) H:=λb o z=>by
 by_cases c:b=a
 .subst c;unfold del at z;rw[if_pos rfl]at z;cases z
 .rw[bS c]at z;exact z
inductive DW(C:Addr)(vs:Y6)(H:Hp)(Q:VK)(E:XK):Prop
 | mk (g:Addr) (n e:Nat) (t:AC) (_:vs=[.ref g]) (_:aI C H g n t e) (_:GT n t e) (_:∀d H' ps,H d=none->(∀p∈ps,H p=none)->ag H H'->Tbl H' d (gG n t e n) ps->Q (.ref d) H')
theorem um:Fa P w base T.j7 4 (DW T.aE):=by
 exists T.j7.ok gm
 obtain⟨g,n,e,t,rfl,hG,gt,q⟩:=h;obtain⟨dx,gr,gb,hg,hT,hB⟩:=hG.get (K:=K);have Zw:=gt.le;refine⟨_,(aa (pz 1 gm.nd (bg bZ))
   (aa (pz 2 gm.nd mj)
   (aa (pfo (prg T.aU (pfl K (pv 0))) (pgn 3 gm.nd) (ae (aK (nV (qj (bY hr) (pv 3) (pv 2))) (aa (pz 4 gm.nd (pdf T.kQ (Cy T) hr (paF (pv 0) (pa1 (pv 3)))))
   (aa (aZ (pap K (pv 1) (pv 4)))
   (ae (pfo (pil K (pv 4)) (pgn 5 gm.nd) (ae (lC (bY hr) (pv 2) (pv 5) b6 rfl)))))) aG)))
   (ae (ax (pv 1)))))),?_⟩
 apply cK ?_;apply⟨sB,λdf ZW=>?_⟩
 have s1:=ar ZW (.lst []);have t1:Tbl (upd H df (.lst [])) df [] []:=Tbl.nil;generalize upd H df (.lst [])=H1 at s1 t1;apply rC λdw Y!=>?_;exists Y!,(.dK []),H1,dw,s2,w2,(.dK (tK [])),H2;have nwf:dw≠df:=(bF t1.top Y!).symm;have hdw0:H dw=none:=s1.free Y!;apply bA T ((s1.trans s2) _ _ hg) ?_;refine bf (n:=n) rfl (by omega) (λi σ' H'=>mr (ag H H') (λ(ps:Y9) (S:AT) (x3:Z4) (x4:Z4) (x5:Z4)=>Tbl H' df (gG n t e i) ps) (λps S x3 x4 x5=>(∀p∈ps,H p=none)) (λps S x3 x4 x5=>dw∉ps) (λps S x3 x4 x5=>H' dw=some (.dK (tK S))) (λps S x3 x4 x5=>S=(gG n t e i).flatten) (λps S x3 x4 x5=>S.Nodup) (λps S x3 x4 x5=>σ'=[R? g,R? df,R? dw,x3,x4,x5])) ⟨s1.trans s2,[],[],_,_,_,t1.mono s2,(λp hp=>by cases hp),(λhp=>by cases hp),w2,rfl,Vj,rfl⟩ ?_ ?_
 .rintro i σ' H3 hi ⟨s3,ps,S,x3,x4,x5,e!,hps,nwp,w3,hS,nd,rfl⟩;have seen:∀x,x∈S↔∃y,y<i/\x∈cls n t e y:=λx=>by rw[hS];exact HW gt (by omega)
  have fs:=B5 (n:=n) (t:=t) (e:=e) i;have Sl:S.length<=n:=cE nd λx hx=>by obtain⟨y,_,h⟩:=(seen x).mp hx;exact qX h
  fin2;k_ne;apply qB ?_;apply tX w3 ?_;rw[Qn];apply bJ (λz=>?_) (λz=>?_)
  .have led:∀y,y<i->i∉cls n t e y:=λy hy h=>z ((seen i).mpr ⟨y,hy,h⟩);rw[if_pos led]at fs;have cL:gG n t e (i+1)=gG n t e i++[cls n t e i]:=by unfold gG;rw[fs,R3];rfl
   apply⟨g,n,e,i,t,rfl,hG.mono s3,gt,hi,λdr H4 fdr s4 hr4=>?_⟩;have Zo:=s3.trans s4;have nrf:dr≠df:=(bF e!.top fdr).symm;have nrw:dr≠dw:=(bF w3 fdr).symm;have nrp:dr∉ps:=λz=>by
    obtain⟨k,hk⟩:=RD z;have Zv:k<(gG n t e i).length:=by rw[<- e!.len];exact(Q9.mp hk).1
    have:=e!.row k dr _ hk (Q8 Zv);rw[fdr]at this;cases this
   have pl:ps.length<=23:=by
    rw[e!.len];unfold gG;rw[Rc];exact RU (iy _ i) (by omega)
   have top4:=s4 _ _ e!.top;apply⟨.inl ⟨rfl,_,SqL.of top4⟩,?_⟩;apply⟨df,_,_,rfl,rfl,top4,Sf (show (ps.map V.ref).length<=1000 by rw[Rc];omega) (by rw[RO];decide),?_⟩
   have tb5:=e!.snoc s4 hr4 nrp nrf;rw[<- cL]at tb5;have ZM:ag H (upd H4 df (.lst (ps.map V.ref++[V.ref dr]))):=λb o y=>by rw[ak (av y ZW)];exact Zo _ _ y
   have w5:(upd H4 df (.lst (ps.map V.ref++[V.ref dr]))) dw=some (.dK (tK S)):=by rw[ak nwf];exact s4 _ _ w3
   have r5:(upd H4 df (.lst (ps.map V.ref++[V.ref dr]))) dr=some (.lst (au (cls n t e i))):=by rw[ak nrf];exact hr4
   generalize upd H4 df (.lst (ps.map V.ref++[V.ref dr]))=H5 at tb5 ZM w5 r5;have nwp5:dw∉ps++[dr]:=λy=>by
    rcases Rq.mp y with y|y
    .exact nwp y
    .exact nrw (Rj.mp y).symm
   have tbX:=KL tb5 nwf nwp5;have rX:(del H5 dw) dr=some (.lst (au (cls n t e i))):=by rw[bS nrw];exact r5
   have sX:ag H (del H5 dw):=λb o y=>by rw[bS (av y hdw0)];exact ZM _ _ y
   have nd1:∀x∈cls n t e i,x∉S:=λx hx ZO=>by
    obtain⟨y,hy,h⟩:=(seen x).mp ZO;exact led y hy (qe gt (by omega) h (vR gt hi hx))
   apply dY (H₀:=del H5 dw) (α:=Nat) (aW rX) (λj σ' H'=>u9 (ag (del H5 dw) H') (λ(x5:Z4)=>H' dw=some (.dK (tK (S++(cls n t e i).take j)))) (λx5=>σ'=[R? g,R? df,R? dw,I? i,R? dr,x5])) ⟨dE,_,by simpa using w5,rfl⟩ (λi σ' H' z=>z.1) ?_ ?_
   .rintro j c w' σ' H6 hc hw ⟨s6,x5,w6,rfl⟩;k_exc;have hcm:=Rb hc;have jl:=(Q9.mp hc).1;have cnt:c∉S++(cls n t e i).take j:=λy=>by
     rcases Rq.mp y with y|y
     .exact nd1 c hcm y
     .obtain⟨k,hk⟩:=RD y;have kj:k<j:=by
       have:=(Q9.mp hk).1;rw[RG]at this;omega
      rw[SK kj]at hk;obtain⟨k1,k2⟩:=Q9.mp hk;obtain⟨c1,c2⟩:=Q9.mp hc;have:=R7.mp (jA (n:=n) (t:=t) (e:=e) (a:=i)) k j k1 c1 kj;omega
    have cl:(cls n t e i).length<=n:=cE (aB jA) λx hx=>qX hx;apply lA ?_;apply nD w6 (by unfold tK;rw[Rc,Rt,RG];omega) ?_
    rw[KO cnt];w_up
    refine⟨λb o y=>?_,_,?_,rfl⟩
    .have nb:b≠dw:=λy'=>by rw[y']at y;unfold del at y;rw[if_pos rfl]at y;cases y
     rw[ak nb];exact s6 _ _ y
    .rw[ai,Uw];have:(cls n t e i).take (j+1)=(cls n t e i).take j++[c]:=by rw[RM,hc];rfl
     rw[this]
   .rintro σ' H6 ⟨s6,x5,w6,rfl⟩;rw[Sr]at w6;apply⟨sX.trans s6,ps++[dr],S++cls n t e i,_,_,_,tbX.mono s6,λp hp=>?_,nwp5,w6,?_,?_,rfl⟩
    .rcases Rq.mp hp with y|y
     .exact hps p y
     .rw[Rj.mp y];exact s3.free fdr
    .rw[cL,UR,hS];simp
    .refine Uy.mpr ⟨nd,aB jA,λx hx y hy q=>?_⟩;subst q;exact nd1 x hy hx
  .have nled:¬ ∀y,y<i->i∉cls n t e y:=λl=>by
    obtain⟨y,hy,h⟩:=(seen i).mp z;exact l y hy h
   rw[if_neg nled]at fs;have cL:gG n t e (i+1)=gG n t e i:=by unfold gG;rw[fs]
   fin2;exact⟨s3,ps,S,_,_,_,by rw[cL];exact e!,hps,nwp,w3,by rw[cL];exact hS,nd,rfl⟩
 .rintro σ' H3 ⟨s3,ps,S,x3,x4,x5,e!,hps,nwp,w3,hS,nd,rfl⟩;fin2;exact q df H3 ps ZW hps s3 e!
end
noncomputable def Qq(H:Hp)(x:V):Option (Nat×Nat)->Prop
 | none=>x=.non
 | some (a,b)=>∃p,x=.ref p/\H p=some (.tup [.int a,.int b])
inductive IK(C:Addr)(K:Q7)(vs:Y6)(H:Hp)(Q:VK)(E:XK):Prop
 | mk (g:Addr) (v:V) (n e:Nat) (t:AC) (R:AT) (_:vs=[.ref g,v]) (_:aI C H g n t e) (_:GT n t e) (_:At K H v R) (_:IsPart n t R) (_:∀d H' L ps,H d=none->(∀p∈ps,H p=none)->ag H H'->Tbl H' d L ps->y9 n t e R L->Q (.ref d) H')
inductive Ik(C:Addr)(K:Q7)(vs:Y6)(H:Hp)(Q:VK)(E:XK):Prop
 | mk (g:Addr) (v:V) (n e:Nat) (t:AC) (R:AT) (_:vs=[.ref g,v]) (_:aI C H g n t e) (_:GT n t e) (_:At K H v R) (_:IsPart n t R) (_:∀d H' M,H d=none->ag H H'->Gr K H' d M->Gen n t e (fG n t e R) M->Q (.ref d) H')
inductive D3(C:Addr)(K:Q7)(vs:Y6)(H:Hp)(Q:VK)(E:XK):Prop
 | mk (g:Addr) (v:V) (n e:Nat) (t:AC) (S:AT) (_:vs=[.ref g,v]) (_:aI C H g n t e) (_:GT n t e) (_:At K H v S) (_:(∀s∈S,s<n)) (_:S.length<=63) (_:∀p dp dw H' R W pw,H dp=none->H dw=none->(∀q∈pw,H q=none)->dp≠dw->dp∉pw->ag H H'->H' p=some (.tup [.ref dp,.ref dw])->H' dp=some (.lst (au R))->Tbl H' dw W pw->Gen n t e S R->Words n t e S R W->Q (.ref p) H')
section
variable {P:RB}{w:World} 
theorem IsPart.ig(h:IsPart n t R)(g:GT n t e):R.length<=23:=RU h.len g.le
inductive yA(C:Addr)(K:Q7)(vs:Y6)(H:Hp)(Q:VK)(E:XK):Prop
 | mk (g:Addr) (v:V) (n e:Nat) (t:AC) (R:AT) (_:vs=[.ref g,v]) (_:aI C H g n t e) (_:GT n t e) (_:At K H v R) (_:(∀x∈R,x<n)) (_:R.length<=64) (_:∀H',ag H H'->Q (.bl true) H')
theorem ym:Fa P w base T.i8 1 (yA T.aE K):=by
 exists T.i8.ok yy
 obtain⟨g,v,n,e,t,R,rfl,hG,gt,hR,Zd,hlen,q⟩:=h;obtain⟨dx,r,bk,hg,hT,hB⟩:=hG.get (K:=K);refine⟨_,(ae (ax (bK (xw K rfl rfl) rfl T.J7 X4 (pa1 (bL rfl mC (pil K (pv 1)) (λ_ _ _ _=>⟨(pgn 0 mC.nd),bz,(uC (iO oH (pv 0) aj (iT _)) (Aj (iO jI (pv 0) (pfl K (pv 1)) (iT _))))⟩)))))),?_⟩;symm;refine oF (β:=Bool) hR (by omega) (λi=>Rn i true) (λσ'=>∃y,σ'=[y,R? g]) rfl (λi hi=>by simp) ⟨_,rfl⟩ ?_ ?_
 .walk_at "124";have hg3:=hs _ _ hg;have c1:=Zd c (Rb hc);symm;refine aV (λ_=>?_) (λz=>absurd (R5 _) z);symm;rw[decide_eq_true c1];exact Zx _ _ true _ ⟨_,rfl⟩ (ag.refl _) rfl Vi
 intro d2 H3 s3 h3;symm;refine GQ h3 ?_;rw[show (Rn R.length true).all id=true by simp]
 exact q H3 s3
inductive Hm(K:Q7)(vs:Y6)(H:Hp)(Q:VK)(E:XK):Prop
 | mk (v:V) (R:AT) (_:vs=[v]) (_:At K H v R) (_:R≠[]) (_:R.Pairwise (· < ·)) (_:R.length<=64) (_:∀H',ag H H'->Q (.bl true) H')
theorem Jn:Fa P w base T.rQ 1 (Hm K):=by
 exists T.rQ.ok IH
 obtain⟨v,R,rfl,hR,ne,srt,hlen,q⟩:=h;have l0:0<R.length:=RJ.mpr ne;refine⟨_,(ae (ax (bK (xw K rfl rfl) rfl T.J7 X4 (pa1 (bL rfl uP (prg T.aU (ao gQ (pln K T.bo (pv 0)) aj)) (λ_ _ _ _=>⟨(pgn 0 uP.nd),bz,(iO jI (pxl K (pv 1) (pv 0)) (pxl K (pv 1) (ao aY (pv 0) aj)) (iT _))⟩)))))),?_⟩;symm;refine qY K (n:=R.length - 1) (β:=Bool) (by omega) (by omega) (λi=>Rn i true) (λσ'=>∃y,σ'=[y,some v]) rfl (λi hi=>by simp) ⟨_,rfl⟩ ?_ ?_
 .rintro i σ' H3 d' R' R0 hi hs ⟨y,rfl⟩ Zx ZF dh;have hR3:=Rep.mono hs hR;symm;refine bh hR3 (Q8 (by omega)) ?_
  symm;refine bh hR3 (Q8 (by omega)) ?_
  symm;rw[decide_eq_true ((R7.mp srt) i (i+1) (by omega) (by omega) (by omega))]
  exact Zx _ _ true _ ⟨_,rfl⟩ (ag.refl _) rfl Vi
 intro d2 H3 s3 h3;symm;refine GQ h3 ?_;rw[show (Rn (R.length - 1) true).all id=true by simp]
 exact q H3 s3
inductive sj(C:Addr)(K:Q7)(vs:Y6)(H:Hp)(Q:VK)(E:XK):Prop
 | mk (g:Addr) (v:V) (n e:Nat) (t:AC) (R:AT) (_:vs=[.ref g,v]) (_:aI C H g n t e) (_:GT n t e) (_:At K H v R) (_:IsPart n t R) (_:Q (.bl true) H)
theorem sh:Fa P w base T.fD 1 (sj T.aE K):=by
 exists T.fD.ok gH
 obtain⟨g,v,n,e,t,R,rfl,hG,gt,hR,pt,q⟩:=h;obtain⟨dx,r,bk,hg,hT,hB⟩:=hG.get (K:=K);refine⟨_,(aa (pfo (pil K (pv 1)) (pgn 2 gH.nd) (ae (pfo (pil K (pv 1)) (pgn 3 gH.nd) (ae (aK (lE (kg K rfl) (pxl K (pxl K (pfl K (pv 0)) (pv 2)) (pv 3)) (pv 1) (by with_unfolding_all rfl)) (ae (ax b6)) aG)))))
   (ae (ax b6))),?_⟩
 symm;refine dB hR (λi σ H'=>qT (H'=H) (λx y=>σ=[R? g,some v,x,y])) ⟨rfl,_,_,rfl⟩ (λi σ H' h=>by rw[h.1];exact ag.refl _) ?_ ?_
 .rintro i a w' σ' H' ha hw ⟨rfl,x,y,rfl⟩;cases(show w'=V.int a from hw);have Z!:=Rb ha;symm;refine dB hR (λi σ Zn=>hX (Zn=H') (λy=>σ=[R? g,some v,I? a,y])) ⟨rfl,_,rfl⟩ (λi σ H' h=>by rw[h.1];exact ag.refl _) ?_ ?_
  .rintro j b w2 σ' Zn hb Y' ⟨rfl,y,rfl⟩;cases(show w2=V.int b from Y');have hbR:=Rb hb;symm;k_ne;symm;refine cM hT rfl (gt.get (pt.lt a Z!)) λw1 Zk=>?_;symm;refine bh Zk (gt.dz (pt.lt a Z!) (pt.lt b hbR)) ?_;symm;refine bJ (λz=>absurd (pt.cl a Z! b hbR) z) (λ_=>?_);symm;exact⟨rfl,_,rfl⟩
  .rintro σ' Zn ⟨rfl,y,rfl⟩;w_up
   exact⟨rfl,_,_,rfl⟩
 .rintro σ' H' ⟨rfl,x,y,rfl⟩;symm;exact q
inductive D8(C:Addr)(K:Q7)(vs:Y6)(H:Hp)(Q:VK)(E:XK):Prop
 | mk (g:Addr) (v:V) (n e:Nat) (t:AC) (R:AT) (_:vs=[.ref g,v]) (_:aI C H g n t e) (_:GT n t e) (_:At K H v R) (_:IsPart n t R) (_:∀H',ag H H'->Q (.bl true) H')
theorem EL:Fa P w base T.mO 2 (D8 T.aE K):=by
 exists T.mO.ok DZ
 obtain⟨g,v,n,e,t,R,rfl,hG,gt,hR,pt,q⟩:=h;have l0:0<R.length:=RJ.mpr pt.ne;have l23:=pt.ig gt;refine⟨_,(ae (ax (uC (iO iW (pln K T.bo (pv 1)) aj (iT _)) (uC (pdf T.i8 (ym T) hr (paF (pv 0) (pa1 (pv 1)))) (uC (pdf T.rQ (Jn T) hr (pa1 (pv 1))) (Aj (pdf T.fD (sh T) hr (paF (pv 0) (pa1 (pv 1)))))))))),?_⟩;symm;refine aV (λ_=>?_) (λz=>absurd l0 z);symm;refine⟨g,v,n,e,t,R,rfl,hG,gt,hR,pt.lt,by omega,λH1 s1=>?_⟩
 symm;refine⟨v,R,rfl,Rep.mono s1 hR,pt.ne,pt.srt,by omega,λH2 s2=>?_⟩
 symm;k_upd;exact⟨g,v,n,e,t,R,rfl,hG.mono Zf,gt,Rep.mono Zf hR,pt,q H2 Zf⟩
inductive yC(C:Addr)(K:Q7)(vs:Y6)(H:Hp)(Q:VK)(E:XK):Prop
 | mk (g:Addr) (v:V) (n e:Nat) (t:AC) (R:AT) (_:vs=[.ref g,v]) (_:aI C H g n t e) (_:GT n t e) (_:At K H v R) (_:IsPart n t R) (_:∀H',ag H H'->Q .non H')
theorem ip:Fa P w base T.dU 3 (yC T.aE K):=by
 exists T.dU.ok yV
 obtain⟨g,v,n,e,t,R,rfl,hG,gt,hR,pt,q⟩:=h;refine⟨_,(ae (aK (eR (dA (pdf T.mO (EL T) hr (paF (pv 0) (pa1 (pv 1)))))) (ae c9) aG)),?_⟩;symm;k_ne;symm;refine⟨g,v,n,e,t,R,rfl,hG,gt,hR,pt,λH1 s1=>?_⟩;symm;refine de ?_;symm;exact q H1 s1
inductive DR(C:Addr)(K:Q7)(vs:Y6)(H:Hp)(Q:VK)(E:XK):Prop
 | mk (g:Addr) (v:V) (n e x:Nat) (t:AC) (R:AT) (_:vs=[.ref g,v,.int x]) (_:aI C H g n t e) (_:GT n t e) (_:At K H v R) (_:IsPart n t R) (_:x<n) (_:∀d H' s,H d=none->ag H H'->Gr K H' d s->s.Pairwise (· < ·)->(∀y,y∈s↔∃k,k∈R/\tb t x k=y)->Q (.ref d) H')
theorem EX:Fa P w base T.mS 1 (DR T.aE K):=by
 exists T.mS.ok Em
 obtain⟨g,v,n,e,x,t,R,rfl,hG,gt,hR,pt,hx,q⟩:=h;obtain⟨dx,r,bk,hg,hT,hB⟩:=hG.get (K:=K);have l23:=pt.ig gt;refine⟨_,(ae (ax (bK (qw K rfl) rfl T.fX S5 (pa1 (bL rfl p7 (pil K (pv 1)) (λ_ _ _ _=>⟨(pgn 0 p7.nd),bz,(pxl K (pxl K (pfl K (pv 1)) (pv 2)) (pv 0))⟩)))))),?_⟩;symm;refine oF (β:=Nat) hR (by omega) (λi=>(R.map λk=>tb t x k).take i) (λσ'=>∃y,σ'=[y,R? g,I? x]) rfl (λi hi=>by rw[RG];omega) ⟨_,rfl⟩ ?_ ?_
 .walk_at "124";have hg3:=hs _ _ hg;have hT3:=Rep.mono hs hT;have c1:=pt.lt c (Rb hc);symm;refine cM hT3 rfl (gt.get hx) λw1 Zk=>?_;symm;refine bh Zk (gt.dz hx c1) ?_;refine Zx _ _ (tb t x c) _ ⟨_,rfl⟩ (ag.refl _) rfl ?_;rw[RM,Ro,hc];rfl
 intro d2 H3 s3 h3;have h3':At K H3 (.ref d2) (R.map λk=>tb t x k):=by
  have z:At K H3 (.ref d2) ((R.map λk=>tb t x k).take R.length):=h3;rw[RQ (by simp)]at z
  exact z
 apply AH h3' (by rw[Rc];omega) λd l' H4 hd s4 M! hsr g4=>?_
 have nd:(R.map λk=>tb t x k).Nodup:=by
  have z:=aB pt.srt;unfold List.Nodup at z ⊢;rw[Vd];exact z.imp_of_mem λha hb Zj c=>Zj (gt.dC hx (pt.lt _ ha) (pt.lt _ hb) c)
 refine q d H4 l' (s3.free hd) (s3.trans s4) g4 (jX (M!.nodup_iff.mpr nd) hsr) λy=>?_;rw[M!.mem_iff,Rw]
theorem Js:Fa P w base T.r6 4 (IK T.aE K):=by
 exists T.r6.ok AE
 obtain⟨g,v,n,e,t,R,rfl,hG,gt,hR,pt,q⟩:=h;have Zw:=gt.le;refine⟨_,(aa (aZ (pdf T.dU (ip T) hr (paF (pv 0) (pa1 (pv 1)))))
   (aa (dP (i:=2) rfl AE.nd rfl (V7 rfl) uD (prg T.aU (pfl K (pv 0))) (λ_ _ _ _=>⟨(pgn 0 uD.nd),bz,(pdf T.mS (EX T) hr (paF (pv 1) (paF (pv 2) (pa1 (pv 0)))))⟩) rfl)
   (ae (ax (bL rfl uu (iE K rfl rfl T.eL (pa1 (pv 2))) (λ_ _ _ _=>⟨(zZ K rfl (i:=0) (j:=1) rfl uu.nd rfl (V7 rfl) rfl (V7 rfl)),(LX (pcm cU (pxl K (pv 1) aj) (pv 0))),(pv 1)⟩)))))),?_⟩
 symm;refine⟨g,v,n,e,t,R,rfl,hG,gt,hR,pt,λH1 s1=>?_⟩;have hG1:=hG.mono s1;have hR1:=Rep.mono s1 hR;obtain⟨dx,r,bk,hg,hT,hB⟩:=hG1.get (K:=K);symm;refine D5 (n:=n) rfl (by omega) (λd i σ' H' ys=>p6 (ag H1 H') (λ(L:AC) (ps:Y9) (y:Z4)=>Tbl H' d L ps) (λL ps y=>ys=ps.map V.ref) (λL ps y=>ps.length=i) (λL ps y=>(∀p∈ps,H1 p=none)) (λL ps y=>(∀ (j:Nat) (s:AT),L[j]?=some s->s.Pairwise (· < ·)/\∀y,y∈s↔∃k,k∈R/\tb t j k=y)) (λL ps y=>σ'=[y,R? g,some v]))
  (λd i σ' H' ys hi ⟨_,L,ps,y,_,e1,e2,_,_,_⟩=>by rw[e1,Rc,e2];exact Ru _) (λd hd=>⟨ar hd _,[],[],_,Tbl.nil,rfl,rfl,by simp,by simp,rfl⟩) ?_ ?_
 .rintro d i σ' H' ys R' R0 hd hi ⟨s2,L,ps,y,p!,rfl,hl,d6,hL,rfl⟩ Hx Zx ZF;symm;refine⟨g,v,n,e,i,t,R,rfl,hG1.mono s2,gt,Rep.mono s2 hR1,pt,hi,λp H3 sd fp s3 g3 srt hm=>?_⟩;have hp:=fL g3;have hdl:H3 d=some (.lst (ps.map V.ref)):=s3 _ _ p!.top;have hpd:p≠d:=λc=>by rw[c,p!.top]at fp;cases fp
  refine Zx _ _ _ hdl ⟨λb o z=>?_,L++[sd],ps++[p],I? i,p!.snoc s3 hp (λc=>?_) hpd,by rw[R3];rfl,by rw[Rt,hl];rfl,λq' a!=>?_,λj s' hj=>?_,rfl⟩
  .rw[ak (av z hd)];exact s3 _ _ (s2 _ _ z)
  .obtain⟨j,hj⟩:=RD c;have:=p!.row j p _ hj (Q8 (by rw[<- p!.len];exact(Q9.mp hj).1))
   rw[fp]at this;cases this
  .rcases Rq.mp a! with z|z
   .exact d6 q' z
   .rw[Rj.mp z];exact s2.free fp
  .have e1:L.length=i:=by rw[<- p!.len];exact hl
   rcases Rz j L.length with z|z
   .rw[RI z]at hj;exact hL j s' hj
   .rw[RK z]at hj;have j0:j - L.length=0:=by
     rcases Su (j - L.length) with c|c
     .exact c
     .rw[RF (by simp;omega)]at hj;cases hj
    rw[j0]at hj;cases hj;have:j=i:=by omega
    rw[this];exact⟨srt,hm⟩
 rintro d1 σ1 H2 ys fd1 k! ⟨s2,L,ps,y,p!,rfl,hl,d6,hL,rfl⟩;k_upd;have lL:L.length=n:=by rw[<- p!.len];exact hl
 symm;refine FO (xs:=ps.map V.ref) (by rw[Rc];omega) (λd i σ' H' ys=>yj (ag H2 H') (λ(L':AC) (ZK:Y9) (y:Z4) (z:Z4)=>Tbl H' d L' ZK) (λL' ZK y z=>ys=ZK.map V.ref) (λL' ZK y z=>ZK.length<=i) (λL' ZK y z=>(∀p∈ZK,p∈ps.take i)) (λL' ZK y z=>dI n t e R L' i) (λL' ZK y z=>σ'=[y,z]))
  (λd i σ' H' ys z=>SqL.of (z.1 _ _ p!.top)) (SqL.of p!.top) (λd i σ' H' ys hi ⟨_,L',ZK,y,z,_,e1,e2,_,_,_⟩=>by rw[e1,Rc];exact e2)
  (λd hd=>⟨ar hd _,[],[],_,_,Tbl.nil,rfl,R5 _,by simp,dI.nil,rfl⟩) ?_ ?_
 .rintro d i x σ' H3 H4 ys R' R0 hd hx ⟨s3,L',ZK,y,z,e!,rfl,hl',hps',st,rfl⟩ Hx s4 Zx ZF;rw[Ro]at hx;obtain⟨p,hp,rfl⟩:=SU.mp hx;have hi:i<n:=by rw[<- hl];exact(Q9.mp hp).1
  obtain⟨sd,hsd⟩:∃sd,L[i]?=some sd:=⟨L[i],Q8 (by omega)⟩
  obtain⟨srt,hm⟩:=hL i sd hsd;obtain⟨k1,k2,k3⟩:=st.step gt pt hi srt hm;have hp4:H4 p=some (.lst (au sd)):=s4 _ _ (s3 _ _ (p!.row i p sd hp hsd));have ap4:At K H4 (.ref p) sd:=aW hp4;have l0:0<sd.length:=RJ.mpr (T8 k1);symm;refine bh ap4 (getD_some 0 l0) ?_;symm;have ZX:∀q∈ZK,q∈ps.take (i+1):=λq hq=>by
   rw[RM];exact SM _ (hps' q hq)
  o_new
  .symm;have hn:p∉ZK:=λc=>by
    have z1:=hps' p c;obtain⟨j,hj⟩:=RD z1;have hj1:j<i:=by
     have:=(Q9.mp hj).1;rw[RG]at this;omega
    rw[SK hj1]at hj;obtain⟨i1,e1⟩:=(Q9.mp hj);obtain⟨i2,e2⟩:=(Q9.mp hp);exact(R7.mp p!.nd) j i i1 i2 hj1 (e1.trans e2.symm)
   have hpd:p≠d:=λc=>by
    have:=p!.row i p sd hp hsd;rw[c,hd]at this;cases this
   refine Zx _ _ _ (s4 _ _ Hx) ⟨λb o zz=>?_,L'++[sd],ZK++[p],_,_,e!.snoc s4 hp4 hn hpd,by rw[R3];rfl,by rw[Rt];show _+1<=_;omega,λq' a!=>?_,st.new gt pt hi (k2 c) srt hm,rfl⟩
   .rw[ak (av zz hd)];exact s4 _ _ (s3 _ _ zz)
   .rcases Rq.mp a! with z|z
    .exact ZX q' z
    .rw[Rj.mp z,RM,hp];simp
  .refine ZF _ _ (s4 _ _ Hx) ⟨s3.trans s4,L',ZK,_,_,e!.mono s4,rfl,by omega,ZX,st.old (k3 c),rfl⟩
 rintro d2 σ2 H3 ys N! hd2 ⟨s3,L',ZK,y,z,e!,rfl,hl',hps',st,rfl⟩;rw[Rc,hl]at st;symm;exact q d2 H3 L' ZK (Zf.free N!) (λp hp=>s1.free (d6 p (Vh (hps' p hp)))) (Zf.trans s3) e! st.fin
inductive DU(C:Addr)(K:Q7)(vs:Y6)(H:Hp)(Q:VK)(E:XK):Prop
 | mk (g:Addr) (v:V) (n e b:Nat) (t:AC) (R:AT) (_:vs=[.ref g,v,.int b]) (_:aI C H g n t e) (_:GT n t e) (_:At K H v R) (_:IsPart n t R) (_:b<n) (_:∀H' o,ag H H'->Kd n t e R b o->Q (Qp o) H')
theorem DP:Fa P w base T.mD 3 (DU T.aE K):=by
 exists T.mD.ok ux
 obtain⟨g,v,n,e,b,t,R,rfl,hG,gt,hR,pt,hb,q⟩:=h;refine⟨_,(aa (pfo (pil K (pv 1)) (pgn 3 ux.nd) (ae (aK (lE (kg K rfl) (pdf T.iG (mw T) hr (paF (pv 0) (paF (pv 3) (pa1 (pv 2))))) (pv 1) (by with_unfolding_all rfl)) (ae (ax (pv 3))) aG)))
   (ae (ax A8))),?_⟩
 symm;refine dB hR (λi σ H'=>iU (ag H H') ((∀h∈R.take i,aO n t e h b∈R)) (λx=>σ=[R? g,some v,I? b,x])) ⟨ag.refl _,by simp,_,rfl⟩ (λi σ H' h=>h.1) ?_ ?_
 .rintro i a w' σ' H' ha hw ⟨s1,hf,x,rfl⟩;cases(show w'=V.int a from hw);have Z!:=Rb ha;have hR1:=Rep.mono s1 hR;symm;k_ne;symm;refine⟨g,n,e,a,b,t,rfl,hG.mono s1,gt,pt.lt a Z!,hb,λH2 s2=>?_⟩;have hR2:=Rep.mono s2 hR1;symm;refine bJ (λz=>?_) (λz=>?_)
  .symm;refine q H2 (some a) (s1.trans s2) ⟨Z!,z,λh' ZL Zd=>hf h' ?_⟩;obtain⟨j,hj⟩:=RD ZL;obtain⟨i1,e1⟩:=Q9.mp ha;obtain⟨i2,e2⟩:=Q9.mp hj;have hji:j<i:=by
    rcases S2 j i with c|c|c
    .exact c
    .subst c;omega
    .have:=(R7.mp pt.srt) i j i1 i2 c;omega
   exact Rb (i:=j) (by rw[SK hji];exact hj)
  .symm;refine⟨s1.trans s2,λh hh=>?_,_,rfl⟩;rw[RM,ha]at hh;rcases Rq.mp hh with c|c
   .exact hf h c
   .rw[Rj.mp c];exact z
 .rintro σ' H' ⟨s1,hf,x,rfl⟩;rw[Sr]at hf;symm;exact q H' none s1 hf
structure CW(H:Hp)(dw a:Addr)(F:AT)(W:AC)(ps:Y9):Prop where
 top:H dw=some (.dK (dJ F ps))
 lst:H a=some (.lst (au F))
 l1:ps.length=F.length
 l2:W.length=F.length
 nd:ps.Nodup
 ap:a∉ps
 row:∀ (i:Nat) (p:Addr) (w:AT),ps[i]?=some p->W[i]?=some w->H p=some (.lst (au w))
theorem CW.mono{dw a:Addr}{W:AC}(s:ag H H')(c:CW H dw a F W ps):CW H' dw a F W ps :=
 ⟨s _ _ c.top,s _ _ c.lst,c.l1,c.l2,c.nd,c.ap,λi p w e1 e2=>s _ _ (c.row i p w e1 e2)⟩
theorem dZ{α:Type}{l:List α}{x y:α}(h:(l++[x])[i]?=some y):(i<l.length/\l[i]?=some y)\/(i=l.length/\x=y):=by
 rcases Rz i l.length with z|z
 .rw[RI z]at h;exact .inl ⟨z,h⟩
 .rw[RK z]at h;rcases Su (i - l.length) with c|c
  .rw[c]at h;exact .inr ⟨by omega,RW h⟩
  .rw[RF (by simp;omega)]at h;cases h
theorem CW.put{H2:Hp}{dw a:Addr}{W:AC}{f:Nat}{w:AT}(c:CW H dw a F W ps)(hq:H q=some (.lst (au w)))(hn:q∉ps)(hqa:q≠a)(h1:H2 dw=some (.dK (dJ (F++[f]) (ps++[q]))))(h2:H2 a=some (.lst (au (F++[f]))))
  (k:∀b o,b≠a->b≠dw->H b=some o->H2 b=some o):CW H2 dw a (F++[f]) (W++[w]) (ps++[q]):=by
 have e1:=c.l1;have e2:=c.l2;refine⟨h1,h2,by simp[e1],by simp[e2],rO c.nd hn,λz=>?_,λi p w' g1 g2=>?_⟩
 .rcases Rq.mp z with z|z
  .exact c.ap z
  .exact hqa (Rj.mp z).symm
 .rcases dZ g1 with ⟨i1,g1'⟩|⟨i1,g1'⟩
  .rcases dZ g2 with ⟨i2,g2'⟩|⟨i2,g2'⟩
   .have r:=c.row i p w' g1' g2';exact k p _ (λz=>c.ap (z ▸ Rb g1')) (λz=>by rw[z,c.top]at r;cases r) r
   .exact absurd i1 (by omega)
  .rcases dZ g2 with ⟨i2,g2'⟩|⟨i2,g2'⟩
   .exact absurd i2 (by omega)
   .subst g1' g2';exact k q _ hqa (λz=>by rw[z,c.top]at hq;cases hq) hq
theorem oG:Fa P w base T.iM 1 (D3 T.aE K):=by
 exists T.iM.ok eF
 obtain⟨g,v,n,e,t,S,rfl,hG,gt,hS,Zd,hsl,q⟩:=h;have Zw:=gt.le;obtain⟨dx,r,bk,hg,hT,hB⟩:=hG.get (K:=K);refine⟨_,(aa (pz 2 eF.nd (Lb (JA (pfl K (pv 0)) (bg bZ) KD) rfl rfl (by simp) (by decide)))
   (aa (pz 3 eF.nd (bg (pa1 (pfl K (pv 0)))))
   (aa (pz 4 eF.nd aj)
   (aa (jo UI (pcm jI (pv 4) (pln K T.bo (pv 3))) (aa (pfo (pil K (pv 1)) (pgn 5 eF.nd) (aa (pz 6 eF.nd (pxl K (pxl K (pfl K (pv 0)) (pxl K (pv 3) (pv 4))) (pv 5)))
   (ae (aK (nV (qj (bY hr) (pv 6) (pv 2))) (aa (lC (bY hr) (pv 2) (pv 6) (ao nC (bW (bY hr) (pv 2) (pxl K (pv 3) (pv 4)) (λ_ _=>rfl)) (bg (pa1 (pv 5)))) rfl)
   (ae (aZ (pap K (pv 3) (pv 6))))) aG))))
   (ae (pz 4 eF.nd (ao aY (pv 4) aj)))))
   (aa (pz 7 eF.nd (bK (qw K rfl) rfl T.fX S5 (pa1 (pv 3))))
   (ae (ax (gP (paF (pv 7) (pa1 (bL rfl qE (pil K (pv 7)) (λ_ _ _ _=>⟨(pgn 0 qE.nd),bz,(bW (bY hr) (pv 1) (pv 0) (λ_ _=>rfl))⟩)))))))))))),?_⟩
 symm;refine La (λdw fdw=>?_);have hg1:=ar fdw (.dK []) _ _ hg;symm;refine cK ?_;symm;refine⟨sB,λp0 hp0=>?_⟩
 have p0d:p0≠dw:=λz=>by rw[z,ai]at hp0;cases hp0
 have fp0:H p0=none:=by rw[ak p0d]at hp0;exact hp0
 refine⟨by rw[ak p0d.symm];exact ai,[(nk e,.ref p0)],rfl,(by show 1<=15;decide),?_⟩
 have s2:ag H (upd (upd (upd H dw (.dK [])) p0 (.lst [])) dw (.dK (gL [] [(nk e,.ref p0)]))):=λb o z=>by
  rw[ak (av z fdw),ak (av z fp0),ak (av z fdw)];exact z
 have Y!:(upd (upd (upd H dw (.dK [])) p0 (.lst [])) dw (.dK (gL [] [(nk e,.ref p0)]))) dw=some (.dK (dJ [e] [p0])):=ai;have hp0':(upd (upd (upd H dw (.dK [])) p0 (.lst [])) dw (.dK (gL [] [(nk e,.ref p0)]))) p0=some (.lst (au [])):=by
  rw[ak p0d];exact ai
 generalize upd (upd (upd H dw (.dK [])) p0 (.lst [])) dw (.dK (gL [] [(nk e,.ref p0)]))=H2 at s2 Y! hp0';have hg2:=s2 _ _ hg;symm;refine cK ?_;symm;refine⟨sK,λa ha=>?_⟩
 have fa:H a=none:=s2.free ha;have had:a≠dw:=λz=>by rw[z,Y!]at ha;cases ha
 have hap:a≠p0:=λz=>by rw[z,hp0']at ha;cases ha
 have c0:CW (upd H2 a (.lst [.int e])) dw a [e] [[]] [p0]:=by
  refine⟨by rw[ak had.symm];exact Y!,ai,rfl,rfl,by simp,by simpa using hap,λi p w g1 g2=>?_⟩
  rcases dZ (l:=[]) g1 with ⟨z,_⟩|⟨z,g1'⟩
  .exact absurd z (by simp)
  .rcases dZ (l:=[]) g2 with ⟨z,_⟩|⟨z,g2'⟩
   .exact absurd z (by simp)
   .subst g1' g2';rw[ak hap.symm];exact hp0'
 have s3:ag H (upd H2 a (.lst [.int e])):=s2.trans (ar ha _);symm;refine jz (λm σ' H'=>tm (ag H H') (λ(F:AT) (W:AC) (ps:Y9) (k:Nat) (x:Z4) (y:Z4) (z:Z4)=>m=n - k) (λF W ps k x y z=>CW H' dw a F W ps) (λF W ps k x y z=>jF n t e S F k) (λF W ps k x y z=>jf t e S F W) (λF W ps k x y z=>(∀p∈ps,H p=none)) (λF W ps k x y z=>σ'=[R? g,some v,R? dw,R? a,I? k,x,y,z])) (n - 0)
  ⟨s3,[e],[[]],[p0],0,none,none,none,rfl,c0,⟨by simp,λx hx=>by rw[Rj.mp hx];exact gt.elt,by simp,R5 _,λi _ hi=>absurd hi (by omega),λx hx=>⟨[],by simp,(Rj.mp hx).symm⟩⟩,jf.one,λp hp=>by rw[Rj.mp hp];exact fp0,rfl⟩ ?_
 rintro m σ' H3 ⟨s3,F,W,ps,k,x,y,z,rfl,cw,gr,gw,d6,rfl⟩;have aF:At K H3 (.ref a) F:=aW cw.lst;have fl:=gr.len;symm;o_new
 .obtain⟨b0,hb0⟩:∃b0,F[k]?=some b0:=⟨F[k],Q8 c⟩;have hbF:b0∈F:=Rb hb0;have hbn:=gr.lt b0 hbF;refine⟨λσ4 H4=>ag H H4/\∃ (F4:AT) (W4:AC) (ZS:Y9) (x y z:Z4),CW H4 dw a F4 W4 ZS/\jF n t e S F4 (k+1)/\jf t e S F4 W4/\(∀p∈ZS,H p=none)/\σ4=[R? g,some v,R? dw,R? a,I? ((k+1:Nat):Int),x,y,z],λσ4 H4 z=>?_,?_⟩
  .obtain⟨z1,F4,W4,ZS,x4,y4,z4,z2,z3,z5,z6,z7⟩:=z;have:=z3.le;have:=z3.len;exact⟨n - (k+1),by omega,z1,F4,W4,ZS,k+1,x4,y4,z4,rfl,z2,z3,z5,z6,z7⟩
  symm;refine dY (H₀:=H) hS (λj σ4 H4=>mr (ag H H4) (λ(F4:AT) (W4:AC) (ZS:Y9) (x:Z4) (y:Z4)=>CW H4 dw a F4 W4 ZS) (λF4 W4 ZS x y=>jF n t e S F4 k) (λF4 W4 ZS x y=>jf t e S F4 W4) (λF4 W4 ZS x y=>(∀p∈ZS,H p=none)) (λF4 W4 ZS x y=>F4[k]?=some b0) (λF4 W4 ZS x y=>(∀s∈S.take j,tb t b0 s∈F4)) (λF4 W4 ZS x y=>σ4=[R? g,some v,R? dw,R? a,I? k,x,y,z])) ⟨s3,F,W,ps,x,y,cw,gr,gw,d6,hb0,λs hs=>absurd hs (by simp),rfl⟩ (λj σ4 H4 z=>z.1) ?_ ?_
  .rintro j b w' σ4 H4 hb hw ⟨s4,F4,W4,ZS,x4,y4,B',gr4,gw4,fps4,g!,hj,rfl⟩;cases(show w'=V.int b from hw);have hbS:b∈S:=Rb hb;have hbl:=Zd b hbS;have aF4:At K H4 (.ref a) F4:=aW B'.lst;have hg4:=s4 _ _ hg;have hT4:=Rep.mono s4 hT;have fl4:=gr4.len;symm;refine bh aF4 g! ?_;refine cM hT4 rfl (gt.get hbn) λw1 Zk=>?_;symm;refine bh Zk (gt.dz hbn hbl) ?_;symm;k_ne;symm;refine qB ?_;symm;refine tX B'.top ?_;rw[Lw gr4.nd B'.l1];symm;have more:∀F':AT,(∀z∈F4,z∈F')->tb t b0 b∈F'->∀s∈S.take (j+1),tb t b0 s∈F':=λF' h1 h2 s hs=>by
    rw[RM,hb]at hs;rcases Rq.mp hs with z|z
    .exact h1 _ (hj s z)
    .have:s=b:=by simpa using z
     rw[this];exact h2
   refine bJ (λz=>?_) (λz=>?_)
   .have k4:k<W4.length:=by rw[B'.l2];exact(Q9.mp g!).1
    have k5:k<ZS.length:=by rw[B'.l1];exact(Q9.mp g!).1
    have hwk:W4[k]?=some W4[k]:=Q8 k4;have hpk:ZS[k]?=some ZS[k]:=Q8 k5;have Zt:=B'.row k _ _ hpk hwk;symm;refine lA ?_;symm;refine bU ?_;symm;refine bh aF4 g! ?_;refine cB B'.top (jv gr4.nd g! hpk) ?_;symm;refine cK ?_;symm;refine⟨sK,λp1 ZG=>?_⟩
    have s5:=ar ZG (.lst [.int b]);have wl:W4[k].length<=1000:=by
     have:=(gw4.word k b0 _ g! hwk).2.1;omega
    refine Ae (K:=K) (α:=Nat) (l:=W4[k]) (r:=[b]) ⟨_,_,rfl,s5 _ _ Zt,dQ⟩ ⟨p1,_,rfl,ai,dQ (l:=[b])⟩ (by simp;omega) λp2 H6 fp2 s6 g6=>?_
    have s46:=s5.trans s6;have cw6:=B'.mono s46;have h6:=fL g6;have fp2':H4 p2=none:=s5.free fp2;symm;refine nD cw6.top (RU Bn (by omega)) ?_
    rw[xv B'.l1 z];have had:a≠dw:=λz=>by have:=cw6.lst;rw[z,cw6.top]at this;cases this
    have p2n:p2∉ZS:=λc=>by
     obtain⟨i,hi⟩:=RD c;have:=B'.row i p2 _ hi (Q8 (by rw[B'.l2,<- B'.l1];exact(Q9.mp hi).1))
     rw[fp2']at this;cases this
    have p2a:p2≠a:=λc=>by rw[c,B'.lst]at fp2';cases fp2'
    have g7:Gr K (upd H6 dw (.dK (dJ (F4++[tb t b0 b]) (ZS++[p2])))) a F4:=⟨_,by rw[ak had];exact cw6.lst,dQ⟩
    symm;refine⟨g7.ty,?_⟩;symm;refine iC (b:=tb t b0 b) g7 (by omega) rfl λH8 g8 k8 _=>?_
    have cw8:CW H8 dw a (F4++[tb t b0 b]) (W4++[W4[k]++[b]]) (ZS++[p2]):=cw6.put h6 p2n p2a (k8 _ _ had.symm ai) (fL g8) λb' o h1 h2 h3=>k8 _ _ h1 (by rw[ak h2];exact h3)
    w_up
    refine⟨λb' o zz=>k8 _ _ (av zz fa) (by rw[ak (av zz fdw)];exact s46 _ _ (s4 _ _ zz)),_,_,_,_,_,cw8,gr4.put gt (Rb g!) hbS hbl z,gw4.put g! hwk hbS,λp hp=>?_,by rw[RI (Q9.mp g!).1];exact g!,more _ (λy hy=>SM _ hy) (by simp),rfl⟩
    rcases Rq.mp hp with c|c
    .exact fps4 p c
    .rw[Rj.mp c];exact s4.free fp2'
   .symm;exact⟨s4,_,_,_,_,_,B',gr4,gw4,fps4,g!,more _ (λy hy=>hy) z,rfl⟩
  .rintro σ4 H4 ⟨s4,F4,W4,ZS,x4,y4,B',gr4,gw4,fps4,g!,hj,rfl⟩;rw[Sr]at hj;symm;exact⟨s4,F4,W4,ZS,_,_,_,B',gr4.next g! hj,gw4,fps4,rfl⟩
 .apply AH aF (by omega) λd l' H4 hd s4 M! hsr g4=>?_
  have gen:=gr.gen (by omega) M! hsr
  have B':=cw.mono s4;have ZT:=fL g4;symm;refine iX ?_;symm;have pn:∀x∈l',∃j:Nat,F[j]?=some x/\j<ps.length:=λx hx=>by
   obtain⟨j,hj⟩:=RD (M!.mem_iff.mp hx);exact⟨j,hj,by rw[cw.l1];exact(Q9.mp hj).1⟩
  have gl:=gen.len;refine gg (p:=d) (xs:=au l') (by unfold au;rw[Rc];omega) (λd' i σ' H' ys=>p6 (ag H4 H') (λ(V:AC) (qs:Y9) (y:Option L2.V)=>Tbl H' d' V qs) (λV qs y=>ys=qs.map L2.V.ref) (λV qs y=>qs.length=i) (λV qs y=>(∀ (i':Nat) (p:Addr),qs[i']?=some p->∃ (r j:Nat),l'[i']?=some r/\F[j]?=some r/\ps[j]?=some p)) (λV qs y=>(∀ (i' r:Nat) (w:AT),l'[i']?=some r->V[i']?=some w->∃j:Nat,F[j]?=some r/\W[j]?=some w)) (λV qs y=>σ'=[y,R? dw]))
   (λd' i σ' H' ys z=>SqL.of (z.1 _ _ ZT)) (SqL.of ZT) (λd' i σ' H' ys hi ⟨_,V,qs,y,_,e1,e2,_,_,_⟩=>by rw[e1,Rc,e2];exact Ru _)
   (λd' dh=>⟨ar dh _,[],[],_,Tbl.nil,rfl,rfl,by simp,by simp,rfl⟩) ?_ ?_
  .rintro d' i x' σ' H5 ys R' R0 dh hx ⟨s5,V,qs,y',tb5,rfl,O!,hqs,hV,rfl⟩ Hx Zx ZF;unfold au at hx;rw[Ro]at hx;obtain⟨r0,hr0,rfl⟩:=SU.mp hx;obtain⟨j,hj,hjl⟩:=pn r0 (Rb hr0);have hpj:ps[j]?=some ps[j]:=Q8 hjl;have hwl:j<W.length:=by rw[cw.l2,<- cw.l1];exact hjl
   have hwj:W[j]?=some W[j]:=Q8 hwl;have cw5:=B'.mono s5;symm;refine bU ?_;symm;refine cB cw5.top (jv gr.nd hj hpj) ?_;have hpn:ps[j]∉qs:=λc=>by
    obtain⟨i',ZJ⟩:=RD c;obtain⟨r1,j1,g1,g2,g3⟩:=hqs i' _ ZJ;obtain⟨u1,v1⟩:=Q9.mp g3;have ej:j1=j:=by
     rcases S2 j1 j with c|c|c
     .exact absurd v1 ((R7.mp cw.nd) j1 j u1 hjl c)
     .exact c
     .exact absurd v1.symm ((R7.mp cw.nd) j j1 hjl u1 c)
    subst ej;have er:r1=r0:=RW (g2.symm.trans hj);subst er;have hi2:i' < i:=by rw[<- O!];exact(Q9.mp ZJ).1
    obtain⟨u2,v2⟩:=Q9.mp g1;obtain⟨u3,v3⟩:=Q9.mp hr0;have:=(R7.mp gen.srt) i' i u2 u3 hi2;omega
   have hpd:ps[j]≠d':=λc=>by
    have:=B'.row j _ _ hpj hwj;rw[c,dh]at this;cases this
   refine Zx _ _ _ Hx ⟨λb o zz=>?_,V++[W[j]],qs++[ps[j]],_,tb5.snoc (ag.refl _) (cw5.row j _ _ hpj hwj) hpn hpd,by rw[R3];rfl,by rw[Rt,O!];rfl,λi' p hp=>?_,λi' r1 w1 g1 g2=>?_,rfl⟩
   .rw[ak (av zz dh)];exact s5 _ _ zz
   .rcases dZ hp with ⟨_,c⟩|⟨c,c2⟩
    .exact hqs i' p c
    .subst c2;rw[O!]at c;subst c;exact⟨r0,j,hr0,hj,hpj⟩
   .rcases dZ g2 with ⟨_,c⟩|⟨c,c2⟩
    .exact hV i' r1 w1 g1 c
    .subst c2;have:i'=i:=by rw[c,<- tb5.len,O!]
     subst this;have er:r1=r0:=RW (g1.symm.trans hr0);subst er;exact⟨j,hj,hwj⟩
  rintro d2 σ5 H5 ys N! hd2 ⟨s5,V,qs,y',tb5,rfl,O!,hqs,hV,rfl⟩;unfold au at O!;rw[Rc]at O!;symm;refine⟨Sc,λp9 hp9=>?_⟩
  have s9:=ar hp9 (.tup [.ref d,.ref d2]);have Zo:=s3.trans s4;have ZM:=Zo.trans s5;have hdn:d∉qs:=λc=>by
   obtain⟨i',ZJ⟩:=RD c;obtain⟨r1,j1,g1,g2,g3⟩:=hqs i' _ ZJ;have:=cw.row j1 d _ g3 (Q8 (by rw[cw.l2,<- cw.l1];exact(Q9.mp g3).1))
   rw[hd]at this;cases this
  refine q p9 d d2 _ l' V qs (s3.free hd) (Zo.free N!) (λp hp=>?_) (λc=>?_) hdn (ZM.trans s9) ai (s9 _ _ (s5 _ _ ZT)) (tb5.mono s9) gen (gw.words gr.nd fl (by rw[<- tb5.len,O!]) hV)
  .obtain⟨i',ZJ⟩:=RD hp;obtain⟨r1,j1,g1,g2,g3⟩:=hqs i' _ ZJ;exact d6 p (Rb g3)
  .rw[<- c,ZT]at N!;cases N!
theorem Gq{α β:Type}{l:List α}{f:α->List β}{c:α}(h:l[i]?=some c):(l.take (i+1)).flatMap f=(l.take i).flatMap f++f c:=by
 rw[RM,h,Yr];simp
theorem AW:Fa P w base T.nr 4 (Ik T.aE K):=by
 exists T.nr.ok o7
 obtain⟨g,v,n,e,t,R,rfl,hG,gt,hR,pt,q⟩:=h;obtain⟨dx,gr,gb,hg,hT,hB⟩:=hG.get (K:=K);have n1:=gt.pos;have Zw:=gt.le;have rl:=pt.len;refine⟨_,(aa (aZ (pdf T.dU (ip T) hr (paF (pv 0) (pa1 (pv 1)))))
   (aa (pz 2 o7.nd (bg bZ))
   (aa (pfo (pil K (pv 1)) (pgn 3 o7.nd) (ae (pfo (pil K (pv 1)) (pgn 4 o7.nd) (ae (aZ (pap K (pv 2) (pdf T.iP (ot T) hr (paF (pv 0) (pa1 (bg (paF (pv 3) (paF (pv 4) (paF (pxl K (pfl K (pv 0)) (pv 3)) (pa1 (pxl K (pfl K (pv 0)) (pv 4))))))))))))))))
   (ae (ax (d8 (cS K rfl) (pdf T.iM (oG T) hr (paF (pv 0) (pa1 (bK (pK w rfl rfl) rfl T.fX S5 (paF (cb (uV K rfl w rfl rfl) rfl T.JN X3 (pa1 (pv 2))) bZ))))) aj (λ_ _=>rfl))))))),?_⟩
 apply⟨g,v,n,e,t,R,rfl,hG,gt,hR,pt,λH1 s1=>?_⟩;have aR1:=Rep.mono s1 hR;apply eC (K:=K) (l:=([]:AT)) jb (by decide) λdm H2 fm s2 g2=>?_
 fin2
 let cm:Nat->Nat->Nat:=λa b=>tb t (tb t (tb t a b) (az n t e a)) (az n t e b)
 have cml:∀a∈R,∀b∈R,cm a b<n:=λa ha b hb=>gt.lt _ _ (gt.lt _ _ (gt.lt _ _ (pt.lt a ha) (pt.lt b hb)) (gt.bp (pt.lt a ha))) (gt.bp (pt.lt b hb));refine dY (H₀:=H1) aR1 (λi σ H'=>oQ (ag H1 H') (λ(L:AT) (x3:Z4) (x4:Z4)=>Gr K H' dm L) (λL x3 x4=>L.length<=i * 23) (λL x3 x4=>L=(R.take i).flatMap (λa=>R.map (cm a))) (λL x3 x4=>σ=[R? g,some v,R? dm,x3,x4])) ⟨s2,[],_,_,g2,by simp,rfl,rfl⟩ (λi σ' H' z=>z.1) ?_ ?_
 .rintro i a w' σ' H3 ha hw ⟨s3,L,x3,x4,g3,ll,hL,rfl⟩;cases(show w'=V.int a from hw);have Z!:a∈R:=Rb ha;have han:=pt.lt a Z!;have il:=(Q9.mp ha).1;have ib:i * 23<=23 * 23:=Ub _ (by omega)
  apply dY (H₀:=H1) aR1 (λj σ H'=>xZ (ag H1 H') (λ(L:AT) (x4:Z4)=>Gr K H' dm L) (λL x4=>L.length<=i * 23+j) (λL x4=>L=(R.take i).flatMap (λa=>R.map (cm a))++(R.take j).map (cm a)) (λL x4=>σ=[R? g,some v,R? dm,I? a,x4])) ⟨s3,L,_,g3,ll,by simpa using hL,rfl⟩ (λi σ' H' z=>z.1) ?_ ?_
  .rintro j b w' σ' H4 hb hw ⟨s4,L,x4,g4,ll,hL,rfl⟩;cases(show w'=V.int b from hw);have hbR:b∈R:=Rb hb;have hbn:=pt.lt b hbR;have jl:=(Q9.mp hb).1;have H!:=s1.trans s4;have hg4:=H! _ _ hg;have ba:=gt.bp han;have bb:=gt.bp hbn;apply⟨g4.ty,?_⟩;apply cK ?_;apply bC T hg4 ?_;apply bh (Rep.mono H! hB) (vL han) ?_;apply bC T hg4 ?_;apply bh (Rep.mono H! hB) (vL hbn) ?_;apply⟨small (by show 4<=1000;decide),λpl u!=>?_⟩
   have s5:ag H4 (upd H4 pl (.lst (au [a,b,az n t e a,az n t e b]))):=ar u! _;have O!:(upd H4 pl (.lst (au [a,b,az n t e a,az n t e b]))) pl=some (.lst (au [a,b,az n t e a,az n t e b])):=ai;have g5:Gr K (upd H4 pl (.lst (au [a,b,az n t e a,az n t e b]))) dm L:=g4.mono s5;apply⟨g,_,n,e,t,[a,b,az n t e a,az n t e b],rfl,aI.mono (H!.trans s5) hG,gt,aW O!,λx hx=>?_,?_⟩
   .simp only[RA,Tb,or_false]at hx;rcases hx with rfl|rfl|rfl|rfl
    .exact han
    .exact hbn
    .exact ba
    .exact bb
   have e1:prd t e [a,b,az n t e a,az n t e b]=cm a b:=by
    show tb t (tb t (tb t (tb t e a) b) (az n t e a)) (az n t e b)=_;rw[gt.unl a han]
   rw[e1];apply iC (b:=cm a b) g5 (by omega) rfl λH6 g6 k6 _=>?_
   w_up
   refine⟨ag.but fm (s4.trans s5) k6,L++[cm a b],_,g6,?_,?_,rfl⟩
   .rw[Rt,Uq];omega
   .rw[hL,Uw,RM,hb];simp
  .rintro σ' H4 ⟨s4,L,x4,g4,ll,hL,rfl⟩;rw[Sr]at hL;apply⟨s4,L,_,_,g4,?_,?_,rfl⟩
   .rw[U5];omega
   .rw[Gq ha];exact hL
 .rintro σ' H3 ⟨s3,L,x3,x4,g3,ll,hL,rfl⟩;rw[Sr]at hL;have hm:L=fG n t e R:=hL;have Zd:∀x∈L,x<n:=λx hx=>by
   rw[hm]at hx;obtain⟨a,ha,b,hb,rfl⟩:=iw.mp hx;exact cml a ha b hb
  apply Fw g3.at (λx hx=>by have:=Zd x hx;omega) λsa ks fs hks nd=>?_
  exists fs,(fC w sa ks),H3,sa,s4,h4,(fC w sa ks),H4;apply xV h4 λsd sl fd hp hs=>?_;exists fd,(.lst (au sl)),H4,sd,s5,h5,(.lst (au sl)),H5;have s35:=s4.trans s5;have ZM:=s1.trans (s3.trans s35);have D!:∀x,x∈sl↔x∈fG n t e R:=λx=>by rw[hp.mem_iff,hks x,hm]
  have sll:sl.length<=n:=cE (hp.nodup_iff.mpr nd) λx hx=>Zd x (by rw[hm];exact(D! x).mp hx)
  apply⟨g,_,n,e,t,sl,rfl,aI.mono ZM hG,gt,aW h5,λx hx=>Zd x (by rw[hm];exact(D! x).mp hx),by omega,λp dp dw H6 M W pw f1 f2 f3 n1 n2 s6 h6 hp6 _ G _=>?_⟩
  apply fQ (i:=0) h6 rfl ?_;exact q dp H6 M (ZM.free f1) (ZM.trans s6) ⟨_,hp6,dQ⟩ (G.congr D!)
noncomputable def FJ(n:Nat)(t:AC)(e:Nat)(F:AT)(x:Nat):Prop:=∃P,Gen n t e (F++[x]) P/\P.length=n
noncomputable def Ar(n:Nat)(t:AC)(e:Nat)(F:AT)(x:Nat):Prop:=∃P,Gen n t e (F++[x]) P/\P.length≠n
inductive tT(C:Addr)(vs:Y6)(H:Hp)(Q:VK)(E:XK):Prop
 | mk (g dp:Addr) (n e:Nat) (t:AC) (F:AT) (_:vs=[.ref g,.ref dp]) (_:aI C H g n t e) (_:GT n t e) (_:H dp=some (.lst (au F))) (_:(∀x∈F,x<n)) (_:F.length<=n) (_:Led n t e F) (_:∀ (x:Nat) H',ag H H'->x<n->FJ n t e F x->(∀y,y<x->Ar n t e F y)->Q (.int x) H')
theorem t8:Fa P w base T.fS 4 (tT T.aE):=by
 exists T.fS.ok lV
 obtain⟨g,dp,n,e,t,F,rfl,hG,gt,hp,Zd,hl,led,q⟩:=h;obtain⟨dx,gr,gb,hg,hT,hB⟩:=hG.get (K:=K);have Zw:=gt.le;refine⟨_,(aa (pfo (prg T.aU (pfl K (pv 0))) (pgn 2 lV.nd) (ae (aK (pcm cU (pln K T.bo (d8 (cS K rfl) (pdf T.iM (oG T) hr (paF (pv 0) (pa1 (ao nC (pv 1) (bg (pa1 (pv 2))))))) aj (λ_ _=>rfl))) (pfl K (pv 0))) (ae (ax (pv 2))) aG)))
   (ae (ax A8))),?_⟩
 apply bA T hg ?_;refine bf (n:=n) rfl (by omega) (λi σ' H'=>u9 (ag H H') (λ(x2:Z4)=>(∀y,y<i->Ar n t e F y)) (λx2=>σ'=[R? g,R? dp,x2])) ⟨ag.refl _,_,λy hy=>absurd hy (UB _),rfl⟩ ?_ ?_
 .rintro i σ' H1 hi ⟨s1,x2,no,rfl⟩;have ZG:=s1 _ _ hp;fin2;k_ne;apply cK ?_;apply⟨sK,λd2 hd2=>?_⟩
  exists hd2,(.lst [.int i]),H1,d2,s2,g2,(.lst (au [i])),H2;refine Ae (K:=K) (α:=Nat) (l:=F) (r:=[i]) ⟨dp,_,rfl,s2 _ _ ZG,dQ⟩ ⟨d2,_,rfl,g2,dQ⟩ (by simp;omega) λd3 H3 _ s3 g3=>?_
  have s13:=s2.trans s3;apply⟨g,_,n,e,t,F++[i],rfl,aI.mono (s1.trans s13) hG,gt,g3.at,λx hx=>?_,by rw[Rt,Uq];omega,λp dq dw H4 R W pw f1 f2 f3 n1 n2 s4 h4 hp4 _ G _=>?_⟩
  .rcases Rq.mp hx with z|z
   .exact Zd x z
   .rw[Rj.mp z];exact hi
  apply fQ (i:=0) h4 rfl ?_;apply cp (aW hp4) ?_;fin2;have H!:=s13.trans s4;refine bA T ((s1.trans H!) _ _ hg) ?_;apply aV (λc=>?_) (λc=>?_)
  .fin2;exact q i H4 (s1.trans H!) hi ⟨R,G,c⟩ no
  .apply⟨s1.trans H!,_,λy hy=>?_,rfl⟩;rcases Rz y i with z|z
   .exact no y z
   .have:y=i:=by omega
    rw[this];exact⟨R,G,c⟩
 .rintro σ' H1 ⟨s1,x2,no,rfl⟩;obtain⟨x,hx,ZO⟩:=led;obtain⟨P',G',c⟩:=no x hx;exact absurd (ZO P' G') c
inductive Ju(C:Addr)(vs:Y6)(H:Hp)(Q:VK)(E:XK):Prop
 | mk (g:Addr) (n e:Nat) (t:AC) (_:vs=[.ref g]) (_:aI C H g n t e) (_:GT n t e) (_:Meta n t) (_:∀p dp (x:Nat) (F:AT) H',ag H H'->H dp=none->H' p=some (.tup [.ref dp,.int x])->H' dp=some (.lst (au F))->AU n t e n F->x<n->FJ n t e F x->(∀y,y<x->Ar n t e F y)->Q (.ref p) H')
theorem IT:Fa P w base T.rG 5 (Ju T.aE):=by
 exists T.rG.ok oJ
 obtain⟨g,n,e,t,rfl,hG,gt,M,q⟩:=h;obtain⟨dx,gr,gb,hg,hT,hB⟩:=hG.get (K:=K);have n1:=gt.pos;have Zw:=gt.le;have pr:IsPart n t (Rh n):=⟨S3,λx hx=>Ri.mp hx,T8 (Ri.mpr n1),λx hx y hy=>Ri.mpr (gt.lt x y (Ri.mp hx) (Ri.mp hy))⟩;refine⟨_,(aa (pz 1 oJ.nd (pdf T.nr (AW T) hr (paF (pv 0) (pa1 (cb (n5 rfl) rfl T.eZ Ss (paF (cb sT rfl T.aU Xn (pa1 (pfl K (pv 0)))) bZ))))))
   (aa (pfo (prg T.aU (pfl K (pv 0))) (pgn 2 oJ.nd) (ae (aK (dA (pdf T.jN (BA T) hr (paF (pv 0) (paF (pv 2) (pa1 (pv 1)))))) (ae (pz 1 oJ.nd (d8 (cS K rfl) (pdf T.iM (oG T) hr (paF (pv 0) (pa1 (ao nC (pv 1) (bg (pa1 (pv 2))))))) aj (λ_ _=>rfl)))) aG)))
   (ae (ax (gP (paF (pv 1) (pa1 (pdf T.fS (t8 T) hr (paF (pv 0) (pa1 (pv 1))))))))))),?_⟩
 apply bA T hg ?_;apply C1 λpr2 hpr2=>?_;apply sQ (K:=K) ai (by omega) λdl H1 _ s1' gl=>?_
 have s1:ag H H1:=(ar hpr2 _).trans s1';apply⟨g,_,n,e,t,Rh n,rfl,aI.mono s1 hG,gt,gl.at,pr,λd0 H2 M0 f0 s2 g0 G0=>?_⟩;k_upd;apply bA T (Zf _ _ hg) ?_;refine bf (n:=n) rfl (by omega) (λi σ' H'=>oQ (ag H H') (λ(dp:Addr) (F:AT) (x2:Z4)=>H dp=none) (λdp F x2=>H' dp=some (.lst (au F))) (λdp F x2=>AU n t e i F) (λdp F x2=>σ'=[R? g,R? dp,x2])) ⟨Zf,d0,M0,_,s1.free f0,fL g0,G0,rfl⟩ ?_ ?_
 .rintro i σ' H3 hi ⟨s3,dp,F,x2,fp,q!,hs,rfl⟩;have hok:=wA gt M i F (by omega) hs
  have fl:=hok.1.len;fin2;k_ne;apply⟨g,_,n,e,i,t,F,rfl,aI.mono s3 hG,gt,hi,aW q!,hok.1.lt,?_⟩;apply aV (λc=>?_) (λc=>?_)
  .apply cK ?_;apply⟨sK,λd4 ZT=>?_⟩
   exists ZT,(.lst [.int i]),H3,d4,s4,g4,(.lst (au [i])),H4;refine Ae (K:=K) (α:=Nat) (l:=F) (r:=[i]) ⟨dp,_,rfl,s4 _ _ q!,dQ⟩ ⟨d4,_,rfl,g4,dQ⟩ (by simp;omega) λd5 H5 _ s5 g5=>?_
   have s35:=s4.trans s5;apply⟨g,_,n,e,t,F++[i],rfl,aI.mono (s3.trans s35) hG,gt,g5.at,λx hx=>?_,by rw[Rt,Uq];omega,λp dq dw H6 R W pw f1 f2 f3 n1 n2 s6 h6 hp6 _ G _=>?_⟩
   .rcases Rq.mp hx with z|z
    .exact hok.1.lt x z
    .rw[Rj.mp z];exact hi
   apply fQ (i:=0) h6 rfl ?_;fin2;exact⟨s3.trans (s35.trans s6),dq,R,_,(s3.trans s35).free f1,hp6,⟨F,hs,.inl ⟨c,G⟩⟩,rfl⟩
  .fin2;exact⟨s3,dp,F,_,fp,q!,⟨F,hs,.inr ⟨c,rfl⟩⟩,rfl⟩
 .rintro σ' H3 ⟨s3,dp,F,x2,fp,q!,hs,rfl⟩;have hh:=(uF gt M hs).1;apply iX ?_;apply⟨g,dp,n,e,t,F,rfl,aI.mono s3 hG,gt,q!,hh.pt.lt,hh.pt.len,hh.led gt,λx H4 s4 hx l1 l2=>?_⟩;apply⟨Sc,λp hp=>?_⟩
  have s5:=ar hp (.tup [.ref dp,.int x]);exact q p dp x F _ (s3.trans (s4.trans s5)) fp ai ((s4.trans s5) _ _ q!) hs hx l1 l2
inductive uE (vs:Y6)(H:Hp)(Q:VK)(E:XK):Prop
 | mk (m:Nat) (_:vs=[.int m]) (_:1<=m) (_:m<=60) (_:Q .non H)
theorem mH:Fa P w base T.ff 1 uE:=by
 exists T.ff.ok u6
 obtain⟨m,rfl,m1,m2,q⟩:=h;refine⟨_,(ae (aK (PW.pt (fR (pcm jI (pv 0) aj) (fg (pcm iW (pv 0) (wB (v:=.int 60) rfl T.yi ⟨_,rfl⟩))))) (ae c9) aG)),?_⟩;k_go;k_ne;k_go;k_get
 k_go;k_get
 k_go;exact q
noncomputable def nN(n:Nat)(t:AC)(e:Nat)(z:V)(m:Nat):Prop:=(z=.non/\b9 (bX n t e) m)\/(z=.int m/\1<=m/\m<=60/\∀k,b9 (bX n t e) k->m % k=0)
inductive Fd(C:Addr)(vs:Y6)(H:Hp)(Q:VK)(E:XK):Prop
 | mk (g:Addr) (z:V) (n e m:Nat) (t:AC) (_:vs=[.ref g,z]) (_:aI C H g n t e) (_:GT n t e) (_:nN n t e z m) (_:∀H',ag H H'->Q (.int m) H')
theorem iV:Fa P w base T.fq 3 (Fd T.aE):=by
 exists T.fq.ok t9
 obtain⟨g,z,n,e,m,t,rfl,hG,gt,hz,q⟩:=h;refine⟨_,(aa (pz 2 t9.nd (pdf T.rL (Jy T) hr (pa1 (pv 0))))
   (aa (aK (nV (Mj (pv 1))) (ae (ax (pv 2))) aG)
   (aa (aZ (pdf T.ff (mH T) hr (pa1 (pv 1))))
   (aa (aK (pcm d9 (ao aQ (pv 1) (pv 2)) aj) (ae c9) aG)
   (ae (ax (pv 1))))))),?_⟩
 k_go;refine⟨g,n,e,t,rfl,hG,gt,λk H1 s1 hk=>?_⟩;k_go;k_ne;k_go;rcases hz with ⟨rfl,hm⟩|⟨rfl,m1,m2,hm⟩
 .refine aV (λ_=>?_) (λc=>absurd rfl c);k_go;rw[hk.uni hm];exact q _ s1
 .refine aV (λc=>by cases c) (λ_=>?_)
  k_go;refine⟨m,rfl,m1,m2,?_⟩;have hk0:=hk.pos;k_go;k_ne;k_go;refine bJ (λc=>absurd (hm k hk) c) (λ_=>?_);k_go;exact q _ s1
noncomputable def zsV(l:YZ):Y6:=l.map V.int
theorem JJ{H:Hp}:∀ {l:YZ},Sz (Rep.is K H) (zsV l) l
 | []=>.nil
 | x :: l=>.cons rfl JJ
theorem lX{l:YZ}(h:H p=some (.lst (zsV l))):At K H (.ref p) l:=⟨p,_,rfl,SqL.of h,JJ⟩
theorem JH{H:Hp}:∀ {xs:Y6} {l:YZ},Sz (Rep.is K H) xs l->xs=zsV l
 | _,_,.nil=>rfl
 | _,_,.cons h t=>by
  have h':=h;rw[JH t];cases(show _=V.int _ from h');rfl
theorem Q2{v:V}{l:YZ}(h:At K H v l):∃p,v=.ref p/\SqL K H p (zsV l):=by
 k_mem;rw[JH hP]at hS;exact⟨p,rfl,hS⟩
theorem Ky{v:V}{l:YZ}(h:At K H v l)(q:∀p,H p=none->Q (.ref p) (upd H p (.lst (zsV l)))):zd K [v] H Q:=by
 obtain⟨p,rfl,hS⟩:=Q2 h;exact⟨p,_,rfl,.inl hS,q⟩
theorem EE{v:V}{l:YZ}{a:Int}{c:Int}(h:At K H v l)(e:a=(n:Int))(hn:l[n]?=some c)(q:Q (.int c) H):lF K v (.int a) H Q:=JW h e hn q
inductive Es(K:Q7)(vs:Y6)(H:Hp)(Q:VK)(E:XK):Prop
 | mk (v u:V) (p d:YZ) (_:vs=[v,u]) (_:At K H v p) (_:At K H u d) (_:d≠[]) (_:kf d=true) (_:p.length<=1000) (_:∀t a b H',ag H H'->H' t=some (.tup [.ref a,.ref b])->H a=none->H b=none->a≠b->H' a=some (.lst (zsV (jC p d).1))->H' b=some (.lst (zsV (jC p d).2))->Q (.ref t) H')
theorem ui:Fa P w base T.jY 1 (Es K):=by
 exists T.jY.ok fJ
 obtain⟨v,u,p,d,rfl,hv,hu,dn,ds,pl,q⟩:=h;have dp:=RJ.mpr dn;refine⟨_,(aa (pz 2 fJ.nd (ao gQ (pln K T.bo (pv 1)) aj))
   (aa (pz 3 fJ.nd (cb (eK K rfl) rfl T.eZ Ss (pa1 (pv 0))))
   (aa (pz 4 fJ.nd (bg bZ))
   (aa (jo UI (pcm iW (pln K T.bo (pv 3)) (pv 2)) (aa (pz 5 fJ.nd (L5 K rfl TK PySem.F.slot_list_pop PySem.F.type_list_pop MC (pv 3)))
   (aa (aZ (pap K (pv 4) (pv 5)))
   (aa (pz 6 fJ.nd (ao gQ (pln K T.bo (pv 3)) (pv 2)))
   (ae (pfo (prg T.aU (pv 2)) (pgn 7 fJ.nd) (ae (uK (ao gQ (pxl K (pv 3) (ao aY (pv 6) (pv 7))) (ao bT (pv 5) (pxl K (pv 1) (pv 7)))) (uT (pv 3) (ao aY (pv 6) (pv 7)) set_list)))))))))
   (ae (ax (gP (paF (Et K rfl rfl rfl T.eZ rfl T.DI (pa1 (pv 4))) (pa1 (pv 3)))))))))),?_⟩
 k_go;refine Ky hv λa fa=>?_;k_go;refine cK ?_;k_go;refine⟨sB,λb hb=>?_⟩
 have ab:a≠b:=λz=>by rw[<- z,ai]at hb;cases hb
 have fb:H b=none:=by rw[ak ab.symm]at hb;exact hb
 have e1:((d.length:Int) - ((1:Nat):Int))=((d.length - 1:Nat):Int):=by omega
 rw[e1];k_go;refine jz (λm σ' H'=>yW (ag H H') (λ(L:YZ) (tk:YZ) (x:Z4) (y:Z4) (z:Z4)=>m=L.length) (λL tk x y z=>H' a=some (.lst (zsV L))) (λL tk x y z=>H' b=some (.lst (zsV tk))) (λL tk x y z=>uJ d (L.length+1 - d.length) L tk=jC p d) (λL tk x y z=>L.length+tk.length<=p.length /\
   σ'=[some v,some u,I? ((d.length - 1:Nat):Int),R? a,R? b,x,y,z])) p.length
  ⟨λc o z=>by rw[ak (av z fb),ak (av z fa)];exact z,p,[],none,none,none,rfl,by rw[ak ab];exact ai,ai,rfl,by simp,rfl⟩ ?_
 rintro m σ' H2 ⟨s2,L,tk,x,y,z,rfl,ha,h!,hgo,hle,rfl⟩;have aL:At K H2 (.ref a) L:=lX ha;k_go;o_new
 .have hl:d.length<=L.length:=by omega
  have ln:L≠[]:=λz=>by rw[z]at hl;simp at hl;exact dn hl
  refine⟨λσ3 H3=>ag H H3/\∃ (x y z:Z4),H3 a=some (.lst (zsV (iI d L)))/\H3 b=some (.lst (zsV (tk++[L.getLastD 0])))/\σ3=[some v,some u,I? ((d.length - 1:Nat):Int),R? a,R? b,x,y,z],λσ3 H3 zz=>?_,?_⟩
  .obtain⟨z1,x3,y3,z3,z4,z5,z6⟩:=zz;have e:=BY dn hl;refine⟨L.length - 1,by omega,z1,iI d L,_,x3,y3,z3,e.symm,z4,z5,?_,?_,z6⟩
   .rw[<- hgo,e,show L.length+1 - d.length=(L.length - 1+1 - d.length)+1 by omega]
    rfl
   .rw[e,Rt];show L.length - 1+(tk.length+1)<=_;omega
  have lp:0<L.length:=RJ.mpr ln;k_go;refine⟨.inl ⟨rfl,_,SqL.of ha⟩,?_⟩;refine⟨a,zsV L,.int (L.getLastD 0),rfl,rfl,ha,?_,?_⟩
  .unfold zsV;rw[Rc,Ro,List.getLastD_eq_getLast?,List.getLast?_eq_getElem?];rw[Q8 (by omega)]
   rfl
  have ed:(zsV L).dropLast=zsV L.dropLast:=by unfold zsV;rw[List.map_dropLast]
  rw[ed];k_go;have I!:(upd H2 a (.lst (zsV L.dropLast))) b=some (.lst (zsV tk)):=by rw[ak ab.symm];exact h!
  refine⟨.inl ⟨rfl,_,SqL.of I!⟩,?_⟩;k_go;refine⟨b,zsV tk,_,rfl,rfl,I!,Sf (show (zsV tk).length<=1000 by unfold zsV;rw[Rc];omega) (by rw[RO];decide),?_⟩
  have ha4:(upd (upd H2 a (.lst (zsV L.dropLast))) b (.lst (zsV tk++[.int (L.getLastD 0)]))) a=some (.lst (zsV L.dropLast)):=by rw[ak ab];exact ai
  have g!:(upd (upd H2 a (.lst (zsV L.dropLast))) b (.lst (zsV tk++[.int (L.getLastD 0)]))) b=some (.lst (zsV (tk++[L.getLastD 0]))):=by
   rw[ai];unfold zsV;rw[R3];rfl
  have s4:ag H (upd (upd H2 a (.lst (zsV L.dropLast))) b (.lst (zsV tk++[.int (L.getLastD 0)]))):=λc o z=>by
   rw[ak (av z fb),ak (av z fa)];exact s2 _ _ z
  generalize upd (upd H2 a (.lst (zsV L.dropLast))) b (.lst (zsV tk++[.int (L.getLastD 0)]))=H4 at ha4 g! s4;have aL4:At K H4 (.ref a) L.dropLast:=lX ha4;k_go;have e2:((L.dropLast.length:Int) - ((d.length - 1:Nat):Int))=((L.length - d.length:Nat):Int):=by rw[Vg];omega
  rw[e2];k_go;refine bf (n:=d.length - 1) rfl (by omega) (λj σ3 H3=>KP (ag H H3) (λx=>H3 a=some (.lst (zsV (ic (L.getLastD 0) d (L.length - d.length) j L.dropLast)))) (λx=>H3 b=some (.lst (zsV (tk++[L.getLastD 0])))) (λx=>σ3=[some v,some u,I? ((d.length - 1:Nat):Int),R? a,R? b,I? (L.getLastD 0),I? ((L.length - d.length:Nat):Int),x]))
   ⟨s4,_,by rw[Fl];exact ha4,g!,rfl⟩ ?_ ?_
  .rintro j σ3 H5 hj ⟨s5,x5,ha5,hb5,rfl⟩;have aL5:=lX (K:=K) ha5;have aD5:=Rep.mono s5 hu;have hjl:L.length - d.length+j<L.dropLast.length:=by rw[Vg];omega
   have hdj:d[j]?=some (d.getD j 0):=by simp[V1,Q8 (show j<d.length by omega)]
   have sm:=FQ ds j;k_go;refine EE aL5 rfl (HN hjl) ?_;k_go;refine EE aD5 rfl hdj ?_;refine wO (.inr ⟨by omega,by omega⟩) ?_
   k_go;refine uS ha5 rfl (by unfold zsV;rw[Rc,xK];exact hjl) ?_
   have ha6:(upd H5 a (.lst ((zsV (ic (L.getLastD 0) d (L.length - d.length) j L.dropLast)).set (L.length - d.length+j) (.int (L.dropLast.getD (L.length - d.length+j) 0 - L.getLastD 0 * d.getD j 0))))) a=some (.lst (zsV (ic (L.getLastD 0) d (L.length - d.length) (j+1) L.dropLast))):=by
    rw[ai,<- FZ hjl];unfold zsV;rw[XR]
   w_up
   exact⟨λc o z=>by rw[ak (av z fa)];exact s5 _ _ z,_,ha6,by rw[ak ab.symm];exact hb5,rfl⟩
  .rintro σ3 H5 ⟨s5,x5,ha5,hb5,rfl⟩;rw[Fg dn hl]at ha5;exact⟨s5,_,_,_,ha5,hb5,rfl⟩
 .have e0:L.length+1 - d.length=0:=by omega
  rw[e0]at hgo;have g1:tk.reverse=(jC p d).1:=congrArg Prod.fst hgo;have g2:L=(jC p d).2:=congrArg Prod.snd hgo;k_go;refine iX ?_;k_go;refine GY ?_;k_go;refine⟨b,_,rfl,SqL.of h!,λc hc=>?_⟩;have er:(zsV tk).reverse=zsV (jC p d).1:=by rw[<- g1];unfold zsV;rw[List.map_reverse]
  rw[er];k_go;refine⟨Sc,λt ht=>?_⟩
  have ca:c≠a:=λz=>by rw[z,ha]at hc;cases hc
  have tc:c≠t:=λz=>by rw[<- z,ai]at ht;cases ht
  have ta:a≠t:=λz=>by rw[<- z,ak ca.symm,ha]at ht;cases ht
  refine q t c a _ (λc' o z=>?_) ai (s2.free hc) fa ca ?_ ?_
  .have h1:c'≠c:=av (s2 _ _ z) hc;have h2:c'≠t:=λe=>by rw[<- e,ak h1,s2 _ _ z]at ht;cases ht
   rw[ak h2,ak h1];exact s2 _ _ z
  .rw[ak tc];exact ai
  .rw[ak ta,ak ca.symm,<- g2];exact ha
structure CF(H:Hp)(f:Addr)(fs:List (Nat×YZ))(ps:Y9):Prop where
 top:H f=some (.dK (dJ (fs.map (·.1)) ps))
 len:ps.length=fs.length
 nd:(fs.map (·.1)).Nodup
 row:∀ (i:Nat) (p:Addr) (x:Nat×YZ),ps[i]?=some p->fs[i]?=some x->H p=some (.lst (zsV x.2))
theorem Ht{x:Key×V}(h:(dJ F ps)[i]?=some x):∃k p,F[i]?=some k/\ps[i]?=some p/\x=(nk k,.ref p):=by
 unfold dJ at h;rw[Ro]at h;obtain⟨y,hy,rfl⟩:=SU.mp h;obtain⟨h1,h2⟩:=WO.mp hy;exact⟨y.1,y.2,h1,h2,rfl⟩
inductive wH(K:Q7)(vs:Y6)(H:Hp)(Q:VK)(E:XK):Prop
 | mk (f:Addr) (m:Nat) (fs:List (Nat×YZ)) (ps:Y9) (_:vs=[.int m,.ref f]) (_:CF H f fs ps) (_:1<=m) (_:m<=60) (_:(∀x∈fs,x.2≠[]/\kf x.2=true/\1<=x.1)) (_:∀a H',H a=none->ag H H'->H' a=some (.lst (zsV (zp m fs)))->Q (.ref a) H')
theorem J9(k:Nat)(a:Int):(Rn k [V.int a]).flatten=zsV (Rn k a):=by
 unfold zsV
 induction k with
 | zero=>rfl
 | succ k ih=>rw[SS,TZ,ih,SS];rfl
theorem vx:Fa P w base T.hZ 2 (wH K):=by
 exists T.hZ.ok gj
 obtain⟨f,m,fs,ps,rfl,cf,m1,m2,hx,q⟩:=h;refine⟨_,(aa (pz 2 gj.nd (ao nC (ao nC (bg (pa1 (Pq MO aj))) (ao rA (bg (pa1 aj)) (ao gQ (pv 0) aj))) (bg (pa1 aj))))
   (aa (K0 P w 1 rfl rfl (pfo (L3 P w rfl rfl (pv 1)) (pgn 3 gj.nd) (ae (aK (pcm cU (ao aQ (pv 0) (pv 3)) aj) (ae (pz 2 gj.nd (d8 (cS K rfl) (pdf T.jY (ui T) hr (paF (pv 2) (pa1 (Jz P w rfl rfl (pv 1) (pv 3) (λ_ _=>rfl))))) aj (λ_ _=>rfl)))) aG))))
   (ae (Lq P w 1 rfl rfl (ax (pv 2)))))),?_⟩
 k_go;refine cK ?_;k_go;refine⟨sK,λp1 ZG=>?_⟩
 k_go;refine cK ?_;k_go;refine⟨sK,λp2 b!=>?_⟩
 k_go;refine⟨p2,_,_,rfl,rfl,ai,by omega,by omega,?_,λp3 q!=>?_⟩
 .rw[RO];show 1 * _<=_;omega
 rw[show ((m:Int) - ((1:Nat):Int)).toNat=m - 1 by omega,J9]
 have n21:p2≠p1:=λz=>by rw[z,ai]at b!;cases b!
 have n31:p3≠p1:=λz=>by rw[z,ak n21.symm,ai]at q!;cases q!
 have h3:(upd (upd (upd H p1 (.lst [.int (-((1:Nat):Int))])) p2 (.lst [.int ((0:Nat):Int)])) p3 (.lst (zsV (Rn (m - 1) ((0:Nat):Int))))) p1=some (.lst (zsV [-1])):=by
  rw[ak n31.symm,ak n21.symm,ai];rfl
 have h33:(upd (upd (upd H p1 (.lst [.int (-((1:Nat):Int))])) p2 (.lst [.int ((0:Nat):Int)])) p3 (.lst (zsV (Rn (m - 1) ((0:Nat):Int))))) p3=some (.lst (zsV (Rn (m - 1) 0))):=ai;have s3:ag H (upd (upd (upd H p1 (.lst [.int (-((1:Nat):Int))])) p2 (.lst [.int ((0:Nat):Int)])) p3 (.lst (zsV (Rn (m - 1) ((0:Nat):Int))))):=(ar ZG _).trans ((ar b! _).trans (ar q! _));generalize upd (upd (upd H p1 (.lst [.int (-((1:Nat):Int))])) p2 (.lst [.int ((0:Nat):Int)])) p3 (.lst (zsV (Rn (m - 1) ((0:Nat):Int))))=H3 at h3 h33 s3;refine⟨p1,p3,_,_,rfl,rfl,h3,h33,?_,λp4 hp4=>?_⟩
 .unfold zsV;rw[RO];simp;omega
 have h4:(upd H3 p4 (.lst (zsV [-1]++zsV (Rn (m - 1) 0)))) p4=some (.lst (zsV ([-1]++Rn (m - 1) 0))):=by rw[ai];unfold zsV;rw[R3]
 have s4:=s3.trans (ar hp4 (.lst (zsV [-1]++zsV (Rn (m - 1) 0))));generalize upd H3 p4 (.lst (zsV [-1]++zsV (Rn (m - 1) 0)))=H4 at h4 s4;k_go;refine cK ?_;k_go;refine⟨sK,λp5 hp5=>?_⟩
 have n54:p4≠p5:=λz=>by rw[<- z,h4]at hp5;cases hp5
 refine⟨p4,p5,_,_,rfl,rfl,by rw[ak n54];exact h4,ai,?_,λa ha=>?_⟩
 .unfold zsV;rw[RO];simp;omega
 have h6:(upd (upd H4 p5 (.lst [.int ((1:Nat):Int)])) a (.lst (zsV ([-1]++Rn (m - 1) 0)++[.int ((1:Nat):Int)]))) a=some (.lst (zsV ([-1]++Rn (m - 1) 0++[1]))):=by
  have e:zsV ([-1]++Rn (m - 1) 0++[1])=zsV ([-1]++Rn (m - 1) 0)++[.int ((1:Nat):Int)]:=R3;rw[ai,e]
 have s6:=s4.trans ((ar hp5 (.lst [.int ((1:Nat):Int)])).trans (ar ha (.lst (zsV ([-1]++Rn (m - 1) 0)++[.int ((1:Nat):Int)]))));have fa:H a=none:=(s4.trans (ar hp5 (.lst [.int ((1:Nat):Int)]))).free ha;generalize upd (upd H4 p5 (.lst [.int ((1:Nat):Int)])) a (.lst (zsV ([-1]++Rn (m - 1) 0)++[.int ((1:Nat):Int)]))=H6 at h6 s6;k_go;have fa':a≠f:=λz=>by rw[z,cf.top]at fa;cases fa
 refine⟨f,_,rfl,s6 _ _ cf.top,λep=>?_⟩;have hf7:(upd H6 f (DE P w f (dJ (fs.map (·.1)) ps) ep)) f=some (DE P w f (dJ (fs.map (·.1)) ps) ep):=ai;have k7:∀c o,c≠f->H c=some o->(upd H6 f (DE P w f (dJ (fs.map (·.1)) ps) ep)) c=some o:=λc o hc z=>by rw[ak hc];exact s6 _ _ z
 have h7:(upd H6 f (DE P w f (dJ (fs.map (·.1)) ps) ep)) a=some (.lst (zsV ([-1]++Rn (m - 1) 0++[1]))):=by rw[ak fa'];exact h6
 generalize upd H6 f (DE P w f (dJ (fs.map (·.1)) ps) ep)=H7 at hf7 k7 h7;k_go;refine LN ?_;k_go;have zl:(dJ (fs.map (·.1)) ps).length=fs.length:=by unfold dJ;rw[Rc,Wj,Rc,cf.len];omega
 refine vD hf7 (λi σ' H'=>Fj (H' f=some (DE P w f (dJ (fs.map (·.1)) ps) ep)) ((∀c o,c≠f->H c=some o->H' c=some o)) (λ(a:Addr) (x:Z4)=>H a=none) (λa x=>H' a=some (.lst (zsV (o8 m (fs.take i) ([-1]++Rn (m - 1) 0++[1]))))) (λa x=>(o8 m (fs.take i) ([-1]++Rn (m - 1) 0++[1])).length<=100) (λa x=>σ'=[I? m,R? f,R? a,x]))
  ⟨hf7,k7,a,_,fa,h7,by simp[o8];omega,rfl⟩ (λi σ' H' z=>z.1) ?_ ?_
 .rintro i x σ' H8 hxi ⟨hf8,k8,a8,y8,fa8,ha8,hl8,rfl⟩;obtain⟨k,p,hk,hp,rfl⟩:=Ht hxi;rw[Ro]at hk;obtain⟨fx,hfx,rfl⟩:=SU.mp hk;obtain⟨c1,c2,c3⟩:=hx fx (Rb hfx);have Zt:=cf.row i p fx hp hfx;have pf:p≠f:=λz=>by rw[z,cf.top]at Zt;cases Zt
  have hp8:=k8 p _ pf Zt;have et:fs.take (i+1)=fs.take i++[fx]:=by rw[RM,hfx];rfl
  refine Bo (λ_ _ _ _ _ _=>?_);show eQ 3 (.int (fx.1:Int)) _ _ _;k_go;k_ne;k_go;have Zp:=E1 m (fs.take i) fx ([-1]++Rn (m - 1) 0++[1]);o_new
  .rw[if_pos c]at Zp;k_go;refine HR ?_;k_go;refine Ly hf8 (jv cf.nd (by rw[Ro,hfx];rfl) hp) ?_
   k_go;refine⟨_,_,_,_,rfl,lX ha8,lX hp8,c1,c2,by omega,λt qa qb H9 s9 ht fqa fqb _ hqa _=>?_⟩
   k_go;refine fQ ht (i:=0) rfl ?_;k_go;have fqa':H qa=none:=by
    cases z:H qa with
    | none=>rfl
    | some o =>
     by_cases e:qa=f
     .rw[e,hf8]at fqa;cases fqa
     .rw[k8 qa o e z]at fqa;cases fqa
   refine⟨s9 _ _ hf8,λc o hc z=>s9 _ _ (k8 c o hc z),qa,_,fqa',by rw[et,Zp];exact hqa,by rw[et,Zp];exact RU (IY c1) hl8,rfl⟩
  .rw[if_neg c]at Zp;k_go;exact⟨hf8,k8,a8,_,fa8,by rw[et,Zp];exact ha8,by rw[et,Zp];exact hl8,rfl⟩
 .rintro σ' H8 ⟨hf8,k8,a8,y8,fa8,ha8,hl8,rfl⟩;rw[zl,Sr]at ha8;k_go;have n8:a8≠f:=λz=>by rw[z,cf.top]at fa8;cases fa8
  refine⟨f,_,ep,rfl,hf8,?_⟩;k_go;refine q a8 _ fa8 (λc o z=>?_) (by rw[ak n8];exact ha8)
  by_cases e:c=f
  .rw[e]at z ⊢;rw[ai,<- z,cf.top]
  .rw[ak e];exact k8 c o e z
theorem my{m:Nat}:∀ {k:Nat} {x:Nat×YZ},x∈b7 m k->1<=x.1/\x.1<=k
 | 0,x,h=>by simp[b7]at h
 | k+1,x,h=>by
  unfold b7 at h
  split at h
  .rcases Rq.mp h with z|z
   .have:=my z;omega
   .rw[Rj.mp z];exact⟨by omega,Ru _⟩
  .have:=my h;omega
theorem xT{m:Nat}:∀ {k j:Nat} {x:Nat×YZ},k<=j->x∈b7 m k->x∈b7 m j
 | k,0,x,h,z=>by
  have:k=0:=by omega
  rw[this]at z;exact z
 | k,j+1,x,h,z=>by
  rcases Rz k (j+1) with y|y
  .have:=xT (show k<=j by omega) z
   unfold b7
   split
   .exact SM _ this
   .o_rec
  .have:k=j+1:=by omega
   rw[<- this];exact z
inductive Ga(K:Q7)(vs:Y6)(H:Hp)(Q:VK)(E:XK):Prop
 | mk (m:Nat) (_:vs=[.int m]) (_:1<=m) (_:m<=60) (_:gq m=true) (_:∀a H',H a=none->ag H H'->H' a=some (.lst (zsV (eA m)))->Q (.ref a) H')
theorem Cd(h:gq m=true):∀x∈b7 m m,x.2≠[]/\kf x.2=true:=λx hx=>by
 unfold gq at h;simp only[Tu]at h;have:=h.1.1.2;rw[RS]at this;have z:=this x hx;simp only[Tu,decide_eq_true_eq]at z;refine⟨λe=>?_,z.1⟩;rw[e]at z;exact absurd z.2 (by decide)
theorem Gg:Fa P w base T.pe 3 (Ga K):=by
 exists T.pe.ok qF
 obtain⟨m,rfl,m1,m2,ok,q⟩:=h;refine⟨_,(aa (aZ (pdf T.ff (mH T) hr (pa1 (pv 0))))
   (aa (pz 1 qF.nd mj)
   (aa (pfo (D6 rfl T.aU (paF aj (pa1 (ao aY (pv 0) aj)))) (pgn 2 qF.nd) (ae (aK (pcm cU (ao aQ (pv 0) (pv 2)) aj) (ae (lC (bY hr) (pv 1) (pv 2) (pdf T.hZ (vx T) hr (paF (pv 2) (pa1 (pv 1)))) rfl)) aG)))
   (ae (ax (bW (bY hr) (pv 1) (pv 0) (λ_ _=>rfl))))))),?_⟩
 k_go;refine⟨m,rfl,m1,m2,?_⟩;k_go;refine rC λf hf=>?_;k_go;refine L4 ?_;k_go;have f0:CF (upd H f (.dK [])) f [] []:=⟨ai,rfl,by simp,λi p x e=>by simp at e⟩
 refine qI (lo:=1) (n:=m) rfl (by omega) (by omega) (λi σ' H'=>Bb (ag H H') (λ(ps:Y9) (x:Z4)=>CF H' f (b7 m i) ps) (λps x=>(∀p∈ps,H p=none)) (λps x=>σ'=[I? m,R? f,x])) ⟨ar hf _,[],_,f0,by simp,rfl⟩ ?_ ?_
 .rintro i σ' H2 hi ⟨s2,ps,x,cf,d6,rfl⟩;k_go;k_ne;k_go;have e1:1+i=i+1:=by omega
  rw[e1];have cl:(b7 m i).length<=i:=by
   have:∀k,(b7 m k).length<=k:=λk=>by
    induction k with
    | zero=>exact Ru _
    | succ k ih =>
     unfold b7
     split
     .rw[Rt];show _+1<=_;omega
     .omega
   exact this i
  o_new
  .have ec:b7 m (i+1)=b7 m i++[(i+1,zp (i+1) (b7 m i))]:=by
    show (if m % (i+1)=0 then _ else _)=_;rw[if_pos c]
   k_go;refine lA ?_;k_go;refine⟨f,i+1,b7 m i,ps,rfl,cf,by omega,by omega,λx hx=>?_,λa H3 fa s3 ha=>?_⟩
   .have h1:=Cd ok x (xT (by omega) hx)
    exact⟨h1.1,h1.2,(my hx).1⟩
   k_go;have kn:i+1∉(b7 m i).map (·.1):=λz=>by
    obtain⟨x,hx,e⟩:=Rw.mp z;have:=my hx;omega
   refine nD (s3 _ _ cf.top) (RU Bn (by rw[Rc];omega)) ?_
   rw[xv (by rw[Rc,cf.len]) kn]
   have af:a≠f:=λz=>by rw[z,cf.top]at fa;cases fa
   w_up
   refine⟨λc o z=>?_,ps++[a],_,⟨?_,?_,?_,λj p x e1 e2=>?_⟩,λp hp=>?_,rfl⟩
   .rw[ak (av z hf)];exact s3 _ _ (s2 _ _ z)
   .rw[ai,ec,R3];rfl
   .rw[ec,Rt,Rt,cf.len];rfl
   .rw[ec,R3];exact rO cf.nd kn
   .rw[ec]at e2;have hl:=cf.len;rcases Rz j ps.length with z|z
    .rw[RI z]at e1;rw[RI (by omega)]at e2
     have r:=cf.row j p x e1 e2;have pf:p≠f:=λc=>by rw[c,cf.top]at r;cases r
     rw[ak pf];exact s3 _ _ r
    .rw[RK z]at e1;rw[RK (by omega)]at e2
     have j0:j - ps.length=0:=by
      rcases Su (j - ps.length) with c|c
      .exact c
      .rw[RF (by simp;omega)]at e1;cases e1
     rw[j0]at e1;rw[show j - (b7 m i).length=0 by omega]at e2
     cases e1;cases e2;rw[ak af];exact ha
   .rcases Rq.mp hp with z|z
    .exact d6 p z
    .rw[Rj.mp z];exact s2.free fa
  .have ec:b7 m (i+1)=b7 m i:=by
    show (if m % (i+1)=0 then _ else _)=_;rw[if_neg c]
   k_go;exact⟨s2,ps,_,by rw[ec];exact cf,d6,rfl⟩
 .rintro σ' H2 ⟨s2,ps,x,cf,d6,rfl⟩;have ec:b7 m m=b7 m (m - 1)++[(m,eA m)]:=by
   obtain⟨k,rfl⟩:∃k,m=k+1:=⟨m - 1,by omega⟩
   show (if (k+1) % (k+1)=0 then _ else _)=_;rw[if_pos (Vv _)];rfl
  have hl:(b7 m m)[(b7 m (m - 1)).length]?=some (m,eA m):=by rw[ec,RK (Ru _)];simp
  have Zd:(b7 m (m - 1)).length<ps.length:=by rw[cf.len,ec,Rt];exact Tt _
  k_go;refine bU ?_;k_go;refine cB cf.top (jv cf.nd (j:=(b7 m (m - 1)).length) (by rw[Ro,hl];rfl) (Q8 Zd)) ?_
  exact q _ _ (d6 _ (Sd Zd)) s2 (cf.row _ _ _ (Q8 Zd) hl)
noncomputable def wfs(r:V)(m z:Int):List (Str×V):=[("rim",r),("spokes",.int m),("size",.int z)]
noncomputable def tG(C:Addr)(H:Hp)(g:Addr)(m:Nat):Prop:=∃dx r,H g=some (.ins C dx (wfs (.ref r) m ((eA m).length - 1:Nat)))/\H r=some (.lst (zsV (eA m)))
theorem tG.mono{g:Nat}(s:ag H H')(h:tG C H g m):tG C H' g m:=by
 obtain⟨dx,r,h1,h2⟩:=h;exact⟨dx,r,s _ _ h1,s _ _ h2⟩
inductive Ir(C:Addr)(vs:Y6)(H:Hp)(Q:VK)(E:XK):Prop
 | mk (p dx:Addr) (m:Nat) (_:vs=[.ref p,.int m]) (_:H p=some (.ins C dx [])) (_:1<=m) (_:m<=60) (_:gq m=true) (_:∀r H',H r=none->H' p=some (.ins C dx (wfs (.ref r) m ((eA m).length - 1:Nat)))->H' r=some (.lst (zsV (eA m)))->(∀a o,H a=some o->a≠p->H' a=some o)->Q .non H')
theorem HL:aH P w K mg base CX0 4 T.vG T.wj ["self","many"] (Ir T.cy):=by
 exists T.Lv.ok yE
 obtain⟨p,dx,m,rfl,hp,m1,m2,ok,q⟩:=h;have W:=uU ok;refine⟨_,(aa (cG K rfl (pv 0) (pdf T.pe (Gg T) hr (pa1 (pv 1))) rfl)
   (aa (cG K rfl (pv 0) (pv 1) rfl)
   (ae (cG K rfl (pv 0) (ao gQ (pln K T.bo (pfl K (pv 0))) aj) rfl)))),?_⟩
 k_go;refine⟨m,rfl,m1,m2,ok,λr H1 fr s1 hr1=>?_⟩;have rp:r≠p:=λz=>by rw[z,hp]at fr;cases fr
 k_go;refine⟨p,T.cy,dx,_,rfl,s1 _ _ hp,T.gv,T.mY,(by show 0<1000;decide),?_⟩
 k_go;refine⟨p,T.cy,dx,_,rfl,ai,T.gv,T.jE,(by show 1<1000;decide),?_⟩
 k_go;refine⟨p,T.cy,dx,_,_,rfl,ai,T.gv,T.mY,rfl,?_⟩;k_go;refine cp (l:=eA m) (lX (by rw[ak rp,ak rp];exact hr1)) ?_
 k_go;refine⟨p,T.cy,dx,_,rfl,ai,T.gv,T.AR,(by show 2<1000;decide),?_⟩
 have e:(((eA m).length:Int) - ((1:Nat):Int))=(((eA m).length - 1:Nat):Int):=by rw[W.len];omega
 rw[e];refine q r _ fr ai ?_ λa o ha Zj=>?_
 .rw[ak rp,ak rp,ak rp];exact hr1
 .rw[ak Zj,ak Zj,ak Zj];exact s1 _ _ ha
inductive yJ(C:Addr)(K:Q7)(vs:Y6)(H:Hp)(Q:VK)(E:XK):Prop
 | mk (g:Addr) (v:V) (sp st:Int) (m:Nat) (l:YZ) (_:vs=[.ref g,v,.int sp,.int st]) (_:tG C H g m) (_:1<=m) (_:m<=60) (_:wy m) (_:At K H v l) (_:l.length<=1000) (_:∀b H',H b=none->ag H H'->H' b=some (.lst (zsV (jC (iq m sp st l) (eA m)).2))->Q (.ref b) H')
theorem yK:aH P w K mg base CX0 2 T.lZ T.lM ["self","counts","step","start"] (yJ T.cy K):=by
 exists T.BN.ok fM
 obtain⟨g,v,sp,st,m,l,rfl,hW,m1,m2,W,hv,hl,q⟩:=h;obtain⟨dx,r,hg,hr'⟩:=id hW;refine⟨_,(aa (pz 4 fM.nd (ao rA (bg (pa1 aj)) (pfl K (pv 0))))
   (aa (pfo (iE K rfl rfl T.eL (pa1 (pv 1))) (md rfl (c7 (pgn 5 fM.nd) (c7 (pgn 6 fM.nd) js))) (aa (pz 7 fM.nd (ao aQ (ao aY (pv 3) (ao bT (pv 2) (pv 5))) (pfl K (pv 0))))
   (ae (uK (ao aY (pxl K (pv 4) (pv 7)) (pv 6)) (uT (pv 4) (pv 7) set_list)))))
   (ae (ax (d8 (cS K rfl) (pdf T.jY (ui T) hr (paF (pv 4) (pa1 (pfl K (pv 0))))) aj (λ_ _=>rfl)))))),?_⟩
 k_go;refine cK ?_;k_go;refine⟨sK,λp1 ZG=>?_⟩
 have s1:=ar ZG (.lst [.int ((0:Nat):Int)]);k_go;refine⟨g,T.cy,dx,_,_,rfl,s1 _ _ hg,T.gv,T.jE,rfl,?_⟩;refine⟨p1,_,_,rfl,rfl,ai,by omega,by omega,?_,λa ha=>?_⟩
 .rw[RO];show 1 * _<=_;omega
 rw[show ((m:Nat):Int).toNat=m by omega,J9]
 have fa:H a=none:=s1.free ha;have s2:=s1.trans (ar ha (.lst (zsV (Rn m ((0:Nat):Int)))));have h2:(upd (upd H p1 (.lst [.int ((0:Nat):Int)])) a (.lst (zsV (Rn m ((0:Nat):Int))))) a=some (.lst (zsV (iq m sp st []))):=ai;generalize upd (upd H p1 (.lst [.int ((0:Nat):Int)])) a (.lst (zsV (Rn m ((0:Nat):Int))))=H2 at s2 h2;k_go;refine iQ (H₀:=H) hv (λi σ' H'=>Hw (ag H H') (λ(x:Z4) (y:Z4) (z:Z4)=>H' a=some (.lst (zsV (iq m sp st (l.take i))))) (λx y z=>σ'=[R? g,some v,I? sp,I? st,R? a,x,y,z])) ⟨s2,_,_,_,h2,rfl⟩ (λi σ' H' z=>z.1) ?_ ?_
 .rintro i c w' σ' H3 H4 p hc hw ⟨s3,x,y,z,h3,rfl⟩ hp hH4 s4;k_exc;have h4:=s4 _ _ h3;have Zo:=s3.trans s4;have hil:i<l.length:=(Q9.mp hc).1;have pl:=LH (show 0<m by omega) sp st i
  have hll:=xq m sp st (l.take i);k_go;refine wO (.inr ⟨by omega,by omega⟩) ?_
  k_go;refine⟨g,T.cy,dx,_,_,rfl,Zo _ _ hg,T.gv,T.jE,rfl,?_⟩;refine N9 (by omega) ?_
  rw[<- GI (show 0<m by omega)]
  k_go;refine EE (lX h4) rfl (show (iq m sp st (l.take i))[kC m sp st i]?=some ((iq m sp st (l.take i)).getD (kC m sp st i) 0) by
   rw[V1,Q8 (by omega)];rfl) ?_
  k_go;refine uS h4 rfl (by unfold zsV;rw[Rc,hll];exact pl) ?_
  have et:l.take (i+1)=l.take i++[c]:=by rw[RM,hc];rfl
  have hlen:(l.take i).length=i:=by rw[RG];omega
  w_up
  refine⟨λb o zz=>by rw[ak (av zz fa)];exact Zo _ _ zz,_,_,_,?_,rfl⟩
  rw[ai,et,ES,hlen];unfold zsV;rw[XR]
 .rintro σ' H3 ⟨s3,x,y,z,h3,rfl⟩;rw[Sr]at h3;k_go;refine⟨g,T.cy,dx,_,_,rfl,s3 _ _ hg,T.gv,T.mY,rfl,?_⟩;k_go;refine⟨_,_,_,_,rfl,lX h3,lX (s3 _ _ hr'),W.ne,W.sm,by rw[xq];omega,λt qa qb H4 s4 ht _ fqb _ _ hqb=>?_⟩
  k_go;refine fQ ht (i:=1) rfl ?_;exact q qb H4 (s3.free fqb) (s3.trans s4) hqb
inductive ud(C:Addr)(K:Q7)(vs:Y6)(H:Hp)(Q:VK)(E:XK):Prop
 | mk (g:Addr) (v:V) (m:Nat) (l:YZ) (_:vs=[.ref g,v]) (_:tG C H g m) (_:1<=m) (_:m<=60) (_:wy m) (_:At K H v l) (_:l.length<=1000) (_:∀b H',H b=none->ag H H'->H' b=some (.lst (zsV (NT m l)))->Q (.ref b) H')
theorem uM:aH P w K mg base CX0 3 T.jw T.jx ["self","counts"] (ud T.cy K):=by
 exists T.wI.ok uW
 obtain⟨g,v,m,l,rfl,hW,m1,m2,W,hv,hl,q⟩:=h;obtain⟨dx,r,hg,hr'⟩:=id hW;refine⟨_,(ae (ax (oX (pv 0) T.gv T.Bg (yK T) (hr.mono (by decide)) T.Be (paF (pv 1) (paF aj (pa1 aj)))))),?_⟩
 k_go;refine uw ?_;k_go;refine⟨g,dx,_,rfl,hg,rfl,?_⟩;k_go;exact⟨g,v,1,0,m,l,rfl,hW,m1,m2,W,hv,hl,q⟩
end
inductive wC(C:Addr)(K:Q7)(vs:Y6)(H:Hp)(Q:VK)(E:XK):Prop
 | mk (g:Addr) (v u z:V) (n e m l:Nat) (t:AC) (R M:AT) (_:vs=[.ref g,v,u,z]) (_:aI C H g n t e) (_:GT n t e) (_:At K H v R) (_:IsPart n t R) (_:At K H u M) (_:M.length=R.length) (_:(∀x∈M,x<m)) (_:(z=.int m\/(z=.non/\m=l))) (_:b9 (bX n t e) l) (_:m % l=0) (_:0<m) (_:m<=60) (_:∀x H' o,ag H H'->Qq H' x o->lB t R M m o->Q x H')
section
variable {P:RB}{w:World} 
inductive vz(K:Q7)(vs:Y6)(H:Hp)(Q:VK)(E:XK):Prop
 | mk (v u:V) (m:Nat) (R M:AT) (_:vs=[v,u,.int m]) (_:At K H v R) (_:At K H u M) (_:M.length=R.length) (_:M.length<=1000) (_:(∀x∈M,x<m)) (_:∀H',ag H H'->Q .non H')
theorem wR:Fa P w base T.gZ 1 (vz K):=by
 exists T.gZ.ok vH
 obtain⟨v,u,m,R,M,rfl,hR,hM,hl,h1,mm,q⟩:=h;refine⟨_,(aa (aK (pcm d9 (pln K T.bo (pv 1)) (pln K T.bo (pv 0))) (ae c9) aG)
   (ae (aK (dA (bK (xk K rfl rfl) rfl T.Kf X2 (pa1 (bL rfl lH (pil K (pv 1)) (λ_ _ _ _=>⟨(pgn 0 lH.nd),bz,(O1 (iO jI (pv 0) aj (iT _)) (Aj (iO oH (pv 0) (pv 1) (iT _))))⟩))))) (ae c9) aG))),?_⟩
 k_go;k_ne;k_go;refine bJ (λc=>absurd hl c) (λ_=>?_);k_go;k_ne;k_go;refine oF (β:=Bool) hM (by omega) (λi=>Rn i false) (λσ'=>∃y,σ'=[y,I? m]) rfl (λi _=>by simp) ⟨_,rfl⟩ ?_ ?_
 .walk_at "124";have c1:=mm c (Rb hc);k_go;k_get
  k_go;rw[decide_eq_false (show ¬ c >= m by omega)]
  exact Zx _ _ false _ ⟨_,rfl⟩ (ag.refl _) rfl Vi
 intro d2 H3 s3 h3;have h3':At K H3 (.ref d2) (Rn M.length false):=h3;k_go;refine JE h3' ?_;rw[show (Rn M.length false).any id=false from VL.mpr λx hx=>by rw[UM hx];decide]
 k_go;refine de ?_;k_go;exact q _ s3
theorem v7:aH P w K mg base CX0 4 T.gX.f T.gX.fd ["group","part","marks","spokes"] (wC T.aE K):=by
 exists T.gX.ok eV
 obtain⟨g,v,u,z,n,e,m,l,t,R,M,rfl,hG,gt,hR,pt,hM,ml,mm,hz,hl,ZU,m1,Zs,q⟩:=h;have Zw:=gt.le;have rl:=pt.len;have nd:=aB pt.srt;have sv:nN n t e z m:=by
  rcases hz with rfl|⟨rfl,rfl⟩
  .k_put
  .exact .inl ⟨rfl,hl⟩
 refine⟨_,(aa (aZ (pdf T.dU (ip T) hr (paF (pv 0) (pa1 (pv 1)))))
   (aa (pz 4 eV.nd (pdf T.fq (iV T) hr (paF (pv 0) (pa1 (pv 3)))))
   (aa (aZ (pdf T.gZ (wR T) hr (paF (pv 1) (paF (pv 2) (pa1 (pv 4))))))
   (aa (pz 5 eV.nd (gD K rfl rfl rfl T.nK rfl T.rF (paF (pv 1) (pa1 (pv 2)))))
   (aa (pfo (pil K (pv 1)) (pgn 6 eV.nd) (ae (pfo (pil K (pv 1)) (pgn 7 eV.nd) (ae (aK (pcm d9 (bW (bY hr) (pv 5) (pxl K (pxl K (pfl K (pv 0)) (pv 6)) (pv 7)) (λ_ _=>rfl)) (ao aQ (ao aY (bW (bY hr) (pv 5) (pv 6) (λ_ _=>rfl)) (bW (bY hr) (pv 5) (pv 7) (λ_ _=>rfl))) (pv 4))) (ae (ax (gP (paF (pv 6) (pa1 (pv 7)))))) aG)))))
   (ae (ax A8))))))),?_⟩
 apply⟨g,v,n,e,t,R,rfl,hG,gt,hR,pt,λH1 s1=>?_⟩;apply⟨g,z,n,e,m,t,rfl,aI.mono s1 hG,gt,sv,λH2 s2=>?_⟩;k_upd;apply⟨v,u,m,R,M,rfl,Rep.mono Zf hR,Rep.mono Zf hM,ml,by omega,mm,λH3 s3=>?_⟩
 have Zm:=Zf.trans s3;apply iH ?_;apply wU (Rep.mono Zm hR) (Rep.mono Zm hM) ml.symm nd λd hd=>?_;have Zo:=Zm.trans (ar hd (.dK (cI R M)));have ZT:upd H3 d (.dK (cI R M)) d=some (.dK (cI R M)):=ai;generalize upd H3 d (.dK (cI R M))=H4 at Zo ZT ⊢;have hG4:=aI.mono Zo hG;obtain⟨dx,r4,bk,hg,hT,hB⟩:=hG4.get (K:=K);apply dB (Rep.mono Zo hR) (λj σ' H'=>nM (H'=H4) ((∀j',j' < j->∀k,k<R.length->jr t R M m j' k)) (λx6 x7=>σ'=[R? g,some v,some u,some z,I? m,R? d,x6,x7])) ⟨rfl,λj hj=>absurd hj (by omega),_,_,rfl⟩ (λi σ' H' y=>by rw[y.1];exact ag.refl _) ?_ ?_
 .rintro j a w' σ' H' ha hw ⟨rfl,hj,x6,x7,rfl⟩;cases(show w'=V.int a from hw);have jl:j<R.length:=(Q9.mp ha).1;have Z!:=Rb ha;have han:=pt.lt a Z!;have mi:=getD_some (l:=M) 0 (show j<M.length by omega)
  have ea:R.getD j 0=a:=by rw[Rf,ha];rfl
  apply dB (Rep.mono Zo hR) (λk σ' H1=>iU (H1=H') ((∀k',k' < k->jr t R M m j k')) (λx7=>σ'=[R? g,some v,some u,some z,I? m,R? d,I? a,x7])) ⟨rfl,λj hj=>absurd hj (by omega),_,rfl⟩ (λi σ' H1 y=>by rw[y.1];exact ag.refl _) ?_ ?_
  .rintro k b w2 σ' H1 hb Y' ⟨rfl,Zv,x7,rfl⟩;cases(show w2=V.int b from Y');have kl:k<R.length:=(Q9.mp hb).1;have hbR:=Rb hb;have hbn:=pt.lt b hbR;have mk:=getD_some (l:=M) 0 (show k<M.length by omega)
   have eb:R.getD k 0=b:=by rw[Rf,hb];rfl
   have hab:=pt.cl a Z! b hbR;have hx:=R6 hab;have mx:=getD_some (l:=M) 0 (show R.idxOf (tb t a b)<M.length by omega)
   have oke:jr t R M m j k↔M.getD (R.idxOf (tb t a b)) 0=(M.getD j 0+M.getD k 0) % m:=by
    unfold jr;rw[ea,eb]
   fin2;k_ne;apply bU ?_;symm;refine cM hT rfl (gt.get han) λw1 Zk=>?_;apply bh Zk (gt.dz han hbn) ?_;refine cB ZT (fB nd (jy hab) mx) ?_;apply bU ?_;apply cB ZT (fB nd ha mi) ?_;apply bU ?_;apply cB ZT (fB nd hb mk) ?_;apply bJ (λy=>?_) (λy=>?_)
   .apply iX ?_;apply⟨Sc,λp hp=>?_⟩
    fin2;exact q _ _ (some (a,b)) (Zo.trans (ar hp _)) ⟨p,rfl,ai⟩ ⟨j,k,jl,kl,ea,eb,λy'=>y (oke.mp y'),hj,Zv⟩
   .apply⟨rfl,λk' hk2=>?_,_,rfl⟩;rcases Rz k' k with y' | y'
    .exact Zv k' y'
    .have:k'=k:=by omega
     rw[this];exact oke.mpr y
  .rintro σ' H1 ⟨rfl,Zv,x7,rfl⟩;apply⟨rfl,λj' hj2 k hk=>?_,_,_,rfl⟩;rcases Rz j' j with y|y
   .exact hj j' y k hk
   .have:j'=j:=by omega
    rw[this];exact Zv k hk
 .rintro σ' H' ⟨rfl,hj,x6,x7,rfl⟩;fin2;exact q _ _ none Zo rfl λj hj2 k hk=>hj j hj2 k hk
inductive yG(C:Addr)(K:Q7)(vs:Y6)(H:Hp)(Q:VK)(E:XK):Prop
 | mk (g:Addr) (v:V) (n e x:Nat) (t:AC) (R:AT) (_:vs=[.ref g,v,.int x]) (_:aI C H g n t e) (_:GT n t e) (_:At K H v R) (_:IsPart n t R) (_:x<n) (_:∀k H',ag H H'->1<=k->ay t e x k∈R->(∀i,1<=i->i<k->ay t e x i∉R)->Q (.int k) H')
theorem nR(gt:GT n t e)(hx:x<n)(k:Nat):ay t e x ((k:Int) % (aM n t e x:Int)).toNat=ay t e x k:=by
 rw[<- Bs gt hx k];rfl
theorem yZ:Fa P w base T.je 3 (yG T.aE K):=by
 exists T.je.ok ky
 obtain⟨g,v,n,e,x,t,R,rfl,hG,gt,hR,pt,hx,q⟩:=h;refine⟨_,(aa (pz 3 ky.nd aj)
   (aa (jo UI (lE (kg K rfl) (pdf T.iK (lY T) hr (paF (pv 0) (paF (pv 2) (pa1 (pv 3))))) (pv 1) (by with_unfolding_all rfl)) (ae (pz 3 ky.nd (ao aY (pv 3) aj))))
   (ae (ax (pv 3))))),?_⟩
 have os:=dW gt hx;have op:=gC (n:=n) (t:=t) (e:=e) (a:=x);apply jz (λb σ' H'=>qW (ag H H') (λk=>1<=k) (λk=>k<=aM n t e x) (λk=>b=aM n t e x - k) (λk=>(∀i,1<=i->i<k->ay t e x i∉R)) (λk=>σ'=[R? g,some v,I? x,I? k])) (aM n t e x - 1)
  ⟨ag.refl _,1,Ru _,op,rfl,λi h1 h2=>absurd h1 (by omega),rfl⟩ ?_
 rintro b σ' H1 ⟨s1,k,k1,k2,rfl,ko,rfl⟩;apply⟨g,n,e,x,(k:Int),t,rfl,aI.mono s1 hG,gt,hx,λH2 s2=>?_⟩;rw[nR gt hx k];k_upd;apply r9 (Rep.mono Zf hR) ?_;apply bJ (λc=>?_) (λc=>?_)
 .have k3:k<aM n t e x:=by
   rcases Rz k (aM n t e x) with y|y
   .exact y
   .have:k=aM n t e x:=by omega
    rw[this,os.2.1]at c;exact absurd (pt.un gt) c
  refine⟨λσ2 H4=>ag H H4/\σ2=[R? g,some v,I? x,I? ((k+1:Nat):Int)],λσ2 H4 y=>⟨aM n t e x - (k+1),by omega,y.1,k+1,by omega,k3,rfl,λi i1 i2=>?_,y.2⟩,?_⟩
  .rcases Rz i k with y|y
   .exact ko i i1 y
   .have:i=k:=by omega
    rw[this];exact c
  fin2;exact⟨Zf,rfl⟩
 .fin2;exact q k _ Zf k1 c ko
theorem Ld{b:Addr}{o:HO}(fb:H b=none)(s:ag H H'):ag H (upd H' b o):=λa o' z=>by
 rw[ak (av z fb)];exact s _ _ z
theorem pD{kvs:Y1}{k:Key}{v:V}(h:k∉kvs.map (·.1)):putK kvs k v=kvs++[(k,v)]:=by
 unfold putK;rw[if_neg];intro z;obtain⟨p,hp,e⟩:=V4.mp z;exact h (Rw.mpr ⟨p,hp,of_decide_eq_true e⟩)
theorem Hz{kvs:Y1}{k k':Key}{v:V}(h:k∉kvs.map (·.1)):bq (kvs++[(k,v)]) k'=if k=k' then some v else bq kvs k':=by
 unfold bq;rw[List.find?_append]
 by_cases c:k=k'
 .subst c;have:kvs.find? (λkv=>decide (kv.1=k))=none:=List.find?_eq_none.mpr λp hp z=>h (Rw.mpr ⟨p,hp,of_decide_eq_true z⟩);rw[this,if_pos rfl];simp
 .rw[if_neg c];have:[(k,v)].find? (λkv=>decide (kv.1=k'))=none:=by simp[c]
  rw[this,Option.or_none]
noncomputable def AJ(n:Nat)(t:AC)(e:Nat)(R M:AT)(x k:Nat)(H:Hp)(kvs:Y1)(l:AT):Prop:=kvs.map (·.1)=l.map nk /\
 ∀y∈l,∃q,bq kvs (nk y)=some (.ref q)/\H q=some (.tup [.int (mkO R M (bsO n t e R x k y):Int),.int (ixO n t e R x k y:Int)])
theorem AJ.put{kvs:Y1}(h:AJ n t e R M x k H kvs l)(hy:y∉l)(hH:∀a xs,H a=some (.tup xs)->H' a=some (.tup xs))(hq:H' q=some (.tup [.int (mkO R M (bsO n t e R x k y):Int),.int (ixO n t e R x k y:Int)])) :
  AJ n t e R M x k H' (putK kvs (nk y) (.ref q)) (l++[y]):=by
 have no:nk y∉kvs.map (·.1):=by
  rw[h.1];intro z;obtain⟨y',h1,h2⟩:=Rw.mp z;exact hy (gK h2 ▸ h1)
 rw[pD no];refine⟨by rw[R3,h.1,R3];rfl,λz hz=>?_⟩
 rw[Hz no];rcases Rq.mp hz with c|c
 .obtain⟨q',a,b⟩:=h.2 z c;have:¬ nk y=nk z:=λe=>hy (gK e ▸ c);rw[if_neg this];exact⟨q',a,hH _ _ b⟩
 .have:=Rj.mp c;subst this;rw[if_pos rfl];exact⟨q,rfl,hq⟩
inductive B6(C:Addr)(K:Q7)(vs:Y6)(H:Hp)(Q:VK)(E:XK):Prop
 | mk (g:Addr) (v u:V) (n e x m:Nat) (t:AC) (R M:AT) (_:vs=[.ref g,v,u,.int x,.int m]) (_:aI C H g n t e) (_:GT n t e) (_:At K H v R) (_:IsPart n t R) (_:At K H u M) (_:IsW t R M m) (_:x<n) (_:m<=60) (_:(∀k,1<=k->ay t e x k∈R->(∀i,1<=i->i<k->ay t e x i∉R)->cV n t e R M x m k)) (_:∀p dg df H' P L,H dg=none->ag H H'->H' p=some (.tup [.ref dg,.ref df])->H' dg=some (.lst (au P))->Rows H H' df L->Taken n t e R M x m P L->Q (.ref p) H')
theorem sD:Fa P w base T.i6 4 (B6 T.aE K):=by
 exists T.i6.ok cX
 obtain⟨g,v,u,n,e,x,m,t,R,M,rfl,hG,gt,hR,pt,hM,hw,hx,Zs,tk,q⟩:=h;obtain⟨dx,gr,gb,hg,hT,hB⟩:=hG.get (K:=K);have Zw:=gt.le;have rl:=pt.len;have ml:=hw.len;have nd:=aB pt.srt;refine⟨_,(aa (pz 5 cX.nd (gD K rfl rfl rfl T.nK rfl T.rF (paF (pv 1) (pa1 (pv 2)))))
   (aa (pz 6 cX.nd (pdf T.je (yZ T) hr (paF (pv 0) (paF (pv 1) (pa1 (pv 3))))))
   (aa (pz 7 cX.nd (bW (bY hr) (pv 5) (pdf T.iK (lY T) hr (paF (pv 0) (paF (pv 3) (pa1 (pv 6))))) (λ_ _=>rfl)))
   (aa (pz 8 cX.nd mj)
   (aa (pfo (prg T.aU (pv 6)) (pgn 9 cX.nd) (ae (pfo (pil K (pv 1)) (pgn 10 cX.nd) (ae (lC (bY hr) (pv 8) (pxl K (pxl K (pfl K (pv 0)) (pv 10)) (pdf T.iK (lY T) hr (paF (pv 0) (paF (pv 3) (pa1 (pv 9)))))) (gP (paF (bW (bY hr) (pv 5) (pv 10) (λ_ _=>rfl)) (pa1 (pv 9)))) rfl)))))
   (aa (pz 11 cX.nd (bK (yX rfl) rfl T.fX S5 (pa1 (pv 8))))
   (aa (pz 12 cX.nd (bg bZ))
   (aa (pfo (prg T.aU (pv 4)) (pgn 13 cX.nd) (ae (aK (pcm cU (ao aQ (ao bT (pv 6) (pv 13)) (pv 4)) (pv 7)) (ae (aZ (pap K (pv 12) (bL rfl pH (pil K (pv 11)) (λ_ _ _ _=>⟨(pgn 0 pH.nd),bz,(ao aQ (ao aY (d8 (cS K rfl) (bW (bY hr) (pv 1) (pv 0) (λ_ _=>rfl)) aj (λ_ _=>rfl)) (ao bT (d8 (cS K rfl) (bW (bY hr) (pv 1) (pv 0) (λ_ _=>rfl)) aj (λ_ _=>rfl)) (pv 2))) (pv 3))⟩))))) aG)))
   (ae (ax (gP (paF (pv 11) (pa1 (bK (pX K rfl hr.units) rfl T.fX S5 (pa1 (pv 12)))))))))))))))),?_⟩
 apply iH ?_;apply wU hR hM ml.symm nd λd hd=>?_;exists hd,(.dK (cI R M)),H,d,s1,k!,(.dK (cI R M)),H1;apply⟨g,v,n,e,x,t,R,rfl,aI.mono s1 hG,gt,Rep.mono s1 hR,pt,hx,λk H2 s2 k1 kin mV=>?_⟩;have T0:=tk k k1 kin mV;k_upd;have hd2:=s2 _ _ k!;have pn:=λj=>bu gt hx j;k_cls
 apply bU ?_;apply⟨g,n,e,x,(k:Int),t,rfl,aI.mono Zf hG,gt,hx,λH3 s3=>?_⟩;rw[nR gt hx k];have Zm:=Zf.trans s3;have c!:=s3 _ _ hd2;refine cB c! (r! _ kin) ?_;apply rC λdo' hdo=>?_;exists hdo,(.dK []),H3,do',P!,w4,(.dK []),H4;have Zo:=Zm.trans P!;have ZT:=P! _ _ c!;have fo:H do'=none:=Zm.free hdo;have dne:d≠do':=bF c! hdo;have ll:(lay t e x R k).length<=n:=cE (T0.nd gt) (T0.lt gt);have lk:k * R.length<=23:=by rw[<- vA (t:=t) (e:=e) (x:=x)];omega
 have r1:0<R.length:=RJ.mpr pt.ne;have k23:k<=23:=RU (Ud k r1) lk;have new:∀ {i j h:Nat},i<k->R[j]?=some h->tb t h (ay t e x i)∉lay t e x R i++(R.take j).map (λh=>tb t h (ay t e x i)):=λ{i j h} hi hj z=>by
  have hh:=Rb hj;rcases Rq.mp z with c|c
  .obtain⟨i',ZJ,h',ZL,e'⟩:=eT.mp c;have:=(T0.one gt ZL hh (by omega) hi e').1
   omega
  .obtain⟨h',ZL,e'⟩:=Rw.mp c;have e2:=(T0.one gt (Vh ZL) hh hi hi e').2;subst e2;obtain⟨j',f'⟩:=RD ZL;rw[List.getElem?_take]at f'
   split at f'
   .have a1:=eE nd hj;have a2:=eE nd f';omega
   .cases f'
 apply bf (n:=k) rfl (by omega) (λi σ' H'=>Fs (ag H3 H') (λ(kvs:Y1) (x9:Z4) (Zu:Z4)=>H' do'=some (.dK kvs)) (λkvs x9 Zu=>AJ n t e R M x k H' kvs (lay t e x R i)) (λkvs x9 Zu=>σ'=[R? g,some v,some u,I? x,I? m,R? d,I? k,I? (mkO R M (ay t e x k):Int),R? do',x9,Zu,none,none,none])) ⟨P!,[],_,_,w4,⟨rfl,λy hy=>absurd hy Tb⟩,rfl⟩ ?_ ?_
 .rintro i σ' H5 hi ⟨s5,kvs,x9,Zu,w5,og,rfl⟩;apply dY (H₀:=H3) (α:=Nat) (Rep.mono Zm hR) (λj σ' H'=>Bb (ag H3 H') (λ(kvs:Y1) (Zu:Z4)=>H' do'=some (.dK kvs)) (λkvs Zu=>AJ n t e R M x k H' kvs (lay t e x R i++(R.take j).map λh=>tb t h (ay t e x i))) (λkvs Zu=>σ'=[R? g,some v,some u,I? x,I? m,R? d,I? k,I? (mkO R M (ay t e x k):Int),R? do',I? i,Zu,none,none,none])) ⟨s5,kvs,_,w5,by simpa using og,rfl⟩ (λi σ' H' z=>z.1) ?_ ?_
  .rintro j h w' σ' H6 hj t! ⟨s6,kvs,Zu,w6,og,rfl⟩;cases(show w'=V.int h from t!);have hh:=Rb hj;have hn:=pt.lt h hh;have kl:kvs.length<=100000:=by
    have e1:=congrArg Vq og.1;rw[Rc,Rc,Rt,Rc,vA]at e1;have:(R.take j).length<=R.length:=by rw[RG];omega
    have:i * R.length<=k * R.length:=Ub _ (by omega)
    omega
   apply lA ?_;apply iX ?_;apply bU ?_;apply cB (s6 _ _ c!) (r! h hh) ?_;apply⟨Sc,λq' a!=>?_⟩
   exists a!,(.tup [.int (mkO R M h:Int),.int i]),H6,q',s67,w7,(.tup [.int (mkO R M h:Int),.int i]),H7;have s07:=Zm.trans (s6.trans s67);apply bO T (s07 _ _ hg) ?_;apply cM (Rep.mono s07 hT) rfl (gt.get hn) λw1 Zk=>?_;apply⟨g,n,e,x,(i:Int),t,rfl,aI.mono s07 hG,gt,hx,λH8 s8=>?_⟩;rw[nR gt hx i];refine bh (Rep.mono s8 Zk) (gt.dz hn (pn i)) ?_;have w8:=s8 _ _ (s67 _ _ w6);refine nD w8 kl ?_;w_up
   refine⟨Ld hdo (s6.trans (s67.trans s8)),_,_,ai,?_,rfl⟩;have tk1:lay t e x R i++(R.take (j+1)).map (λh=>tb t h (ay t e x i))=(lay t e x R i++(R.take j).map λh=>tb t h (ay t e x i))++[tb t h (ay t e x i)]:=by
    rw[RM,hj,R3,Uw];rfl
   rw[tk1];refine og.put (new hi hj) (q:=q') (λa xs z=>?_) ?_
   .have:a≠do':=λe1=>by rw[e1,w6]at z;cases z
    rw[ak this];exact s8 _ _ (s67 _ _ z)
   .have:q'≠do':=λe1=>by rw[e1,w6]at a!;cases a!
    rw[ak this,(T0.org gt hh hi).1,(T0.org gt hh hi).2];exact s8 _ _ w7
  .rintro σ' H6 ⟨s6,kvs,Zu,w6,og,rfl⟩;rw[Sr]at og;fin2;exact⟨s6,kvs,_,_,w6,by rw[zT];exact og,rfl⟩
 rintro σ' H5 ⟨s5,kvs,x9,Zu,w5,og,rfl⟩;apply GK w5 og.1 (by omega) λdg Pt hdg hpt Zp=>?_
 exists hdg,(.lst (au Pt)),H5,dg,s56,w6,(.lst (au Pt)),H6;have G!:=Zm.trans (s5.trans s56);have fdg:H dg=none:=(Zm.trans s5).free hdg;have pl:Pt.length<=23:=by rw[hpt.length_eq];omega
 have pm:∀y,y∈Pt↔y∈lay t e x R k:=λy=>hpt.mem_iff;have ps:Pt.Pairwise (· < ·):=jX (hpt.nodup_iff.mpr (T0.nd gt)) Zp;have wo6:=s56 _ _ w5;have og6:∀y∈Pt,∃q,bq kvs (nk y)=some (.ref q)/\H6 q=some (.tup [.int (mkO R M (bsO n t e R x k y):Int),.int (ixO n t e R x k y:Int)]):=λy hy=>by
  obtain⟨q,a,b⟩:=og.2 y ((pm y).mp hy);exact⟨q,a,s56 _ _ b⟩
 apply cK ?_;apply⟨sB,λdf ZW=>?_⟩
 exists ZW,(.lst []),H6,df,s67,w7,(.lst []),H7;have m1:=T0.m1
 let pr:Nat->Bool:=λy=>decide (k * y % m=mkO R M (ay t e x k))
 let row:Nat->AT:=λy=>Pt.map (gY n t e R M x m k y)
 apply bf (n:=m) rfl (by omega) (λi σ' H'=>u9 (ag H6 H') (λ(x13:Z4)=>Rows H H' df (((Rh i).filter pr).map row)) (λx13=>σ'=[R? g,some v,some u,I? x,I? m,R? d,I? k,I? (mkO R M (ay t e x k):Int),R? do',x9,Zu,R? dg,R? df,x13])) ⟨s67,_,Rows.nil (G!.free ZW) w7,rfl⟩ ?_ ?_
 .rintro y σ' H8 hy ⟨s8,x13,rw8,rfl⟩;have kc:((Rh y).filter pr).length<=y:=by
   have:=TC pr (Rh y);rw[RP]at this;o_rec
  fin2;k_ne;apply aV (λc=>?_) (λc=>?_)
  .have pt1:(Rh (y+1)).filter pr=(Rh y).filter pr++[y]:=by
    rw[UL,U1];have:pr y=true:=decide_eq_true c;simp[List.filter,this]
   obtain⟨hb1,ps1,h!,I!⟩:=id rw8;apply⟨.inl ⟨rfl,_,SqL.of h!⟩,?_⟩;apply j8 (β:=Nat) (aW (s8 _ _ w6)) (by omega) (λi=>(row y).take i) (λσ'=>∃z,σ'=[z,R? do',I? y,I? m]) rfl (λi _=>by rw[RG];omega) ⟨_,rfl⟩ ?_ ?_
   .rintro i z w' σ' H9 d' R' R0 hz hs t! ⟨z',rfl⟩ Zx ZF dh;cases(show w'=V.int z from t!);obtain⟨q1,a1,b1⟩:=og6 z (Rb hz);have s69:=s8.trans hs;apply bU ?_;apply cB (s69 _ _ wo6) a1 ?_;apply fQ (i:=0) (s69 _ _ b1) rfl ?_;apply bU ?_;apply cB (s69 _ _ wo6) a1 ?_;apply fQ (i:=1) (s69 _ _ b1) rfl ?_;fin2;exact Zx _ _ _ _ ⟨_,rfl⟩ (ag.refl _) rfl (by
     rw[RM];show _++((Pt.map (gY n t e R M x m k y))[i]?).toList=_;rw[Ro,hz];rfl)
   intro dr H9 hdr s9 h9;have g9:Gr K H9 dr ((row y).take Pt.length):=h9;rw[RQ (by show (Pt.map _).length<=_;simp)]at g9
   have rw9:=rw8.mono s9;apply Cq rw9 (by rw[Rc];omega) ((G!.trans s8).free hdr) (bF h! hdr).symm (fL g9) λH10 rw10 k10=>?_
   w_up
   refine⟨λa o z=>?_,_,?_,rfl⟩
   .have ha:a≠df:=bF z ZW;exact k10 a o ha (s9 _ _ (s8 _ _ z))
   .rw[pt1,R3];exact rw10
  .have pt1:(Rh (y+1)).filter pr=(Rh y).filter pr:=by
    rw[UL,U1];have:pr y=false:=decide_eq_false c;simp[List.filter,this]
   fin2;exact⟨s8,_,by rw[pt1];exact rw8,rfl⟩
 rintro σ' H8 ⟨s8,x13,rw8,rfl⟩;have s08:=G!.trans s8;have fl:(((Rh m).filter pr).map row).length<64:=by
  have:=TC pr (Rh m);rw[RP]at this;rw[Rc];omega
 apply iX ?_;apply uv s08 rw8 fl λd' L H9 dh s9 M! rw9=>?_;apply⟨Sc,λp hp=>?_⟩
 have s910:=ar hp (.tup [.ref dg,.ref d']);refine q p dg d' _ Pt L fdg (s08.trans (s9.trans s910)) ai (s910 _ _ (s9 _ _ (s8 _ _ w6))) (rw9.mono s910) (T0.taken gt ps pm M!)
theorem Al{g:TG}{t:TS}{D:Ends}{xs:Y6}(Pv:Z7)(h0:Pv 0 σ H)(hl:∀i σ' H',Pv i σ' H'->SqL K H' p xs)
  (hs:∀i x σ' H',xs[i]?=some x->Pv i σ' H'->g x σ' H' λσ2 H2=>t { D with nx:=Pv (i+1),ct:=Pv (i+1),bk:=D.nx } σ2 H2) (hd:∀σ' H',Pv xs.length σ' H'->D.nx σ' H') :
  gF K (.ref p) H (eI g t D σ) :=
 ⟨p,rfl,⟨xs,hl 0 σ H h0⟩,n9 (K:=K) (a:=p) (xs:=xs) Pv h0 (λi σ' H' _ q=>hl i σ' H' q) hs hd⟩
theorem Paired.D0{α β:Type}{F:α->β->Prop}:∀ {l:List α} {m:List β},Sz F l m->∀ {i:Nat} {a:α} {b:β},l[i]?=some a->m[i]?=some b->F a b
 | _,_,.nil,i,a,b,h,_=>by simp at h
 | _,_,.cons r t,0,a,b,h,h'=>by
  simp at h h';subst h;subst h';exact r
 | _,_,.cons r t,i+1,a,b,h,h'=>Paired.D0 t (by simpa using h) (by simpa using h')
inductive Gy(K:Q7)(vs:Y6)(H:Hp)(Q:VK)(E:XK):Prop
 | mk (p:Addr) (H0:Hp) (as:Y9) (Ls:List (AC)) (_:vs=[.ref p]) (_:ag H0 H) (_:SqL K H p (as.map V.ref)) (_:Sz (λa L=>Rows H0 H a L) as Ls) (_:(∀L∈Ls,∀r∈L,r≠[])) (_:Ls.flatten.length<=1000) (_:∀d H',ag H H'->Rows H0 H' d Ls.flatten->Q (.ref d) H')
theorem FL:Fa P w base T.oC 1 (Gy K):=by
 exists T.oC.ok qC
 obtain⟨p,H0,as,Ls,rfl,s0,hp,hP,Zj,hl,q⟩:=h;refine⟨_,(aa (pz 1 qC.nd (bg bZ))
   (aa (pfo (pil K (pv 0)) (pgn 2 qC.nd) (ae (aZ (qR K rfl TK Xa Xb xD (pv 1) (pa1 (pv 2))))))
   (ae (ax (pv 1))))),?_⟩
 apply cK ?_;apply⟨sB,λd hd=>?_⟩
 exists hd,(.lst []),H,d,s1,w1,(.lst []),H1;apply Al (K:=K) (xs:=as.map V.ref) (λi σ' H'=>u9 (ag H H') (λ(x2:Z4)=>Rows H0 H' d (Ls.take i).flatten) (λx2=>σ'=[R? p,R? d,x2])) ⟨s1,_,by rw[List.take_zero];exact Rows.nil (s0.free hd) w1,rfl⟩ (λi σ' H' z=>z.1.seq hp) ?_ ?_
 .rintro i x σ' H2 hx ⟨s2,x2,rw2,rfl⟩;rw[Ro]at hx;obtain⟨a,ha,rfl⟩:=SU.mp hx;obtain⟨L,hL,ra⟩:=Paired.getL hP ha;have hLm:=Rb hL;have tk:(Ls.take (i+1)).flatten=(Ls.take i).flatten++L:=by
   rw[RM,hL,UR];simp
  have len:((Ls.take i).flatten++L).length<=1000:=by
   rw[<- tk];have:(Ls.take (i+1)).flatten.length+(Ls.drop (i+1)).flatten.length=Ls.flatten.length:=by
    rw[<- Rt,<- UR,Va]
   omega
  obtain⟨hb1,ps1,h!,I!⟩:=id rw2;apply⟨.inl ⟨rfl,_,SqL.of h!⟩,?_⟩;apply B7 rw2 (ra.mono s2) (Zj L hLm) (by rw[Rt]at len;omega) λH3 rw3 k3=>?_
  exact⟨λb o z=>k3 b o (bF z hd) (s2 _ _ z),_,by rw[tk];exact rw3,rfl⟩
 .rintro σ' H2 ⟨s2,x2,rw2,rfl⟩;rw[Rc,hP.length,Sr]at rw2;fin2;exact q d H2 s2 rw2
noncomputable def vJ(n:Nat)(t:AC)(e:Nat)(R:AT)(x m:Nat)(H0 H:Hp)(y:V)(M:AT):Prop:=∃ (p dg df:Addr) (Pt:AT) (L:AC),y=.ref p/\H p=some (.tup [.ref dg,.ref df])/\H dg=some (.lst (au Pt))/\Rows H0 H df L/\Taken n t e R M x m Pt L
theorem vJ.mono{y:V}(s:ag H H')(h:vJ n t e R x m H0 H y M):vJ n t e R x m H0 H' y M:=by
 obtain⟨p,dg,df,Pt,L,a,b,c,d,f⟩:=h;exact⟨p,dg,df,Pt,L,a,s _ _ b,s _ _ c,d.mono s,f⟩
theorem AX{n e x m:Nat}{t:AC}{R:AT}{H0 H:Hp}:∀ {ys:Y6} {F:AC},Sz (λy M=>vJ n t e R x m H0 H y M) ys F->∃ (dfs:Y9) (Ls:List (AC)),Sz (λy a=>∃p dg,y=.ref p/\H p=some (.tup [.ref dg,.ref a])) ys dfs/\Sz (λa L=>Rows H0 H a L) dfs Ls/\Sz (λM L=>∃Pt,Taken n t e R M x m Pt L) F Ls
 | _,_,.nil=>⟨[],[],.nil,.nil,.nil⟩
 | _,_,.cons r h=>by
  obtain⟨dfs,Ls,a,b,c⟩:=AX h;obtain⟨p,dg,df,Pt,L,r1,r2,r3,r4,r5⟩:=r;exact⟨df :: dfs,L :: Ls,.cons ⟨p,dg,r1,r2⟩ a,.cons r4 b,.cons ⟨Pt,r5⟩ c⟩
theorem Gk{l:Nat}(gt:GT n t e)(hl:b9 (bX n t e) l)(h:m % l=0)(hx:x<n):ay t e x m=e:=by
 obtain⟨c,rfl⟩:=SJ h;have ho:l % aM n t e x=0:=hl.all _ (Rw.mpr ⟨x,Ri.mpr hx,rfl⟩);obtain⟨d,rfl⟩:=SJ ho;rw[UQ];exact ph gt hx (dW gt hx).2.1 _
theorem JZ(k:Nat):(Rn k [V.int ((0:Nat):Int)]).flatten=au (Rn k 0):=by
 unfold au
 induction k with
 | zero=>rfl
 | succ k ih=>rw[SS,TZ,ih,SS];rfl
inductive KG(C:Addr)(K:Q7)(vs:Y6)(H:Hp)(Q:VK)(E:XK):Prop
 | mk (g:Addr) (v z:V) (n e m l:Nat) (t:AC) (S:AT) (_:vs=[.ref g,v,z]) (_:aI C H g n t e) (_:GT n t e) (_:At K H v S) (_:IsPart n t S) (_:(z=.int m\/(z=.non/\m=l))) (_:b9 (bX n t e) l) (_:m % l=0) (_:0<m) (_:m<=60) (_:∀d H' D L,ag H H'->Rows H H' d L->Gen n t e (fG n t e S) D->M9 t D S m L->Q (.ref d) H')
theorem LZ:aH P w K mg base CX0 6 T.vh.f T.vh.fd ["group","part","spokes"] (KG T.aE K):=by
 exists T.vh.ok iL
 obtain⟨g,v,z,n,e,m,l,t,S,rfl,hG,gt,hS,pt,hz,hl,ZU,m1,Zs,q⟩:=h;have Zw:=gt.le;have sv:nN n t e z m:=by
  rcases hz with rfl|⟨rfl,rfl⟩
  .k_put
  .exact .inl ⟨rfl,hl⟩
 refine⟨_,(aa (aZ (pdf T.dU (ip T) hr (paF (pv 0) (pa1 (pv 1)))))
   (aa (pz 3 iL.nd (pdf T.fq (iV T) hr (paF (pv 0) (pa1 (pv 2)))))
   (aa (pz 4 iL.nd (pdf T.nr (AW T) hr (paF (pv 0) (pa1 (pv 1)))))
   (aa (pz 5 iL.nd (bg (pa1 (ao rA (bg (pa1 aj)) (pln K T.bo (pv 4))))))
   (aa (pfo (pil K (pv 1)) (pgn 6 iL.nd) (ae (aK (lE (kg K rfl) (pv 6) (pv 4) (by with_unfolding_all rfl)) (aa (dP (i:=7) rfl iL.nd rfl (V7 rfl) xG (pil K (pv 5)) (λ_ _ _ _=>⟨(pgn 0 xG.nd),bz,(pdf T.i6 (sD T) hr (paF (pv 1) (paF (pv 3) (paF (pv 0) (paF (pv 4) (pa1 (pv 2)))))))⟩) rfl)
   (aa (pz 4 iL.nd (d8 (cS K rfl) (pxl K (pv 7) aj) aj (λ_ _=>rfl)))
   (ae (pz 5 iL.nd (pdf T.oC (FL T) hr (pa1 (bL rfl xu (pil K (pv 7)) (λ_ _ _ _=>⟨(zZ K rfl (i:=0) (j:=1) rfl xu.nd rfl (V7 rfl) rfl (V7 rfl)),bz,(pv 1)⟩)))))))) aG)))
   (ae (ax (bK (pX K rfl hr.units) rfl T.fX S5 (pa1 (pv 5)))))))))),?_⟩
 apply⟨g,v,n,e,t,S,rfl,hG,gt,hS,pt,λH1 s1=>?_⟩;apply⟨g,z,n,e,m,t,rfl,aI.mono s1 hG,gt,sv,λH2 s2=>?_⟩;k_upd;apply⟨g,v,n,e,t,S,rfl,aI.mono Zf hG,gt,Rep.mono Zf hS,pt,λdr H3 D fdr s3 g3 G=>?_⟩;have Zm:=Zf.trans s3;have I0:=fH.start gt pt G m1;have dl:=I0.pt.len;apply cK ?_;apply cK ?_;apply⟨sK,λp1 ZG=>?_⟩
 exists ZG,(.lst [.int ((0:Nat):Int)]),H3,p1,P!,w4,(.lst [.int ((0:Nat):Int)]),H4;apply cp (aW (P! _ _ (fL g3))) ?_;refine⟨p1,_,_,rfl,rfl,w4,by omega,by omega,?_,λp2 b!=>?_⟩
 .rw[RO];show 1 * _<=_;omega
 rw[show ((D.length:Nat):Int).toNat=D.length from rfl,JZ];exists b!,(.lst (au (Rn D.length 0))),H4,p2,s45,w5,(.lst (au (Rn D.length 0))),H5;apply⟨sK,λdf ZW=>?_⟩
 exists ZW,(.lst [.ref p2]),H5,df,s56,w6,(.lst [.ref p2]),H6;have Zo:=Zm.trans P!;have ZM:=Zo.trans s45;have G!:=ZM.trans s56;have rw6:Rows H H6 df [Rn D.length 0]:=⟨ZM.free ZW,[p2],w6,.cons ⟨Zo.free b!,bF w5 ZW,s56 _ _ w5⟩ .nil⟩;have hr6:=(P!.trans (s45.trans s56)) _ _ (fL g3);apply dY (H₀:=H) (α:=Nat) hS (λi σ' H'=>wo (ag H H') (λ(R:AT) (F:AC) (dr:Addr) (df:Addr) (x6:Z4) (x7:Z4)=>H' dr=some (.lst (au R))) (λR F dr df x6 x7=>Rows H H' df F) (λR F dr df x6 x7=>fH n t e D S m R F) (λR F dr df x6 x7=>(∀y∈S.take i,y∈R)) (λR F dr df x6 x7=>σ'=[R? g,some v,some z,I? m,R? dr,R? df,x6,x7])) ⟨G!,D,_,dr,df,_,_,hr6,rw6,I0,λy hy=>absurd hy (by simp),rfl⟩ (λi σ' H' z=>z.1) ?_ ?_
 .rintro i x w' σ' H7 hx t! ⟨s7,R,F,dr,df,x6,x7,hr7,rw7,I,tk,rfl⟩;cases(show w'=V.int x from t!);have hxS:=Rb hx;have hxn:=pt.lt x hxS;have tk1:∀R':AT,(∀y∈R,y∈R')->x∈R'->∀y∈S.take (i+1),y∈R':=λR' h1 h2 y hy=>by
   rw[RM,hx]at hy;rcases Rq.mp hy with c|c
   .exact h1 y (tk y c)
   .rw[show y=x by simpa using c];exact h2
  fin2;k_ne;apply r9 (aW hr7) ?_;apply bJ (λc=>?_) (λc=>?_)
  .have fF:=I.few;have f0:=I.some;have rl:=I.pt.len;obtain⟨hb1,ps1,h!,I!⟩:=id rw7;have pl:=I!.length;apply gg (K:=K) (p:=df) (xs:=ps1.map V.ref) (by rw[Rc];omega) (λd i σ' H' ys=>iU (ag H7 H') (Sz (λy M=>vJ n t e R x m H (del H' d) y M) ys (F.take i)) (λy0=>σ'=[y0,R? g,I? m,R? dr,I? x])) (λd i σ' H' ys z=>z.1.seq (SqL.of h!)) (SqL.of h!)
    (λd i σ' H' ys _ z=>by rw[z.2.length,RG];omega) (λd hd=>⟨ar hd _,.nil,_,rfl⟩) ?_ ?_
   .rintro d j y σ' H8 ys Rk R0 hd hy ⟨s8,pr,y0,rfl⟩ hd8 hR ZF;rw[Ro]at hy;obtain⟨pa,A!,rfl⟩:=SU.mp hy;obtain⟨M,hM,ra⟩:=Paired.getL I! A!;have hMF:=Rb hM;have s08:=s7.trans s8;apply⟨g,_,_,n,e,x,m,t,R,M,rfl,aI.mono s08 hG,gt,aW (s8 _ _ hr7),I.pt,aW (s8 _ _ ra.2.2),((I.mem M).mp hMF).1,hxn,Zs,λk k1 kin mV=>I.on gt pt G hxS hMF k1 kin mV m1 (Gk gt hl ZU hxn),λp dg df' H9 Pt L fdg s9 hp9 hg9 rw9 Tk=>?_⟩;refine hR _ _ _ (s9 _ _ hd8) ⟨?_,?_,_,rfl⟩
    .intro a o z;rw[ak (av z hd)];exact s9 _ _ (s8 _ _ z)
    .rw[RM,hM];have sd:ag (del H8 d) (del (upd H9 d (.lst (ys++[.ref p]))) d):=(gh s9).trans eB;refine Paired.app (Paired.b5 pr λ_ _ z=>z.mono sd) (.cons ?_ .nil);have dn:∀ {a:Addr} {o:HO},a≠d->H9 a=some o->(del (upd H9 d (.lst (ys++[.ref p]))) d) a=some o:=λha z=>by rw[bS ha,ak ha];exact z
     have pd:p≠d:=λq=>by rw[q,s9 _ _ hd8]at hp9;cases hp9
     obtain⟨c1,ps2,c2,c3⟩:=rw9;exact⟨p,dg,df',Pt,L,rfl,dn pd hp9,dn (bF hd8 fdg).symm hg9,⟨s08.free c1,ps2,dn (bF hd8 c1).symm c2,Paired.b5 c3 λ_ _ z=>⟨s08.free z.1,z.2.1,dn (bF hd8 z.1).symm z.2.2⟩⟩,Tk⟩
   intro dt σ' H8 ys hdt hd8 ⟨s8,pr,_,_⟩;rw[Rc,pl,Sr]at pr;have pr8:=Paired.b5 pr λ_ _ z=>vJ.mono dE z;have yl:=pr8.length;obtain⟨dfs,Ls,b1,b2,b3⟩:=AX pr8;obtain⟨M0,hM0⟩:∃M0,F[0]?=some M0:=⟨F[0],Q8 f0⟩;obtain⟨y0,hy0⟩:∃y0,ys[0]?=some y0:=⟨ys[0],Q8 (by omega)⟩
   obtain⟨p0,dg0,df0,Pt,L0,e0,e1,e2,e3,e4⟩:=Paired.D0 pr8 hy0 hM0;subst e0;have hT:∀ (i:Nat) (M:AT) (L:AC),F[i]?=some M->Ls[i]?=some L->Taken n t e R M x m Pt L:=λi M L h1 h2=>by
    obtain⟨Pt',T'⟩:=Paired.D0 b3 h1 h2;rw[T'.gen.uni e4.gen λ_=>Iff.rfl]at T';exact T'
   have I':=I.step gt pt hxS b3.length.symm hT;have hSn:∀s∈R++[x],s<n:=λs hs=>by
    rcases Rq.mp hs with c|c
    .exact I.pt.lt s c
    .rw[Rj.mp c];exact hxn
   have sub:∀h∈R,h∈Pt:=λh hh=>e4.gen.has gt (Rq.mpr (.inl hh)) (I.pt.lt h hh);have xP:x∈Pt:=e4.gen.has gt (Rq.mpr (.inr Rr)) hxn;have s08:=s7.trans s8;apply⟨dt,_,_,_,rfl,rfl,SqL.of hd8,eS (j:=0) hy0,?_⟩;apply fQ (i:=0) e1 rfl ?_;apply gg (K:=K) (p:=dt) (xs:=ys) (by omega) (λd i σ' H' zs=>nM (ag H8 H') (zs=(dfs.take i).map V.ref) (λa b=>σ'=[a,b])) (λd i σ' H' ys z=>z.1.seq (SqL.of hd8)) (SqL.of hd8)
    (λd i σ' H' zs _ z=>by rw[z.2,Rc,RG];omega) (λd hd=>⟨ar hd _,rfl,_,_,rfl⟩) ?_ ?_
   .rintro d j y σ' H9 zs Rk R0 hd hy ⟨s9,rfl,a,b,rfl⟩ hd9 hR ZF;obtain⟨da,hda,p,dg,rfl,hpp⟩:=Paired.getL b1 hy;refine⟨p,_,rfl,SqT.of (s9 _ _ hpp),rfl,?_⟩;refine X5 _ (X5 _ (And.intro rfl (X5 _ (X5 _ (And.intro rfl (And.intro rfl ?_))))));apply hR _ _ _ hd9 ⟨λa' o z'=>?_,?_,_,_,rfl⟩
    .rw[ak (av z' hd)];exact s9 _ _ z'
    .rw[RM,hda,R3];rfl
   intro dj σ' H9 zs hdj hd9 ⟨s9,ez,_,_,_⟩;subst ez;rw[b1.length,Sr]at hd9;fin2;have i'l:=I'.few;refine⟨dj,H,dfs,Ls,rfl,s08.trans s9,SqL.of hd9,Paired.b5 b2 λ_ _ z=>z.mono s9,λL hL r hr=>?_,by omega,λd' H10 s10 rw10=>?_⟩
   .obtain⟨i',ZJ⟩:=RD hL;have il:i' < F.length:=by rw[b3.length];exact(Q9.mp ZJ).1
    have w1:=((hT i' _ L (Q8 il) ZJ).mem r).mp hr;intro er;have:=w1.1.len;rw[er]at this;exact T8 xP (Th.mp this.symm)
   fin2;exact⟨s08.trans (s9.trans s10),Pt,_,dg0,d',_,_,s10 _ _ (s9 _ _ e2),rw10,I',tk1 Pt sub xP,rfl⟩
  .fin2;exact⟨s7,R,F,dr,df,_,_,hr7,rw7,I,tk1 R (λ_ h=>h) c,rfl⟩
 rintro σ' H7 ⟨s7,R,F,dr,df,x6,x7,hr7,rw7,I,tk,rfl⟩;rw[Sr]at tk;have fF:=I.few;apply uv s7 rw7 (by omega) λd' L H8 dh s8 M! rw8=>?_
 refine q d' H8 D L (s7.trans s8) rw8 G (I.fin gt pt G tk M!)
noncomputable def ef(H:Hp)(p:Addr)(r:Y2):Prop:=∃qs:Y9,H p=some (.lst (qs.map V.ref))/\qs.length=r.length/\∀ (i:Nat) (q:Addr) (x:Nat×Nat),qs[i]?=some q->r[i]?=some x->H q=some (.tup [.int (x.1:Int),.int (x.2:Int)])
noncomputable def dD(H:Hp)(d:Addr)(D:List (Y2)):Prop:=∃ps:Y9,H d=some (.lst (ps.map V.ref))/\ps.length=D.length/\∀ (i:Nat) (p:Addr) (r:Y2),ps[i]?=some p->D[i]?=some r->ef H p r
theorem ef.mono(s:ag H H')(h:ef H p r):ef H' p r:=by
 obtain⟨qs,h1,h2,h3⟩:=h;exact⟨qs,s _ _ h1,h2,λi q x a b=>s _ _ (h3 i q x a b)⟩
theorem dD.mono(s:ag H H')(h:dD H d D):dD H' d D:=by
 obtain⟨ps,h1,h2,h3⟩:=h;exact⟨ps,s _ _ h1,h2,λi p r a b=>(h3 i p r a b).mono s⟩
theorem qP{α β:Type}{F:α->β->Prop}:∀ {as:List α} {bs:List β},as.length=bs.length->(∀ (i:Nat) (a:α) (b:β),as[i]?=some a->bs[i]?=some b->F a b)->Sz F as bs
 | [],[],_,_=>.nil
 | [],_ :: _,h,_=>by cases h
 | _ :: _,[],h,_=>by cases h
 | a :: as,b :: bs,h,f=>.cons (f 0 a b rfl rfl) (qP (Nat.succ.inj h) λi x y h1 h2=>f (i+1) x y h1 h2)
theorem ef.at{H:Hp}{p:Addr}{r:Y2}(h:ef H p r):At K H (.ref p) r:=by
 obtain⟨qs,h1,h2,h3⟩:=h;refine⟨p,_,rfl,SqL.of h1,qP (by rw[Rc];exact h2) λi a b ha hb=>?_⟩
 rw[Ro]at ha;cases hq:qs[i]? with
 | none=>rw[hq]at ha;cases ha
 | some q =>
  rw[hq]at ha;cases ha;exact CO (h3 i q b hq hb)
theorem dD.at{H:Hp}{d:Addr}{D:List (Y2)}(h:dD H d D):At K H (.ref d) D:=by
 obtain⟨ps,h1,h2,h3⟩:=h;refine⟨d,_,rfl,SqL.of h1,qP (by rw[Rc];exact h2) λi a b ha hb=>?_⟩
 rw[Ro]at ha;cases hq:ps[i]? with
 | none=>rw[hq]at ha;cases ha
 | some q =>
  rw[hq]at ha;cases ha;exact(h3 i q b hq hb).at
theorem dD.but{fs:List (Str×V)}(h:dD H d D)(hp:H p=some (.ins C dx fs))(k:∀a o,H a=some o->a≠p->H' a=some o):dD H' d D:=by
 obtain⟨ps,h1,h2,h3⟩:=h;have no:∀ (a:Addr) (o:HO),H a=some o->(∀C dx fs,o≠.ins C dx fs)->H' a=some o:=λa o ha n=>k a o ha λe=>by
  rw[e,hp]at ha;exact n _ _ _ (RW ha).symm
 refine⟨ps,no _ _ h1 (λ_ _ _ z=>by cases z),h2,λi q r a b=>?_⟩
 obtain⟨qs,g1,g2,g3⟩:=h3 i q r a b;exact⟨qs,no _ _ g1 (λ_ _ _ z=>by cases z),g2,λj q' x y z=>no _ _ (g3 j q' x y z) (λ_ _ _ z=>by cases z)⟩
theorem ef.keep{ys:Y6}{o:HO}(h:ef H p r)(hd:H d=some (.lst ys))(np:p≠d):ef (upd H d o) p r:=by
 obtain⟨qs,h1,h2,h3⟩:=h;refine⟨qs,by rw[ak np];exact h1,h2,λi q x a b=>?_⟩
 have z:=h3 i q x a b;rw[ak (λe=>by rw[e,hd]at z;cases z)]
 exact z
theorem qo{α β:Type}{F:α->β->Prop}:∀ {as:List α} {bs:List β} {i:Nat} {a:α},Sz F as bs->as[i]?=some a->∃b,bs[i]?=some b/\F a b
 | _,_,0,_,.cons h _,e=>⟨_,rfl,by cases e;exact h⟩
 | _,_,i+1,_,.cons _ t,e=>qo (i:=i) t e
 | _,_,_,_,.nil,e=>by simp at e
noncomputable def lJ(acc:AT)(i:Nat)(x:Nat×Nat):AT:=if x.1=i then acc.set x.2 (acc.getD x.2 0+1) else acc
noncomputable def oB:List (Nat×Nat)->Nat->AT->AT
 | [],_,acc=>acc
 | x :: r,i,acc=>oB r (i+1) (lJ acc i x)
theorem wX(x:Nat×Nat):∀ (r:Y2) (i:Nat) (acc:AT),oB (r++[x]) i acc=lJ (oB r i acc) (i+r.length) x
 | [],i,acc=>rfl
 | y :: r,i,acc=>by
  show oB (r++[x]) (i+1) (lJ acc i y)=lJ (oB r (i+1) (lJ acc i y)) (i+(r.length+1)) x;rw[wX x r,show i+1+r.length=i+(r.length+1) by omega]
theorem Jc{x:Nat×Nat}:(lJ acc i x).length=acc.length:=by
 unfold lJ
 split
 .rw[U4]
 .rfl
theorem AS:∀ (r:Y2) (i:Nat) (acc:AT),(oB r i acc).length=acc.length
 | [],_,_=>rfl
 | x :: r,i,acc=>by
  show (oB r (i+1) (lJ acc i x)).length=_;rw[AS r,Jc]
noncomputable def cnt(m:Nat)(r:Y2):AT:=oB r 0 (Rn m 0)
theorem Dk :(cnt m r).length=m:=by unfold cnt;rw[AS,U3]
theorem Jm{x:Nat×Nat}(h:r[i]?=some x):cnt m (r.take (i+1))=lJ (cnt m (r.take i)) i x:=by
 have hi:=(Q9.mp h).1;unfold cnt;rw[RM,h];show oB (r.take i++[x]) 0 _=_;rw[wX,RG,show 0+min i r.length=i by omega]
theorem ints_set :(au l).set k (V.int c)=au (l.set k c):=by
 unfold au;rw[XR]
theorem dD.get{H2:Hp}(h:dD H d D)(s:ag H H2)(hi:D[i]?=some r)(q:∀p,ef H p r->Q (.ref p) H2):lF K (.ref d) (.int i) H2 Q:=by
 obtain⟨ps,h1,h2,h3⟩:=h;have hl:i<ps.length:=by rw[h2];exact(Q9.mp hi).1
 refine⟨d,_,_,.ref ps[i],rfl,rfl,SqL.of (s _ _ h1),eS (by rw[Ro,Q8 hl];rfl),q _ (h3 i _ r (Q8 hl) hi)⟩
theorem Dc{xs:Y6}{g:TG}(r:Y2)(Sh:St->Prop)(hS:SqL K H p xs)(hl:xs.length=r.length)(hz:r.length<=1000)(h0:Sh (cH own fr σ))
  (turn:∀ (i:Nat) (x:V) (y:Nat×Nat) σ' H' (R:St->V->Hp->Prop) (R0:Y4),xs[i]?=some x->r[i]?=some y->ag H H'->Sh σ'->(∀σ2 q H5,Sh σ2->ag H' H5->H5 q=some (.tup [.int (y.1:Int),.int (y.2:Int)])->R σ2 (.ref q) H5) ->
   g x σ' H' λσ2 H3=>tt σ2 H3 λok H4=>if ok=true then ta σ2 H4 (R σ2) else R0 σ2 H4)
  (fin:∀d H',H d=none->ag H H'->ef H' d r->Q (.ref d) H'):gF K (.ref p) H (fK own fr g tt ta σ Q):=by
 refine gg (p:=p) (xs:=xs) (by omega) (λd i σ' H' ys=>sW (ag H H') (λ(qs:Y9)=>ys=qs.map V.ref) (λqs=>qs.length=i) (λqs=>(∀ (j:Nat) (q:Addr) (c:Nat×Nat),qs[j]?=some q->r[j]?=some c->H' q=some (.tup [.int (c.1:Int),.int (c.2:Int)]))) (λqs=>Sh σ'))
  (λd i σ' H' ys z=>z.1.seq hS) hS (λd i σ' H' ys hi z=>by obtain⟨_,qs,e,e2,_⟩:=z;rw[e,Rc,e2];exact Ru _) (λd hd=>⟨ar hd _,[],rfl,rfl,(λj q c z=>by simp at z),h0⟩) ?_ ?_
 .rintro d i o σ' H2 ys R R0 hd hi ⟨s2,qs,rfl,hq,hc,hsh⟩ Hx hR ZF;have hil:i<r.length:=by rw[<- hl];exact(Q9.mp hi).1
  refine turn i o _ σ' H2 R R0 hi (Q8 hil) s2 hsh λσ2 a H5 ZP s5 ha=>?_;have na:a≠d:=λe=>by rw[e,s5 _ _ Hx]at ha;cases ha
  refine hR _ _ _ (s5 _ _ Hx) ⟨λb o zz=>by rw[ak (av zz hd)];exact s5 _ _ (s2 _ _ zz),qs++[a],by rw[R3];rfl,by rw[Rt,hq];rfl,λj q c' hj f'=>?_,ZP⟩
  rcases dZ hj with ⟨_,z⟩|⟨z1,z2⟩
  .have zz:=s5 _ _ (hc j q c' z f');rw[ak (λe=>by rw[e,s5 _ _ Hx]at zz;cases zz)]
   exact zz
  .subst z2;rw[z1,hq,Q8 hil]at f';cases f';rw[ak na];exact ha
 .rintro d σ' H2 ys fd hd ⟨s2,qs,rfl,hq,hc,_⟩;exact fin d H2 fd s2 ⟨qs,hd,by omega,hc⟩
theorem Bk{xs:Y6}{g:TG}(D:List (Y2))(Sh:St->Prop)(hS:SqL K H p xs)(hl:xs.length=D.length)(hz:D.length<=1000)(h0:Sh (cH own fr σ))
  (turn:∀ (i:Nat) (x:V) (r:Y2) σ' H' (R:St->V->Hp->Prop) (R0:Y4),xs[i]?=some x->D[i]?=some r->ag H H'->Sh σ'->(∀σ2 q H5,Sh σ2->ag H' H5->H' q=none->ef H5 q r->R σ2 (.ref q) H5) ->
   g x σ' H' λσ2 H3=>tt σ2 H3 λok H4=>if ok=true then ta σ2 H4 (R σ2) else R0 σ2 H4)
  (fin:∀d H',H d=none->ag H H'->dD H' d D->Q (.ref d) H'):gF K (.ref p) H (fK own fr g tt ta σ Q):=by
 refine gg (p:=p) (xs:=xs) (by omega) (λd i σ' H' ys=>qW (ag H H') (λ(ps:Y9)=>ys=ps.map V.ref) (λps=>ps.length=i) (λps=>(∀p∈ps,p≠d)) (λps=>(∀ (j:Nat) (p:Addr) (r:Y2),ps[j]?=some p->D[j]?=some r->ef H' p r)) (λps=>Sh σ'))
  (λd i σ' H' ys z=>z.1.seq hS) hS (λd i σ' H' ys hi z=>by obtain⟨_,qs,e,e2,_⟩:=z;rw[e,Rc,e2];exact Ru _) (λd hd=>⟨ar hd _,[],rfl,rfl,(λp hp=>by cases hp),(λj q c z=>by simp at z),h0⟩) ?_ ?_
 .rintro d i o σ' H2 ys R R0 hd hi ⟨s2,ps,rfl,hq,hnd,hc,hsh⟩ Hx hR ZF;have hil:i<D.length:=by rw[<- hl];exact(Q9.mp hi).1
  refine turn i o _ σ' H2 R R0 hi (Q8 hil) s2 hsh λσ2 a H5 ZP s5 fa ra=>?_;have na:a≠d:=λe=>by rw[e,Hx]at fa;cases fa
  have hys5:=s5 _ _ Hx;refine hR _ _ _ hys5 ⟨λb o zz=>by rw[ak (av zz hd)];exact s5 _ _ (s2 _ _ zz),ps++[a],by rw[R3];rfl,by rw[Rt,hq];rfl,λp hp=>?_,λj p' r' hj f'=>?_,ZP⟩
  .rcases Rq.mp hp with z|z
   .exact hnd p z
   .rw[Rj.mp z];exact na
  .rcases dZ hj with ⟨_,z⟩|⟨z1,z2⟩
   .exact((hc j p' r' z f').mono s5).keep hys5 (hnd p' (Rb z))
   .subst z2;rw[z1,hq,Q8 hil]at f';cases f';exact ra.keep hys5 na
 .rintro d σ' H2 ys fd hd ⟨s2,ps,rfl,hq,hnd,hc,_⟩;exact fin d H2 fd s2 ⟨ps,hd,by omega,hc⟩
inductive vN(C:Addr)(K:Q7)(vs:Y6)(H:Hp)(Q:VK)(E:XK):Prop
 | mk (g:Addr) (v:V) (n e:Nat) (t:AC) (R:AT) (_:vs=[.ref g,v]) (_:aI C H g n t e) (_:GT n t e) (_:At K H v R) (_:IsPart n t R) (_:∀d H',H d=none->ag H H'->Gr K H' d (bI n t e R)->Q (.ref d) H')
theorem wN:Fa P w base T.ie 5 (vN T.aE K):=by
 exists T.ie.ok wJ
 obtain⟨g,v,n,e,t,R,rfl,hG,gt,hR,pt,q⟩:=h;have Zw:=gt.le;refine⟨_,(ae (ax (bL rfl lI (pil K (pdf T.r6 (Js T) hr (paF (pv 0) (pa1 (pv 1))))) (λ_ _ _ _=>⟨(pgn 0 lI.nd),bz,(pxl K (pv 0) aj)⟩)))),?_⟩;apply⟨g,v,n,e,t,R,rfl,hG,gt,hR,pt,λd H1 L ps fd d6 s1 hL hsd=>?_⟩;have ec:=hsd.bI gt pt;have ll:L.length<=n:=by
  have:=congrArg Vq ec;rw[Rc]at this;rw[this];exact ju
 apply L1 (β:=Nat) hL (by omega) (λi=>(L.map λs=>s.getD 0 0).take i) (λσ'=>∃y,σ'=[y]) rfl (λi _=>by rw[RG];omega) ⟨_,rfl⟩ ?_ ?_
 .rintro i c p σ' H5 d' R' R0 hc hs hp ⟨y,rfl⟩ Zx ZF dh;have cne:=hsd.ne c (Rb hc);apply bh (n:=0) (aW hp) (c:=c.getD 0 0) (getD_some 0 (RJ.mpr cne)) ?_;exact Zx _ _ _ _ ⟨_,rfl⟩ (ag.refl _) rfl (by rw[RM,Ro,hc];rfl)
 .intro d' H5 fd' hs hg;have hg':Gr K H5 d' ((L.map λs=>s.getD 0 0).take L.length):=hg;rw[RQ (by simp),ec]at hg'
  exact q d' H5 (s1.free fd') (s1.trans hs) hg'
noncomputable def MV(n:Nat)(t:AC)(e:Nat)(R:AT)(H:Hp)(kvs:Y1)(i k:Nat):Prop:=∀i' k' c h,(i' < i\/(i'=i/\k' < k))->(bI n t e R)[i']?=some c->R[k']?=some h ->
 ∃q,bq kvs (nk (tb t c h))=some (.ref q)/\H q=some (.tup [.int ((i':Nat):Int),.int ((k':Nat):Int)])
theorem MV.mono{kvs:Y1}(s:ag H H')(h:MV n t e R H kvs i k):MV n t e R H' kvs i k:=λi' k' c x a b d=>by
 obtain⟨q,z1,z2⟩:=h i' k' c x a b d;exact⟨q,z1,s _ _ z2⟩
theorem MV.nil :MV n t e R H [] 0 0:=λi' k' c x a=>by omega
theorem MV.next{kvs:Y1}(h:MV n t e R H kvs i R.length):MV n t e R H kvs (i+1) 0:=λi' k' c x a b d=>by
 have:=(Q9.mp d).1;exact h i' k' c x (by omega) b d
theorem MV.put{kvs:Y1}{df:Addr}(gt:GT n t e)(pt:IsPart n t R)(h:MV n t e R H kvs i k)(hd:H df=some (.dK kvs))(hc:(bI n t e R)[i]?=some c)(hx:R[k]?=some x)
  (hq:H q=some (.tup [.int i,.int k])):MV n t e R (upd H df (.dK (putK kvs (nk (tb t c x)) (.ref q)))) (putK kvs (nk (tb t c x)) (.ref q)) i (k+1):=λi' k' c' x' a b d=>by
 have no:∀ {p:Addr} {ys:Y6},H p=some (.tup ys)->p≠df:=λz y=>by rw[y,hd]at z;cases z
 rw[zK];obtain⟨a1,a2⟩:=J5 gt pt hc hx rfl
 by_cases hk:nk (tb t c' x')=nk (tb t c x)
 .rw[if_pos hk];obtain⟨b1,b2⟩:=J5 gt pt b d (gK hk);refine⟨q,rfl,?_⟩;rw[ak (no hq),<- b1,<- b2,a1,a2];exact hq
 .rw[if_neg hk];have ne:¬ (i'=i/\k'=k):=λ⟨z1,z2⟩=>hk (by
   subst z1 z2;rw[hc]at b;rw[hx]at d;cases b;cases d;rfl)
  obtain⟨q',z1,z2⟩:=h i' k' c' x' (by omega) b d
  exact⟨q',z1,by rw[ak (no z2)];exact z2⟩
inductive yR(C:Addr)(K:Q7)(vs:Y6)(H:Hp)(Q:VK)(E:XK):Prop
 | mk (g:Addr) (v:V) (n e:Nat) (t:AC) (R:AT) (_:vs=[.ref g,v]) (_:aI C H g n t e) (_:GT n t e) (_:At K H v R) (_:IsPart n t R) (_:∀d H',H d=none->ag H H'->dD H' d (mz n t e R)->Q (.ref d) H')
theorem yL:Fa P w base T.jh 6 (yR T.aE K):=by
 exists T.jh.ok dM
 obtain⟨g,v,n,e,t,R,rfl,hG,gt,hR,pt,q⟩:=h;have Zw:=gt.le;have rl:=pt.len;have cl:=ju (n:=n) (t:=t) (e:=e) (R:=R);refine⟨_,(aa (pz 2 dM.nd (pdf T.ie (wN T) hr (paF (pv 0) (pa1 (pv 1)))))
   (aa (pz 3 dM.nd mj)
   (aa (pfo (iE K rfl rfl T.eL (pa1 (pv 2))) (md rfl (c7 (pgn 4 dM.nd) (c7 (pgn 5 dM.nd) js))) (ae (pfo (iE K rfl rfl T.eL (pa1 (pv 1))) (md rfl (c7 (pgn 6 dM.nd) (c7 (pgn 7 dM.nd) js))) (ae (lC (bY hr) (pv 3) (pxl K (pxl K (pfl K (pv 0)) (pv 5)) (pv 7)) (gP (paF (pv 4) (pa1 (pv 6)))) rfl)))))
   (ae (ax (bL rfl mq (pil K (pfl K (pv 0))) (λ_ _ _ _=>⟨(pgn 0 mq.nd),bz,(bL rfl mG (pil K (pv 1)) (λ_ _ _ _=>⟨(pgn 0 mG.nd),bz,(bW (bY hr) (pv 1) (pxl K (pv 2) (pv 0)) (λ_ _=>rfl))⟩))⟩))))))),?_⟩
 apply⟨g,v,n,e,t,R,rfl,hG,gt,hR,pt,λdc H1 fdc s1 gc=>?_⟩;have hG1:=aI.mono s1 hG;have hR1:=Rep.mono s1 hR;obtain⟨dx,r4,bk,hg,hT,hB⟩:=hG1.get (K:=K);apply rC λdf ZW=>?_;apply iQ (H₀:=H1) gc.at (λi σ' H'=>xc (ag H1 H') ((∃kvs,H' df=some (.dK kvs)/\kvs.length<=i * 23/\MV n t e R H' kvs i 0)) (λx4 x5 x6 x7=>σ'=[R? g,some v,R? dc,R? df,x4,x5,x6,x7])) ⟨ar ZW _,⟨[],ai,by simp,MV.nil⟩,_,_,_,_,rfl⟩ (λi σ' H' z=>z.1) ?_ ?_
 .rintro i c w' σ' H3 H4 pt' hc hw ⟨s3,⟨kvs,c!,hl3,mv3⟩,x4,x5,x6,x7,rfl⟩ hpt rfl s4;k_exc;have hil:=(Q9.mp hc).1;have cn:=dG (Rb hc);have H!:=s3.trans s4;have ZT:=s4 _ _ c!;have mv4:=mv3.mono s4;generalize upd H3 pt' (.tup [.int i,.int c])=H4 at H! ZT mv4;apply iQ (H₀:=H1) hR1 (λk σ' H'=>nM (ag H1 H') ((∃kvs,H' df=some (.dK kvs)/\kvs.length<=i * 23+k/\MV n t e R H' kvs i k)) (λx6 x7=>σ'=[R? g,some v,R? dc,R? df,I? i,I? c,x6,x7])) ⟨H!,⟨kvs,ZT,by omega,mv4⟩,_,_,rfl⟩ (λi σ' H' z=>z.1) ?_ ?_
  .rintro k x w2 σ' H5 H6 pt2 hx Y' ⟨s5,⟨kv5,hd5,O!,mv5⟩,x6,x7,rfl⟩ hpt2 rfl s6;cases(show w2=V.int x from Y');have hkl:=(Q9.mp hx).1;have xn:=pt.lt x (Rb hx);have s16:=s5.trans s6;have hd6:=s6 _ _ hd5;have mv6:=mv5.mono s6;generalize upd H5 pt2 (.tup [.int k,.int x])=H6 at s16 hd6 mv6;apply lA ?_;apply iX ?_;apply⟨Sc,λp hp=>?_⟩
   have s7:=ar hp (.tup [.int i,.int k]);have hp7:(upd H6 p (.tup [.int i,.int k])) p=some (.tup [.int i,.int k]):=ai;have s17:=s16.trans s7;have hd7:=s7 _ _ hd6;have mv7:=mv6.mono s7;generalize upd H6 p (.tup [.int i,.int k])=H7 at s17 hd7 mv7 hp7;have hg7:=s17 _ _ hg;have hT7:=Rep.mono s17 hT;symm;refine cM hT7 rfl (gt.get cn) λw1 Zk=>?_;apply bh Zk (gt.dz cn xn) ?_;have l7:=gJ kv5 (nk (tb t c x)) (V.ref p);refine nD hd7 (by omega) ?_
   w_up
   exact⟨λb o z=>by rw[ak (av z ZW)];exact s17 _ _ z,⟨_,ai,by omega,mv7.put gt pt hd7 hc hx hp7⟩,_,_,rfl⟩
  .rintro σ' H5 ⟨s5,⟨kv5,hd5,O!,mv5⟩,x6,x7,rfl⟩;fin2;exact⟨s5,⟨kv5,hd5,by omega,mv5.next⟩,_,_,_,_,rfl⟩
 .rintro σ' H3 ⟨s3,⟨kvs,c!,hl3,mv3⟩,x4,x5,x6,x7,rfl⟩;have hg3:=s3 _ _ hg;have hT3:=Rep.mono s3 hT;have aC:=Rep.mono s3 gc.at;symm;obtain⟨pr,xs,epr,hSr,hPr⟩:=id hT3;cases epr;have lt:=V9 hPr;have tl:=gt.len;refine Bk (mz n t e R) (λσ'=>∃y,σ'=[y,R? dc,R? df]) hSr (by unfold mz;rw[Rc,RP];omega) (by unfold mz;rw[Rc,RP];omega) ⟨_,rfl⟩ ?_ ?_
  .rintro i o r σ' H4 R' R0 ho hr4 s4 ⟨y,rfl⟩ Zx;obtain⟨row,Zt,arow⟩:=qo hPr ho;have ZX:i<n:=by rw[<- tl];exact(Q9.mp Zt).1
   have er:row=t.getD i []:=by
    have:=gt.get ZX;rw[Zt]at this;exact RW this
   subst er;have aR4:=Rep.mono s4 arow;have aC4:=Rep.mono s4 aC;obtain⟨pc,cs,ecs,hSc,hPc⟩:=id aC4;cases ecs;have lc:=V9 hPc;have e4:r=(bI n t e R).map λc=>(hm n t e R (tb t i c),R.idxOf (ov n t e R (tb t i c))):=by
    unfold mz at hr4;rw[Ro,S8 ZX]at hr4;exact(RW hr4).symm
   subst e4;apply Dc ((bI n t e R).map λc=>(hm n t e R (tb t i c),R.idxOf (ov n t e R (tb t i c)))) (λσ'=>∃y,σ'=[y,R? df,some o]) hSc (by rw[Rc];exact lc) (by rw[Rc];omega) ⟨_,rfl⟩ ?_ ?_
   .rintro j o2 y2 σ' H5 R2 R02 J' F! s5 ⟨y,rfl⟩ hR2;obtain⟨c,hc,ac⟩:=qo hPc J';cases(show o2=V.int c from ac);rw[Ro,hc]at F!;cases F!;have cn:=dG (Rb hc);have xn:=gt.lt i c ZX cn;obtain⟨c',k',z1,z2,z3,z4⟩:=zt gt pt xn;have s35:=s4.trans s5;obtain⟨qq,v1,v2⟩:=mv3 _ _ c' _ (.inl (Q9.mp z1).1) z1 z2;rw[z4]at v1;apply bU ?_;apply bh (Rep.mono s5 aR4) (gt.dz ZX cn) ?_;refine cB (s35 _ _ c!) v1 ?_;exact hR2 _ qq _ ⟨_,rfl⟩ (ag.refl _) (by dsimp only;rw[z3];exact s35 _ _ v2)
   .intro d2 H5 N! s5 r5;exact Zx _ _ _ ⟨_,rfl⟩ s5 N! r5
  .intro d2 H4 N! s4 hD;have H!:=s3.trans s4;exact q d2 H4 (s1.free (s3.free N!)) (s1.trans H!) hD
inductive BF(C:Addr)(K:Q7)(vs:Y6)(H:Hp)(Q:VK)(E:XK):Prop
 | mk (g:Addr) (v u z:V) (n e m l:Nat) (t:AC) (R M:AT) (_:vs=[.ref g,v,u,z]) (_:aI C H g n t e) (_:GT n t e) (_:At K H v R) (_:IsPart n t R) (_:At K H u M) (_:M.length=R.length) (_:(∀x∈M,x<m)) (_:(z=.int m\/(z=.non/\m=l))) (_:b9 (bX n t e) l) (_:m % l=0) (_:0<m) (_:m<=60) (_:(∀j,j<R.length->∀k,k<R.length->jr t R M m j k)) (_:∀H',ag H H'->Q .non H')
theorem qd:Fa P w base T.gR 5 (BF T.aE K):=by
 exists T.gR.ok qS
 obtain⟨g,v,u,z,n,e,m,l,t,R,M,rfl,hG,gt,hR,pt,hM,ml,mm,hz,hl,ZU,m1,Zs,ok,q⟩:=h;refine⟨_,(aa (pz 4 qS.nd (DG T.gX (v7 T) (hr.mono (by decide)) rfl (paF (pv 0) (paF (pv 1) (paF (pv 2) (pa1 (pv 3)))))))
   (ae (aK (nV (CP (pv 4))) (ae c9) aG))),?_⟩
 apply⟨g,v,u,z,n,e,m,l,t,R,M,rfl,hG,gt,hR,pt,hM,ml,mm,hz,hl,ZU,m1,Zs,λx H1 o s1 hx hb=>?_⟩;cases hb.uni (o':=none) ok;cases(show x=.non from hx);fin2;k_ne;k_not;fin2;exact q _ s1
end
section
variable {P:RB}{w:World} 
noncomputable def Ay(a b g:V)(m z:Int)(d:V):List (Str×V):=[("part",a),("marks",b),("group",g),("spokes",.int m),("size",.int z),("deeds",d)]
inductive MR(C:Addr)(vs:Y6)(H:Hp)(Q:VK)(E:XK):Prop
 | mk (p dx d:Addr) (a b g:V) (m:Int) (D:List (Y2)) (r:Y2) (_:vs=[.ref p,g,.int m,.ref d]) (_:H p=some (.ins C dx [("part",a),("marks",b)])) (_:dD H d D) (_:D[0]?=some r) (_:∀H',H' p=some (.ins C dx (Ay a b g m r.length (.ref d)))->(∀a o,H a=some o->a≠p->H' a=some o)->Q .non H')
theorem NO:aH P w K mg base CX0 1 T.zi T.DL ["self","group","spokes","deeds"] (MR T.aA):=by
 exists T.OO.ok B3
 obtain⟨p,dx,d,a,b,g,m,D,r,rfl,hp,hD,h0,k⟩:=h;refine⟨_,(aa (cG K rfl (pv 0) (pv 1) rfl)
   (aa (cG K rfl (pv 0) (pv 2) rfl)
   (aa (cG K rfl (pv 0) (pln K T.bo (pxl K (pv 3) aj)) rfl)
   (ae (cG K rfl (pv 0) (pv 3) rfl))))),?_⟩
 k_in;refine⟨p,T.aA,dx,_,rfl,hp,T.cP,T.nB,(by show 2<1000;decide),?_⟩
 k_in;refine⟨p,T.aA,dx,_,rfl,ai,T.cP,T.mE,(by show 3<1000;decide),?_⟩
 k_in;have hD2:dD (upd (upd H p (.ins T.aA dx (bD "group" g [("part",a),("marks",b)]))) p (.ins T.aA dx (bD "spokes" (V.int m) (bD "group" g [("part",a),("marks",b)])))) d D:=hD.but hp λa o ha Zj=>by
  rw[ak Zj,ak Zj];exact ha
 refine cM (n:=0) (hD2.at (K:=K)) rfl h0 λw1 Zk=>?_;k_in;refine cp Zk ?_;k_in;refine⟨p,T.aA,dx,_,rfl,ai,T.cP,T.pQ,(by show 4<1000;decide),?_⟩
 k_in;refine⟨p,T.aA,dx,_,rfl,ai,T.cP,T.nu,(by show 5<1000;decide),?_⟩
 refine k _ ai λa o ha Zj=>?_;rw[ak Zj,ak Zj,ak Zj,ak Zj];exact ha
theorem FP(hi:i<n):(mz n t e R)[i]?=some ((bI n t e R).map λc=>(hm n t e R (tb t i c),R.idxOf (ov n t e R (tb t i c)))):=by
 unfold mz;rw[Ro,S8 hi];rfl
theorem ft(hi:i<n):(dk n t e R M)[i]?=some ((bI n t e R).map λc=>(hm n t e R (tb t i c),M.getD (R.idxOf (ov n t e R (tb t i c))) 0)):=by
 unfold dk;rw[Ro,S8 hi];rfl
inductive GL(C CG:Addr)(K:Q7)(vs:Y6)(H:Hp)(Q:VK)(E:XK):Prop
 | mk (p dx g:Addr) (v u z:V) (n e m l:Nat) (t:AC) (R M:AT) (H0:Hp) (_:vs=[.ref p,.ref g,v,u,z]) (_:H p=some (.ins C dx [])) (_:H0 p=none) (_:ag H0 H) (_:aI CG H0 g n t e) (_:GT n t e) (_:At K H0 v R) (_:IsPart n t R) (_:At K H0 u M) (_:M.length=R.length) (_:(∀x∈M,x<m)) (_:(z=.int m\/(z=.non/\m=l))) (_:b9 (bX n t e) l) (_:m % l=0) (_:0<m) (_:m<=60) (_:(∀j,j<R.length->∀k,k<R.length->jr t R M m j k)) (_:∀pa ma d H',H0 pa=none->H0 ma=none->ag H0 H'->H' p=some (.ins C dx (Ay (.ref pa) (.ref ma) (.ref g) m (bI n t e R).length (.ref d)))->H' pa=some (.lst (au R))->H' ma=some (.lst (au M))->dD H' d (dk n t e R M)->Q .non H')
theorem GZ:aH P w K mg base CX0 7 T.tO T.tP ["self","group","part","marks","spokes"] (GL T.aA T.aE K):=by
 exists T.AZ.ok nT
 obtain⟨p,dx,g,v,u,z,n,e,m,l,t,R,M,H0,rfl,hp,h0p,s0,hG,gt,hR,pt,hM,ml,mm,hz,hl,ZU,m1,Zs,ok,q⟩:=h;have n1:=gt.pos;have Zw:=gt.le;have rl:=pt.len;have cl:=ju (n:=n) (t:=t) (e:=e) (R:=R);have sv:nN n t e z m:=by
  rcases hz with rfl|⟨rfl,rfl⟩
  .k_put
  .exact .inl ⟨rfl,hl⟩
 refine⟨_,(aa (aZ (pdf T.gR (qd T) hr (paF (pv 1) (paF (pv 2) (paF (pv 3) (pa1 (pv 4)))))))
   (aa (cG K rfl (pv 0) (cb (eK K rfl) rfl T.eZ Ss (pa1 (pv 2))) rfl)
   (aa (cG K rfl (pv 0) (cb (eK K rfl) rfl T.eZ Ss (pa1 (pv 3))) rfl)
   (aa (dP (i:=5) rfl nT.nd rfl (V7 rfl) lT (pil K (pdf T.jh (yL T) hr (paF (pv 1) (pa1 (pv 2))))) (λ_ _ _ _=>⟨(pgn 0 lT.nd),bz,(bL rfl l9 (pil K (pv 0)) (λ_ _ _ _=>⟨(zZ K rfl (i:=0) (j:=1) rfl l9.nd rfl (V7 rfl) rfl (V7 rfl)),bz,(gP (paF (pv 0) (pa1 (pxl K (pv 2) (pv 1)))))⟩))⟩) rfl)
   (ae (aZ (Il rfl T.P4 T.PX (NO T) (hr.mono (by decide)) T.O8 (paF (pv 0) (paF (pv 1) (paF (pdf T.fq (iV T) hr (paF (pv 1) (pa1 (pv 4)))) (pa1 (pv 5)))))))))))),?_⟩
 apply⟨g,v,u,z,n,e,m,l,t,R,M,rfl,hG.mono s0,gt,Rep.mono s0 hR,pt,Rep.mono s0 hM,ml,mm,hz,hl,ZU,m1,Zs,ok,λH1 s1=>?_⟩;have s01:=s0.trans s1;have ZG:=s1 _ _ hp;apply C2 (Rep.mono s01 hR) λpa H2 fpa s2 ga=>?_;have b!:=s2 _ _ ZG;have A!:=fL ga;have npa:pa≠p:=λy=>by rw[y,b!]at A!;cases A!
 have fpa0:H0 pa=none:=s01.free fpa;k_in;refine⟨p,T.aA,dx,_,rfl,b!,T.cP,T.pT,(by show 0<1000;decide),?_⟩
 have Zm:ag H0 (upd H2 p (.ins T.aA dx (bD "part" (.ref pa) []))):=λb o y=>by rw[ak (av y h0p)];exact s2 _ _ (s01 _ _ y)
 have q!:(upd H2 p (.ins T.aA dx (bD "part" (.ref pa) []))) p=some (.ins T.aA dx [("part",.ref pa)]):=ai;have ha3:(upd H2 p (.ins T.aA dx (bD "part" (.ref pa) []))) pa=some (.lst (au R)):=by rw[ak npa];exact A!
 generalize upd H2 p (.ins T.aA dx (bD "part" (.ref pa) []))=H3 at Zm q! ha3;apply C2 (Rep.mono Zm hM) λma H4 fma s4 gb=>?_;have hp4:=s4 _ _ q!;have ha4:=s4 _ _ ha3;have hma:=fL gb;have nma:ma≠p:=λy=>by rw[y,hp4]at hma;cases hma
 have fma0:H0 ma=none:=Zm.free fma;k_in;refine⟨p,T.aA,dx,_,rfl,hp4,T.cP,T.nW,(by show 1<1000;decide),?_⟩
 have ZM:ag H0 (upd H4 p (.ins T.aA dx (bD "marks" (.ref ma) [("part",.ref pa)]))):=λb o y=>by rw[ak (av y h0p)];exact s4 _ _ (Zm _ _ y)
 have hp5:(upd H4 p (.ins T.aA dx (bD "marks" (.ref ma) [("part",.ref pa)]))) p=some (.ins T.aA dx [("part",.ref pa),("marks",.ref ma)]):=ai;have ha5:(upd H4 p (.ins T.aA dx (bD "marks" (.ref ma) [("part",.ref pa)]))) pa=some (.lst (au R)):=by rw[ak npa];exact ha4
 have hb5:(upd H4 p (.ins T.aA dx (bD "marks" (.ref ma) [("part",.ref pa)]))) ma=some (.lst (au M)):=by rw[ak nma];exact hma
 generalize upd H4 p (.ins T.aA dx (bD "marks" (.ref ma) [("part",.ref pa)]))=H5 at ZM hp5 ha5 hb5;apply⟨g,v,n,e,t,R,rfl,hG.mono ZM,gt,Rep.mono ZM hR,pt,λd6 H6 fd6 s6 hD6=>?_⟩;have G!:=ZM.trans s6;obtain⟨ps6,h61,h62,h63⟩:=id hD6;have ln6:ps6.length=n:=by rw[h62];unfold mz;rw[Rc,RP]
 apply Bk (dk n t e R M) (λσ'=>∃y,σ'=[y,some u]) (SqL.of h61) (by unfold dk;rw[Rc,Rc,RP];exact ln6) (by unfold dk;rw[Rc,RP];omega) ⟨_,rfl⟩ ?_ ?_
 .rintro i o r σ' H7 R' R0 ho hr7 s7 ⟨y,rfl⟩ Zx;have ZX:i<n:=by
   have:=(Q9.mp ho).1;rw[Rc]at this;omega
  rw[ft ZX]at hr7;cases hr7;rw[Ro]at ho;cases hq:ps6[i]? with
  | none=>rw[hq]at ho;cases ho
  | some pq =>
   rw[hq]at ho;cases ho;obtain⟨qs,r1,r2,r3⟩:=(h63 i pq _ hq (FP ZX)).mono s7;rw[Rc]at r2;apply Dc ((bI n t e R).map λc=>(hm n t e R (tb t i c),M.getD (R.idxOf (ov n t e R (tb t i c))) 0)) (λσ'=>∃y1 y2,σ'=[y1,y2,some u]) (SqL.of r1) (by rw[Rc,Rc];exact r2) (by rw[Rc];omega) ⟨_,_,rfl⟩ ?_ ?_
   .rintro j o2 y2 σ' H8 R2 R02 J' F! s8 ⟨y1,y3,rfl⟩ hR2;rw[Ro]at J' F!;cases hc:(bI n t e R)[j]? with
    | none=>rw[hc]at F!;cases F!
    | some c =>
     rw[hc]at F!;cases F!;cases hq2:qs[j]? with
     | none=>rw[hq2]at J';cases J'
     | some q2 =>
      rw[hq2]at J';cases J';have ht:=s8 _ _ (r3 j q2 _ hq2 (by rw[Ro,hc];rfl))
      have cn:=dG (Rb hc);have xn:=gt.lt i c ZX cn;obtain⟨_,k',_,z2,z3,_⟩:=zt gt pt xn;have kl:R.idxOf (ov n t e R (tb t i c))<M.length:=by rw[z3,ml];exact(Q9.mp z2).1
      refine⟨q2,_,rfl,SqT.of ht,rfl,⟨_,_,rfl,⟨_,_,rfl,⟨rfl,?_⟩⟩⟩⟩;apply iX ?_;apply bh (Rep.mono (G!.trans (s7.trans s8)) hM) (getD_some (l:=M) 0 kl) ?_;apply⟨Sc,λa ha=>?_⟩
      exact hR2 _ a _ ⟨_,_,rfl⟩ (ar ha _) ai
   .intro d2 H8 N! s8 r8;exact Zx _ _ _ ⟨_,rfl⟩ s8 N! r8
 .intro d7 H7 fd7 s7 hD7;have s07:=G!.trans s7;apply⟨g,z,n,e,m,t,rfl,hG.mono s07,gt,sv,λH8 s8=>?_⟩;have s58:=s6.trans (s7.trans s8);apply⟨p,dx,d7,.ref pa,.ref ma,.ref g,(m:Int),_,_,rfl,s58 _ _ hp5,hD7.mono s8,ft n1,λH9 h9 k9=>?_⟩;rw[Rc]at h9;fin2;have np:∀ {b:Addr} {ys:Y6},H8 b=some (.lst ys)->b≠p:=λy1 y2=>by rw[y2,s58 _ _ hp5]at y1;cases y1
  refine q pa ma d7 H9 fpa0 fma0 (λb o y=>k9 b o (s58 _ _ (ZM _ _ y)) (av y h0p)) h9 (k9 _ _ (s58 _ _ ha5) npa) (k9 _ _ (s58 _ _ hb5) nma) ((hD7.mono s8).but (s58 _ _ hp5) k9)
noncomputable def JM(C CG:Addr)(H:Hp)(a:Addr)(g:Addr)(m n:Nat)(D:List (Y2)):Prop:=∃dx d pa ma,H a=some (.ins C dx (Ay (.ref pa) (.ref ma) (.ref g) m n (.ref d)))/\dD H d D
section
variable (T:Txt K mg){H:Hp}{a dx:Addr}{m z:Int}{x y g d:V}{Q:VK}(hg:H a=some (.ins T.aA dx (Ay x y g m z d)))
include hg
theorem Af(q:Q g H):isF K "group" (.ref a) H Q:=⟨a,T.aA,dx,_,_,rfl,hg,T.cP,T.nB,rfl,q⟩
theorem rq(q:Q (.int m) H):isF K "spokes" (.ref a) H Q:=⟨a,T.aA,dx,_,_,rfl,hg,T.cP,T.mE,rfl,q⟩
theorem Dg(q:Q (.int z) H):isF K "size" (.ref a) H Q:=⟨a,T.aA,dx,_,_,rfl,hg,T.cP,T.pQ,rfl,q⟩
theorem zS(q:Q d H):isF K "deeds" (.ref a) H Q:=⟨a,T.aA,dx,_,_,rfl,hg,T.cP,T.nu,rfl,q⟩
theorem rW(q:Q x H):isF K "part" (.ref a) H Q:=⟨a,T.aA,dx,_,_,rfl,hg,T.cP,T.pT,rfl,q⟩
theorem sZ(q:Q y H):isF K "marks" (.ref a) H Q:=⟨a,T.aA,dx,_,_,rfl,hg,T.cP,T.nW,rfl,q⟩
end
inductive Jx(C CG:Addr)(vs:Y6)(H:Hp)(Q:VK)(E:XK):Prop
 | mk (a g:Addr) (x m n:Nat) (D:List (Y2)) (r:Y2) (_:vs=[.ref a,.int x]) (_:JM C CG H a g m n D) (_:D[x]?=some r) (_:∀p H',H p=none->ag H H'->ef H' p r->Q (.ref p) H')
theorem Bz:aH P w K mg base CX0 1 T.jP T.mU ["self","thing"] (Jx T.aA T.aE):=by
 exists T.Cw.ok BC
 obtain⟨a,g,x,m,n,D,r,rfl,hW,hx,q⟩:=h;obtain⟨dx,d,pa,ma,ha,hD⟩:=id hW;refine⟨_,(ae (ax (cb (eK K rfl) rfl T.eZ Ss (pa1 (pxl K (pfl K (pv 0)) (pv 1)))))),?_⟩;k_go;refine zS T ha ?_;k_go;refine hD.get (ag.refl _) hx λp hp=>?_;k_go;obtain⟨qs,h1,h2,h3⟩:=hp;refine⟨p,_,rfl,.inl (SqL.of h1),λl hl=>?_⟩;have s1:=ar hl (.lst (qs.map V.ref));exact q l _ hl s1 ⟨qs,ai,h2,λi q' y z1 z2=>s1 _ _ (h3 i q' y z1 z2)⟩
inductive HY(C CG:Addr)(vs:Y6)(H:Hp)(Q:VK)(E:XK):Prop
 | mk (a g:Addr) (x m n:Nat) (D:List (Y2)) (r:Y2) (_:vs=[.ref a,.int x]) (_:JM C CG H a g m n D) (_:1<=m) (_:m<=60) (_:D[x]?=some r) (_:r.length<=1000) (_:(∀y∈r,y.2<m)) (_:∀p H',H p=none->ag H H'->H' p=some (.lst (au (cnt m r)))->Q (.ref p) H')
theorem Bw:aH P w K mg base CX0 1 T.jQ T.m7 ["self","thing"] (HY T.aA T.aE):=by
 exists T.B8.ok i5
 obtain⟨a,g,x,m,n,D,r,rfl,hW,m1,m2,hx,hl,hr2,q⟩:=h;obtain⟨dx,d,pa,ma,ha,hD⟩:=id hW;refine⟨_,(aa (pz 2 i5.nd (ao rA (bg (pa1 aj)) (pfl K (pv 0))))
   (aa (pfo (iE K rfl rfl T.eL (pa1 (pxl K (pfl K (pv 0)) (pv 1)))) (md rfl (c7 (pgn 3 i5.nd) (c7 (pgn 4 i5.nd) js))) (ae (aK (pcm cU (d8 (cS K rfl) (pv 4) aj (λ_ _=>rfl)) (pv 3)) (ae (uK (ao aY (pxl K (pv 2) (d8 (cS K rfl) (pv 4) aj (λ_ _=>rfl))) aj) (uT (pv 2) (d8 (cS K rfl) (pv 4) aj (λ_ _=>rfl)) set_list))) aG)))
   (ae (ax (pv 2))))),?_⟩
 k_go;refine cK ?_;k_go;refine⟨sK,λp1 ZG=>?_⟩
 exists ZG,(.lst [.int ((0:Nat):Int)]),H,p1,s1,h1,(.lst [.int ((0:Nat):Int)]),H1;k_go;refine rq T (s1 _ _ ha) ?_;k_go;refine⟨p1,_,_,rfl,rfl,h1,by omega,by omega,?_,λc hc=>?_⟩
 .rw[RO];show 1 * _<=_;omega
 rw[show ((m:Nat):Int).toNat=m by omega,JZ]
 have fc:H c=none:=s1.free hc;have s2:=s1.trans (ar hc (.lst (au (Rn m 0))));have h2:(upd H1 c (.lst (au (Rn m 0)))) c=some (.lst (au (cnt m (r.take 0)))):=ai;generalize upd H1 c (.lst (au (Rn m 0)))=H2 at s2 h2;k_go;refine zS T (s2 _ _ ha) ?_;k_go;refine hD.get s2 hx λp hp=>?_;k_go;refine iQ (H₀:=H) (hp.at (K:=K)) (λi σ' H'=>nM (ag H H') (H' c=some (.lst (au (cnt m (r.take i))))) (λ(x1:Z4) (x2:Z4)=>σ'=[R? a,I? x,R? c,x1,x2])) ⟨s2,h2,_,_,rfl⟩ (λi σ' H' z=>z.1) ?_ ?_
 .rintro i y w' σ' H3 H4 pt hy hw ⟨s3,h3,x1,x2,rfl⟩ hpt rfl s4;have P!:=s3.trans s4;have h4:=s4 _ _ h3;have hyi:=(Q9.mp hy).1;obtain⟨y1,y2⟩:=y;have F!:y2<m:=hr2 _ (Rb hy);generalize upd H3 pt (.tup [.int i,w'])=H4 at P! h4;obtain⟨q1,v1,v2,rfl,hq,e1,e2⟩:=Rep.mono P! hw;cases(show v1=V.int y1 from e1);cases(show v2=V.int y2 from e2);have et:=Jm (m:=m) hy;have lc:(cnt m (r.take i)).length=m:=Dk;k_go;k_ne;k_go;refine⟨q1,_,_,_,rfl,rfl,hq,eS (j:=0) rfl,?_⟩;k_go;refine aV (λz=>?_) (λz=>?_)
  .k_go;refine⟨q1,_,_,_,rfl,rfl,hq,eS (j:=1) rfl,?_⟩;refine bh (aW h4) (c:=(cnt m (r.take i)).getD y2 0) (by rw[V1,Q8 (by omega)];rfl) ?_
   k_go;refine⟨q1,_,_,_,rfl,rfl,hq,eS (j:=1) rfl,?_⟩;refine uS h4 rfl (by unfold au;rw[Rc,lc];exact F!) ?_
   w_up
   refine⟨λb o zz=>by rw[ak (av zz fc)];exact P! _ _ zz,?_,_,_,rfl⟩
   rw[ai,ints_set,et];unfold lJ;rw[if_pos z]
  .k_go;refine⟨P!,?_,_,_,rfl⟩;rw[h4,et];unfold lJ;rw[if_neg z]
 .rintro σ' H3 ⟨s3,h3,x1,x2,rfl⟩;rw[Sr]at h3;k_go;exact q c H3 fc s3 h3
end
section
variable {P:RB}{w:World} 
theorem NQ(pt:IsPart n t R)(ml:M.length=R.length)(mm:∀x∈M,x<m)(h:lB t R M m none):IsW t R M m:=by
 refine⟨ml,mm,λx hx y hy=>?_⟩;obtain⟨i,hi⟩:=RD hx;obtain⟨j,hj⟩:=RD hy;have nd:=aB pt.srt;have il:=(Q9.mp hi).1;have jl:=(Q9.mp hj).1;have:=h i il j jl;unfold jr at this;rw[show R.getD i 0=x from by rw[Rf,hi];rfl,show R.getD j 0=y from by rw[Rf,hj];rfl]at this
 unfold mkO;rw[eE nd hi,eE nd hj];o_rec
theorem Ja{l:Nat}(gt:GT n t e)(hl:b9 (bX n t e) l)(h:m % l=0)(hx:x<n):ay t e x m=e:=by
 obtain⟨c,rfl⟩:=SJ h;have ho:l % aM n t e x=0:=hl.all _ (Rw.mpr ⟨x,Ri.mpr hx,rfl⟩);obtain⟨d,rfl⟩:=SJ ho;rw[UQ];exact ph gt hx (dW gt hx).2.1 _
noncomputable def QC(C:Addr)(K:Q7)(H:Hp)(g:Addr)(v u z:V)(n e x m l:Nat)(t:AC)(R M:AT):Prop:=aI C H g n t e/\GT n t e/\At K H v R/\IsPart n t R/\At K H u M/\M.length=R.length/\(∀x∈M,x<m)/\lB t R M m none /\
 (z=.int m\/(z=.non/\m=l))/\b9 (bX n t e) l/\m % l=0/\0<m/\m<=60/\x<n
inductive yp(C:Addr)(K:Q7)(vs:Y6)(H:Hp)(Q:VK)(E:XK):Prop
 | mk (g:Addr) (v:V) (n e x:Nat) (t:AC) (R:AT) (_:vs=[.ref g,v,.int x]) (_:aI C H g n t e) (_:GT n t e) (_:At K H v R) (_:IsPart n t R) (_:x<n) (_:(∀h∈R,aO n t e h x∈R)) (_:∀H',ag H H'->Q .non H')
theorem HI(h:∀y∈R,aO n t e y x∈R)(ho:Kd n t e R x o):o=none:=by
 cases o with
 | none=>rfl
 | some a=>exact absurd (h a ho.1) ho.2.1
theorem zy:Fa P w base T.jO 4 (yp T.aE K):=by
 exists T.jO.ok rE
 obtain⟨g,v,n,e,x,t,R,rfl,hG,gt,hR,pt,hx,st,q⟩:=h;refine⟨_,(aa (pz 3 rE.nd (pdf T.mD (DP T) hr (paF (pv 0) (paF (pv 1) (pa1 (pv 2))))))
   (ae (aK (nV (CP (pv 3))) (ae c9) aG))),?_⟩
 apply⟨g,v,n,e,x,t,R,rfl,hG,gt,hR,pt,hx,λH1 o s1 ho=>?_⟩;obtain rfl:=HI st ho;fin2;k_ne;k_not;fin2;exact q _ s1
inductive wG(C:Addr)(K:Q7)(vs:Y6)(H:Hp)(Q:VK)(E:XK):Prop
 | mk (g:Addr) (v u:V) (n e x:Nat) (t:AC) (R M:AT) (_:vs=[.ref g,v,u,.int x]) (_:aI C H g n t e) (_:GT n t e) (_:At K H v R) (_:IsPart n t R) (_:At K H u M) (_:M.length=R.length) (_:x<n) (_:(∀h∈R,aO n t e h x∈R)) (_:(∀h∈R,mkO R M h=mkO R M (aO n t e h x))) (_:∀H',ag H H'->Q .non H')
theorem yz:Fa P w base T.iS 3 (wG T.aE K):=by
 exists T.iS.ok kA
 obtain⟨g,v,u,n,e,x,t,R,M,rfl,hG,gt,hR,pt,hM,ml,hx,st,kp,q⟩:=h;have nd:=aB pt.srt;refine⟨_,(aa (pz 4 kA.nd (gD K rfl rfl rfl T.nK rfl T.rF (paF (pv 1) (pa1 (pv 2)))))
   (ae (pfo (pil K (pv 1)) (pgn 5 kA.nd) (ae (aK (pcm d9 (bW (bY hr) (pv 4) (pv 5) (λ_ _=>rfl)) (bW (bY hr) (pv 4) (pdf T.iG (mw T) hr (paF (pv 0) (paF (pv 5) (pa1 (pv 3))))) (λ_ _=>rfl))) (ae c9) aG))))),?_⟩
 apply iH ?_;apply wU hR hM ml.symm nd λd hd=>?_;exists hd,(.dK (cI R M)),H,d,s1,k!,(.dK (cI R M)),H1;k_cls
 apply dY (H₀:=H) (α:=Nat) hR (λi σ' H'=>hX (ag H1 H') (λ(x5:Z4)=>σ'=[R? g,some v,some u,I? x,R? d,x5])) ⟨ag.refl _,_,rfl⟩ (λi σ' H' z=>s1.trans z.1) ?_ ?_
 .rintro i h w' σ' H2 hh t! ⟨s2,x5,rfl⟩;cases(show w'=V.int h from t!);have Zx:=Rb hh;fin2;k_ne;apply bU ?_;apply cB (s2 _ _ k!) (r! h Zx) ?_;apply bU ?_;apply⟨g,n,e,h,x,t,rfl,aI.mono (s1.trans s2) hG,gt,pt.lt h Zx,hx,λH3 s3=>?_⟩;refine cB (s3 _ _ (s2 _ _ k!)) (r! _ (st h Zx)) ?_;apply bJ (λc=>absurd (kp h Zx) c) (λ_=>?_);fin2;exact⟨s2.trans s3,_,rfl⟩
 .rintro σ' H2 ⟨s2,x5,rfl⟩;fin2;exact q _ (s1.trans s2)
noncomputable def OS(n:Nat)(t:AC)(e:Nat)(R M:AT)(x m:Nat)(H:Hp)(Q:VK):Prop:=∀p dg df H' Pt L,H dg=none->ag H H'->H' p=some (.tup [.ref dg,.ref df])->H' dg=some (.lst (au Pt))->Rows H H' df L->Taken n t e R M x m Pt L->Q (.ref p) H'
inductive HM(C:Addr)(K:Q7)(vs:Y6)(H:Hp)(Q:VK)(E:XK):Prop
 | mk (g:Addr) (v u z:V) (n e x m l:Nat) (t:AC) (R M:AT) (_:vs=[.ref g,v,u,.int x,z]) (_:QC C K H g v u z n e x m l t R M) (_:(∀h∈R,aO n t e h x∈R)) (_:(∀h∈R,mkO R M h=mkO R M (aO n t e h x))) (_:OS n t e R M x m H Q)
theorem HH:aH P w K mg base CX0 6 T.rH.f T.rH.fd ["group","part","marks","thing","spokes"] (HM T.aE K):=by
 exists T.rH.ok Iy
 obtain⟨g,v,u,z,n,e,x,m,l,t,R,M,rfl,gi,st,kp,q⟩:=h;obtain⟨hG,gt,hR,pt,hM,ml,mm,br,hz,hl,ZU,m1,Zs,hx⟩:=id gi;have sv:nN n t e z m:=by
  rcases hz with rfl|⟨rfl,rfl⟩
  .k_put
  .exact .inl ⟨rfl,hl⟩
 have hw:=NQ pt ml mm br;refine⟨_,(aa (aZ (pdf T.gR (qd T) hr (paF (pv 0) (paF (pv 1) (paF (pv 2) (pa1 (pv 4)))))))
   (aa (aZ (pdf T.jO (zy T) hr (paF (pv 0) (paF (pv 1) (pa1 (pv 3))))))
   (aa (aZ (pdf T.iS (yz T) hr (paF (pv 0) (paF (pv 1) (paF (pv 2) (pa1 (pv 3)))))))
   (ae (ax (pdf T.i6 (sD T) hr (paF (pv 0) (paF (pv 1) (paF (pv 2) (paF (pv 3) (pa1 (pdf T.fq (iV T) hr (paF (pv 0) (pa1 (pv 4))))))))))))))),?_⟩
 apply⟨g,v,u,z,n,e,m,l,t,R,M,rfl,hG,gt,hR,pt,hM,ml,mm,hz,hl,ZU,m1,Zs,br,λH1 s1=>?_⟩;apply⟨g,v,n,e,x,t,R,rfl,aI.mono s1 hG,gt,Rep.mono s1 hR,pt,hx,st,λH2 s2=>?_⟩;k_upd;apply⟨g,v,u,n,e,x,t,R,M,rfl,aI.mono Zf hG,gt,Rep.mono Zf hR,pt,Rep.mono Zf hM,ml,hx,st,kp,λH3 s3=>?_⟩;have Zm:=Zf.trans s3;apply⟨g,z,n,e,m,t,rfl,aI.mono Zm hG,gt,sv,λH4 s4=>?_⟩;have Zo:=Zm.trans s4;apply⟨g,v,u,n,e,x,m,t,R,M,rfl,aI.mono Zo hG,gt,Rep.mono Zo hR,pt,Rep.mono Zo hM,hw,hx,Zs,λk k1 kin mV=>⟨pt,hw,hx,st,λh hh=>(kp h hh).symm,k1,kin,mV,m1,Ja gt hl ZU hx⟩,λp dg df H' Pt L f1 s5 h1 h2 h3 h4=>?_⟩;fin2;exact q p dg df H' Pt L (Zo.free f1) (Zo.trans s5) h1 h2 (h3.since Zo) h4
noncomputable def jR(n:Nat)(t:AC)(e:Nat)(R M:AT)(b:Nat):AT:=R.map λh=>mkO R M (aO n t e h b)
theorem ue(nd:R.Nodup)(ml:M.length=R.length):jR n t e R M b=M↔∀h∈R,mkO R M h=mkO R M (aO n t e h b):=by
 unfold jR;constructor
 .intro q h hh;have:=congrArg (λl=>mkO R l h) q;simp only[j6 hh]at this;exact this.symm
 .intro q;rw[<- map_mk nd ml];exact UO λh hh=>by rw[map_mk nd ml];exact(q h hh).symm
inductive vn(C:Addr)(K:Q7)(vs:Y6)(H:Hp)(Q:VK)(E:XK):Prop
 | mk (g:Addr) (v u:V) (n e b:Nat) (t:AC) (R M:AT) (_:vs=[.ref g,v,u,.int b]) (_:aI C H g n t e) (_:GT n t e) (_:At K H v R) (_:IsPart n t R) (_:At K H u M) (_:M.length=R.length) (_:b<n) (_:(∀h∈R,aO n t e h b∈R)) (_:∀d H',H d=none->ag H H'->H' d=some (.lst (au (jR n t e R M b)))->Q (.ref d) H')
theorem mQ:Fa P w base T.eU 3 (vn T.aE K):=by
 exists T.eU.ok mL
 obtain⟨g,v,u,n,e,b,t,R,M,rfl,hG,gt,hR,pt,hM,ml,hb,st,q⟩:=h;have nd:=aB pt.srt;have rl:=pt.ig gt;refine⟨_,(aa (pz 4 mL.nd (gD K rfl rfl rfl T.nK rfl T.rF (paF (pv 1) (pa1 (pv 2)))))
   (ae (ax (bL rfl kI (pil K (pv 1)) (λ_ _ _ _=>⟨(pgn 0 kI.nd),bz,(bW (bY hr) (pv 3) (pdf T.iG (mw T) hr (paF (pv 2) (paF (pv 0) (pa1 (pv 1))))) (λ_ _=>rfl))⟩))))),?_⟩
 apply iH ?_;apply wU hR hM ml.symm nd λd hd=>?_;exists hd,(.dK (cI R M)),H,d,s1,k!,(.dK (cI R M)),H1;k_cls
 apply j8 (β:=Nat) (Rep.mono s1 hR) (by omega) (λi=>(jR n t e R M b).take i) (λσ'=>∃z,σ'=[z,I? b,R? g,R? d]) rfl (λi _=>by rw[RG];omega) ⟨_,rfl⟩ ?_ ?_
 .rintro i z w' σ' H2 d' R' R0 hz hs t! ⟨z',rfl⟩ Zx ZF dh;cases(show w'=V.int z from t!);have zR:=Rb hz;apply bU ?_;apply⟨g,n,e,z,b,t,rfl,aI.mono (s1.trans hs) hG,gt,pt.lt z zR,hb,λH3 s3=>?_⟩;refine cB (s3 _ _ (hs _ _ k!)) (r! _ (st z zR)) ?_;fin2;exact Zx _ _ _ _ ⟨_,rfl⟩ s3 rfl (by
   rw[RM];show _++((R.map λh=>mkO R M (aO n t e h b))[i]?).toList=_;rw[Ro,hz];rfl)
 intro dr H2 hdr s2 h2;have g2:Gr K H2 dr ((jR n t e R M b).take R.length):=h2;rw[RQ (by unfold jR;simp)]at g2
 fin2;exact q dr H2 (s1.free hdr) (s1.trans s2) (fL g2)
inductive ug(C:Addr)(K:Q7)(vs:Y6)(H:Hp)(Q:VK)(E:XK):Prop
 | mk (g:Addr) (v u:V) (n e x:Nat) (t:AC) (R M:AT) (_:vs=[.ref g,v,u,.int x]) (_:aI C H g n t e) (_:GT n t e) (_:At K H v R) (_:IsPart n t R) (_:At K H u M) (_:M.length=R.length) (_:x<n) (_:(∀b,b<n->∀h∈R,aO n t e h b∈R)) (_:∀ (y:Nat) H',ag H H'->y<n->(∀h∈R,mkO R M h=mkO R M (aO n t e h y))->Q (.int y) H')
theorem uq:Fa P w base T.gE 4 (ug T.aE K):=by
 exists T.gE.ok jn
 obtain⟨g,v,u,n,e,x,t,R,M,rfl,hG,gt,hR,pt,hM,ml,hx,st,q⟩:=h;have nd:=aB pt.srt;have os:=dW gt hx;have op:=gC (n:=n) (t:=t) (e:=e) (a:=x);have yn:∀k,ay t e x k<n:=λk=>bu gt hx k;refine⟨_,(aa (pz 4 jn.nd aj)
   (aa (jo UI (pcm (C0 K rfl Nat hr.units) (pdf T.eU (mQ T) hr (paF (pv 0) (paF (pv 1) (paF (pv 2) (pa1 (pdf T.iK (lY T) hr (paF (pv 0) (paF (pv 3) (pa1 (pv 4)))))))))) (pv 2)) (ae (pz 4 jn.nd (ao aY (pv 4) aj))))
   (ae (ax (pdf T.iK (lY T) hr (paF (pv 0) (paF (pv 3) (pa1 (pv 4))))))))),?_⟩
 apply jz (λb σ' H'=>sW (ag H H') (λk=>1<=k) (λk=>k<=aM n t e x) (λk=>b=aM n t e x - k) (λk=>σ'=[R? g,some v,some u,I? x,I? k])) (aM n t e x - 1)
  ⟨ag.refl _,1,Ru _,op,rfl,rfl⟩ ?_
 rintro b σ' H1 ⟨s1,k,k1,k2,rfl,rfl⟩;apply⟨g,n,e,x,(k:Int),t,rfl,aI.mono s1 hG,gt,hx,λH2 s2=>?_⟩;rw[nR gt hx k];k_upd;apply⟨g,v,u,n,e,ay t e x k,t,R,M,rfl,aI.mono Zf hG,gt,Rep.mono Zf hR,pt,Rep.mono Zf hM,ml,yn k,st _ (yn k),λd H3 hd s3 h3=>?_⟩;have Zm:=Zf.trans s3;apply JT (aW h3) (Rep.mono Zm hM) ?_;apply bJ (λc=>?_) (λc=>?_)
 .have k3:k<aM n t e x:=by
   rcases Rz k (aM n t e x) with y|y
   .exact y
   .have:k=aM n t e x:=by omega
    rw[this,os.2.1]at c;exact absurd ((ue nd ml).mpr λh hh=>by rw[BJ gt (pt.lt h hh)]) c
  refine⟨λσ2 H4=>ag H H4/\σ2=[R? g,some v,some u,I? x,I? ((k+1:Nat):Int)],λσ2 H4 y=>⟨aM n t e x - (k+1),by omega,y.1,k+1,by omega,k3,rfl,y.2⟩,?_⟩
  fin2;exact⟨Zm,rfl⟩
 .apply⟨g,n,e,x,(k:Int),t,rfl,aI.mono Zm hG,gt,hx,λH4 s4=>?_⟩;rw[nR gt hx k];fin2;exact q _ _ (Zm.trans s4) (yn k) ((ue nd ml).mp c)
theorem IsW.oks(pt:IsPart n t R)(w:IsW t R M m):∀j,j<R.length->∀k,k<R.length->jr t R M m j k:=λj jl k kl=>by
 have nd:=aB pt.srt;have:=w.add _ (Sd jl) _ (Sd kl);unfold mkO at this;rw[eE nd (Q8 jl),eE nd (Q8 kl)]at this;unfold jr;rw[show R.getD j 0=R[j] from by simp[jl],show R.getD k 0=R[k] from by simp[kl]]
 o_rec
noncomputable def gU(C g:Addr)(m n e:Nat)(t:AC)(S:AT)(H0 G:Hp)(y:V)(W:AT):Prop:=∃p dx d pa ma:Addr,y=.ref p/\H0 p=none/\G p=some (.ins C dx (Ay (.ref pa) (.ref ma) (.ref g) m (bI n t e S).length (.ref d)))/\G pa=some (.lst (au S))/\G ma=some (.lst (au W))/\dD G d (dk n t e S W)
theorem gU.mono{G G':Hp}{y:V}(s:ag G G')(h:gU C g m n e t S H0 G y W):gU C g m n e t S H0 G' y W:=by
 obtain⟨p,dx,d,pa,ma,e1,e2,e3,e4,e5,e6⟩:=h;exact⟨p,dx,d,pa,ma,e1,e2,s _ _ e3,s _ _ e4,s _ _ e5,e6.mono s⟩
theorem dD.JO{a:Addr}{ys:Y6}(h:dD H a D)(hd:H d=some (.lst ys))(hy:∀y∈ys,∃p C dx fs,y=.ref p/\H p=some (.ins C dx fs))(h0:D≠[])(hr:∀r∈D,r≠[]):dD (del H d) a D:=by
 obtain⟨ps,h1,h2,h3⟩:=h;have row:∀ (i:Nat) (p:Addr) (r:Y2),ps[i]?=some p->D[i]?=some r->ef (del H d) p r:=λi p r hp hr'=>by
  obtain⟨qs,r1,r2,r3⟩:=h3 i p r hp hr';have rn:=hr r (Rb hr');have q0:0<qs.length:=by rw[r2];exact RJ.mpr rn
  have pd:p≠d:=λz=>by
   rw[z,hd]at r1;cases r1;obtain⟨p',C,dx,fs,e1,e2⟩:=hy (.ref qs[0]) (Rw.mpr ⟨_,Sd q0,rfl⟩);cases e1;rw[r3 0 qs[0] (r[0]'(by omega)) (Q8 q0) (Q8 (by omega))]at e2
   cases e2
  refine⟨qs,by rw[bS pd];exact r1,r2,λj q x hq hx=>?_⟩
  have:=r3 j q x hq hx;rw[bS λz=>by rw[z,hd]at this;cases this]
  o_rec
 have p0:0<ps.length:=by rw[h2];exact RJ.mpr h0
 have ad:a≠d:=λz=>by
  rw[z,hd]at h1;cases h1;obtain⟨p',C,dx,fs,e1,e2⟩:=hy (.ref ps[0]) (Rw.mpr ⟨_,Sd p0,rfl⟩);cases e1;obtain⟨qs,r1,_⟩:=h3 0 ps[0] (D[0]'(by omega)) (Q8 p0) (Q8 (by omega))
  rw[r1]at e2;cases e2
 exact⟨ps,by rw[bS ad];exact h1,h2,row⟩
theorem rP(n1:0<n):dk n t e S W≠[]/\∀r∈dk n t e S W,r≠[]:=by
 unfold dk;refine⟨λz0=>?_,λr hr z0=>?_⟩
 .have:=congrArg Vq z0;rw[Rc,RP]at this;exact absurd this (T3 n1)
 .obtain⟨i,_,rfl⟩:=Rw.mp hr;have c0:0∈bI n t e S:=eN.mpr ⟨n1,λy hy=>absurd hy (UB _)⟩;rw[List.map_eq_nil_iff.mp z0]at c0;cases c0
inductive yk(C CG:Addr)(K:Q7)(vs:Y6)(H:Hp)(Q:VK)(E:XK):Prop
 | mk (g:Addr) (v u z:V) (n e x m l:Nat) (t:AC) (R M:AT) (_:vs=[.ref g,v,u,.int x,z]) (_:aI CG H g n t e) (_:GT n t e) (_:At K H v R) (_:IsPart n t R) (_:At K H u M) (_:IsW t R M m) (_:x<n) (_:(∀b,b<n->∀h∈R,aO n t e h b∈R)) (_:(z=.int m\/(z=.non/\m=l))) (_:b9 (bX n t e) l) (_:m % l=0) (_:0<m) (_:m<=60)
  (_:∀ (d:Addr) H' (ys:Y6) (y:Nat) (Pt:AT) (L:AC),H d=none->ag H H'->H' d=some (.lst ys)->y<n->IsPart n t Pt->Taken n t e R M y m Pt L->Sz (gU C g m n e t Pt H H') ys L->Q (.ref d) H')
theorem yo:Fa P w base T.jc 9 (yk T.aA T.aE K):=by
 exists T.jc.ok kG
 obtain⟨g,v,u,z,n,e,x,m,l,t,R,M,rfl,hG,gt,hR,pt,hM,hw,hx,st,hz,hl,ZU,m1,Zs,q⟩:=h;have n1:=gt.pos;have Zw:=gt.le;refine⟨_,(aa (pz 5 kG.nd (pdf T.gE (uq T) hr (paF (pv 0) (paF (pv 1) (paF (pv 2) (pa1 (pv 3)))))))
   (aa (pz 6 kG.nd (DG T.rH (HH T) (hr.mono (by decide)) rfl (paF (pv 0) (paF (pv 1) (paF (pv 2) (paF (pv 5) (pa1 (pv 4))))))))
   (ae (ax (bL rfl mB (pil K (d8 (cS K rfl) (pv 6) aj (λ_ _=>rfl))) (λ_ _ _ _=>⟨(pgn 0 mB.nd),bz,(oz T.Iw (GZ T) (hr.mono (by decide)) rfl T.AN T.Iu .nil jL (paF (pv 1) (paF (d8 (cS K rfl) (pv 3) aj (λ_ _=>rfl)) (paF (pv 0) (pa1 (pv 2))))))⟩)))))),?_⟩
 apply⟨g,v,u,n,e,x,t,R,M,rfl,hG,gt,hR,pt,hM,hw.len,hx,st,λy H1 s1 hy kp=>?_⟩;apply⟨g,v,u,z,n,e,y,m,l,t,R,M,rfl,⟨aI.mono s1 hG,gt,Rep.mono s1 hR,pt,Rep.mono s1 hM,hw.len,hw.lt,hw.oks pt,hz,hl,ZU,m1,Zs,hy⟩,st y hy,kp,λp dg df H2 Pt L fdg s2 b! hg2 rw2 Tk=>?_⟩;k_upd;have pp:IsPart n t Pt:=Tk.gen.part gt λs hs=>by
  rcases Rq.mp hs with c|c
  .exact pt.lt s c
  .rw[Rj.mp c];exact hy
 have Ll:L.length<=23:=by
  have a:=Tk.len;have b:=pp.ig gt;have c:0<R.length:=RJ.mpr pt.ne;exact RU (RU (Ud _ c) (U2 a)) b
 obtain⟨hb1,ps1,h!,I!⟩:=id rw2;have pl:=I!.length;apply fQ (i:=1) b! rfl ?_;apply gg (K:=K) (p:=df) (xs:=ps1.map V.ref) (by rw[Rc];omega) (λd i σ' H' ys=>iU (ag H2 H') (Sz (gU T.aA g m n e t Pt H (del H' d)) ys (L.take i)) (λy0=>σ'=[y0,R? g,some z,R? p])) (λd i σ' H' ys z=>z.1.seq (SqL.of h!)) (SqL.of h!)
  (λd i σ' H' ys _ z=>by rw[z.2.length,RG];omega) (λd hd=>⟨ar hd _,.nil,_,rfl⟩) ?_ ?_
 .rintro d j y' σ' H3 ys Rk R0 hd C' ⟨s3,pr,y0,rfl⟩ c! hRk ZF;rw[Ro]at C';obtain⟨pa,A!,rfl⟩:=SU.mp C';obtain⟨W,hW,ra⟩:=Paired.getL I! A!;obtain⟨wW,_⟩:=(Tk.mem W).mp (Rb hW);have Zm:=Zf.trans s3;apply fQ (i:=0) (s3 _ _ b!) rfl ?_;fin2;intro x' dx' ZO hdx' Zj;have sn:ag H3 (upd (upd H3 dx' (.own x')) x' (.ins T.aA dx' [])):=(ar hdx' _).trans (ar (by rw[ak Zj.symm];exact ZO) _)
  refine⟨x',dx',g,.ref dg,.ref pa,z,n,e,m,l,t,Pt,W,H3,rfl,ai,ZO,sn,aI.mono Zm hG,gt,aW (s3 _ _ hg2),pp,aW (s3 _ _ ra.2.2),wW.len,wW.lt,hz,hl,ZU,m1,Zs,wW.oks pp,λp1 p2 d4 H4 f1 f2 s4 h4 ZG q! hD=>⟨rfl,?_⟩⟩;have ZT:=s4 _ _ c!;have sd:ag (del H3 d) (del (upd H4 d (.lst (ys++[.ref x']))) d):=(gh s4).trans eB;refine hRk _ _ _ ZT ⟨?_,?_,_,rfl⟩
  .intro a o za;rw[ak (av za hd)];exact s4 _ _ (s3 _ _ za)
  .rw[RM,hW];refine Paired.app (Paired.b5 pr λ_ _ za=>za.mono sd) (.cons ?_ .nil);have dn:∀ {a:Addr} {o:HO},a≠d->H4 a=some o->(del (upd H4 d (.lst (ys++[.ref x']))) d) a=some o:=λha za=>by rw[bS ha,ak ha];exact za
   have xd:x'≠d:=λqq=>by rw[qq,ZT]at h4;cases h4
   have all:∀y∈ys,∃p C dx fs,y=V.ref p/\H4 p=some (.ins C dx fs):=λy hy=>by
    obtain⟨i,hi⟩:=RD hy;obtain⟨W',_,p',dx2,d2,a2,b2,e1,_,e3,_⟩:=Paired.getL pr hi;exact⟨p',_,_,_,e1,s4 _ _ (dE _ _ e3)⟩
   exact⟨x',dx',d4,p1,p2,rfl,Zm.free ZO,dn xd h4,dn (bF c! f1).symm ZG,dn (bF c! f2).symm q!,(hD.JO ZT all (rP n1).1 (rP n1).2).mono eB⟩
 intro d σ' H3 ys hd c! ⟨s3,pr,_,_⟩;rw[Rc,pl,Sr]at pr;fin2;exact q d H3 ys y Pt L (Zf.free hd) (Zf.trans s3) c! hy pp Tk (Paired.b5 pr λ_ _ za=>za.mono dE)
theorem Nx :au l=zsV (l.map Int.ofNat):=by
 unfold au zsV;rw[T4];rfl
noncomputable def vy(n:Nat)(t:AC)(e m:Nat)(D:List (Y2)):List (YZ):=(i4 n t e n).map λx=>NT m ((cnt m (D.getD x [])).map Int.ofNat)
theorem LR(gt:GT n t e)(pt:IsPart n t S)(w:IsW t S W m)(hi:i<n):((dk n t e S W).getD i []).length<=1000/\∀y∈(dk n t e S W).getD i [],y.2<m:=by
 have cl:=ju (n:=n) (t:=t) (e:=e) (R:=S);have Zw:=gt.le;rw[Rf,ft hi];refine⟨by show (List.map _ _).length<=1000;rw[Rc];omega,λy hy=>?_⟩
 obtain⟨c',ZH,rfl⟩:=Rw.mp hy;obtain⟨_,k',_,z2,z3,_⟩:=zt gt pt (gt.lt i c' hi (dG ZH));have kl:S.idxOf (ov n t e S (tb t i c'))<W.length:=by rw[z3,w.len];exact(Q9.mp z2).1
 exact w.lt _ (Rb (getD_some (l:=W) 0 kl))
inductive Fc(C CG:Addr)(H:Hp)(g:Addr)(m n e:Nat)(t:AC)(y:V)(S W:AT):Prop
 | mk (H0:Hp) (_:aI CG H g n t e) (_:GT n t e) (_:1<=m) (_:m<=60) (_:IsPart n t S) (_:IsW t S W m) (_:gU C g m n e t S H0 H y W)
inductive GP(C CG:Addr)(K:Q7)(vs:Y6)(H:Hp)(Q:VK)(E:XK):Prop
 | mk (g:Addr) (y:V) (n e m:Nat) (t:AC) (S W:AT) (_:vs=[y]) (_:Fc C CG H g m n e t y S W) (_:∀d H',H d=none->ag H H'->Gr K H' d (vy n t e m (dk n t e S W))->Q (.ref d) H')
theorem xM:Fa P w base T.lR 6 (GP T.aA T.aE K):=by
 exists T.lR.ok xf
 obtain⟨g,y,n,e,m,t,S,W,rfl,⟨H0,hG,gt,m1,Zs,pt,hw,p,dx,d,pa,ma,rfl,_,hp,_,_,hD⟩,q⟩:=h;have okm:gq m=true:=((FA m (by omega)).resolve_left (by omega)).1
 have W0:=uU okm;have Zw:=gt.le;refine⟨_,(aa (pz 1 xf.nd (oz T.Lu (HL T) (hr.mono (by decide)) rfl T.Lo T.Kn .nil jL (pa1 (pfl K (pv 0)))))
   (ae (ax (bL rfl sA (pil K (pdf T.j7 (um T) hr (pa1 (pfl K (pv 0))))) (λ_ _ _ _=>⟨(pgn 0 sA.nd),bz,(oX (pv 2) T.gv T.vV (uM T) (hr.mono (by decide)) T.wk (pa1 (oX (pv 1) T.cP T.vW (Bw T) (hr.mono (by decide)) T.Cf (pa1 (pxl K (pv 0) aj)))))⟩))))),?_⟩
 apply rq T hp ?_;fin2;intro x dw fx fdw Zj;refine⟨x,dw,m,rfl,ai,m1,Zs,okm,λr H1 fr hx1 hr1 k1=>⟨rfl,?_⟩⟩;have s1:ag H H1:=λa o za=>k1 a o (by rw[ak (av za fx),ak (av za fdw)];exact za) (av za fx)
 have w1:tG T.cy H1 x m:=⟨dw,r,hx1,hr1⟩
 clear k1 hx1 hr1
 apply Af T (s1 _ _ hp) ?_;apply⟨g,n,e,t,rfl,hG.mono s1,gt,λd2 H2 ps N! _ s2 p!=>?_⟩;k_upd;have fl:(i4 n t e n).length<=23:=RU (iy _ n) Zw;apply j8 (β:=YZ) (p!.at (K:=K)) (by unfold gG;rw[Rc];omega) (λi=>(vy n t e m (dk n t e S W)).take i) (λσ'=>∃z,σ'=[z,R? p,R? x]) rfl (λi _=>by rw[RG];omega) ⟨_,rfl⟩ ?_ ?_
 .rintro i c w' σ' H3 d' R' R0 hc s3 t! ⟨z,rfl⟩ Zx ZF ⟨ys,dh⟩;unfold gG at hc;rw[Ro]at hc;obtain⟨f,hf,rfl⟩:=SU.mp hc;obtain⟨fn,fm⟩:=oj.mp (Rb hf);have Zm:=Zf.trans s3;obtain⟨b1,b2⟩:=LR gt pt hw fn;apply uw ?_;fin2;obtain⟨dw',r',hx3,hr3⟩:=w1.mono (s2.trans s3);refine⟨x,dw',_,rfl,hx3,rfl,?_⟩;apply uw ?_;apply⟨p,dx,_,rfl,Zm _ _ hp,rfl,?_⟩;apply bh t! (Jd gt fn fm) ?_;apply⟨p,g,f,m,_,dk n t e S W,(dk n t e S W).getD f [],rfl,⟨dx,d,pa,ma,Zm _ _ hp,hD.mono Zm⟩,m1,Zs,by rw[Rf,ft fn];rfl,b1,b2,λc1 H4 fc1 s4 hc1=>?_⟩
  rw[Nx]at hc1;apply⟨x,.ref c1,m,_,rfl,tG.mono s4 ⟨dw',r',hx3,hr3⟩,m1,Zs,W0,lX hc1,by rw[Rc,Dk];omega,λb H5 fb s5 hb=>?_⟩
  refine Zx _ _ _ _ ⟨_,rfl⟩ (s4.trans s5) (lX (by rw[bS (λzz=>by rw[zz,s4 _ _ dh]at fb;cases fb)];exact hb)) ?_
  rw[RM];unfold vy;rw[Ro,hf];rfl
 intro dr H3 hdr s3 h3;have g3:Gr K H3 dr ((vy n t e m (dk n t e S W)).take (gG n t e n).length):=h3;rw[RQ (by unfold vy gG;rw[Rc,Rc];exact Ru _)]at g3
 exact q dr H3 (Zf.free hdr) (Zf.trans s3) g3
inductive uL(C CG:Addr)(K:Q7)(vs:Y6)(H:Hp)(Q:VK)(E:XK):Prop
 | mk (g:Addr) (y:V) (n e m:Nat) (t:AC) (S W:AT) (_:vs=[y]) (_:Fc C CG H g m n e t y S W) (_:∀d H',ag H H'->dX K H' (.ref d) (((bI n t e S).length:Int),vy n t e m (dk n t e S W))->Q (.ref d) H')
theorem vt:Fa P w base T.gA 7 (uL T.aA T.aE K):=by
 exists T.gA.ok uj
 obtain⟨g,y,n,e,m,t,S,W,rfl,lw,q⟩:=h;obtain⟨H0,_,_,_,_,_,_,p,dx,d,pa,ma,rfl,_,hp,_⟩:=id lw;refine⟨_,(ae (ax (gP (paF (pfl K (pv 0)) (pa1 (pdf T.lR (xM T) hr (pa1 (pv 0)))))))),?_⟩;apply iX ?_;apply Dg T hp ?_;apply⟨g,.ref p,n,e,m,t,S,W,rfl,lw,λdr H1 fdr s1 g1=>?_⟩;apply⟨Sc,λa ha=>?_⟩
 have s2:=ar ha (.tup [.int ((bI n t e S).length:Int),.ref dr]);exact q a _ (s1.trans s2) ⟨a,.ref dr,rfl,SqT.of ai,Rep.mono s2 g1.at⟩
theorem zG{a:Addr}{ys:Y6}(ha:H a=some (.lst (au l)))(h0:l≠[])(hd:H d=some (.lst ys))(hy:∀y∈ys,∃p:Addr,y=.ref p):a≠d:=λz=>by
 rw[z,hd]at ha;cases ha;cases l with
 | nil=>exact h0 rfl
 | cons x l =>
  obtain⟨p,hp⟩:=hy _ Rr;cases hp
theorem gU.away{G:Hp}{y:V}{ys:Y6}(h:gU C g m n e t S H0 G y W)(n1:0<n)(hS:S≠[])(hW:W≠[])(hd:G d=some (.lst ys))(hy:∀y∈ys,∃p C dx fs,y=.ref p/\G p=some (.ins C dx fs)):gU C g m n e t S H0 (del G d) y W:=by
 obtain⟨p,dx,dd,pa,ma,e1,e2,e3,e4,e5,e6⟩:=h;have hr:∀y∈ys,∃p:Addr,y=.ref p:=λy z=>by obtain⟨p,_,_,_,q,_⟩:=hy y z;exact⟨p,q⟩
 refine⟨p,dx,dd,pa,ma,e1,e2,?_,?_,?_,e6.JO hd hy (rP n1).1 (rP n1).2⟩
 .rw[bS λz=>by rw[z,hd]at e3;cases e3];exact e3
 .rw[bS (zG e4 hS hd hr)];exact e4
 .rw[bS (zG e5 hW hd hr)];exact e5
theorem Ma(m1:0<m):IsW t F (Rn F.length 0) m :=
 ⟨U3,λx hx=>by rw[(List.mem_replicate.mp hx).2];exact m1,λx _ y _=>by rw[fY,fY,fY,Ut]⟩
theorem FT :jR n t e F (Rn F.length 0) b=Rn F.length 0:=by
 unfold jR;rw[List.eq_replicate_iff];refine⟨Rc _,λx hx=>?_⟩;obtain⟨y,_,rfl⟩:=Rw.mp hx;exact fY
inductive lG(C:Addr)(H:Hp)(g:Addr)(m n e:Nat)(t:AC)(y:V):Prop
 | mk (H0:Hp) (S W:AT) (_:IsPart n t S) (_:IsW t S W m) (_:gU C g m n e t S H0 H y W)
theorem lG.mono{y:V}(s:ag H H')(h:lG C H g m n e t y):lG C H' g m n e t y:=by
 obtain⟨H0,S,W,p,w,l⟩:=h;exact⟨H0,S,W,p,w,l.mono s⟩
inductive Ea(C CG:Addr)(K:Q7)(vs:Y6)(H:Hp)(Q:VK)(E:XK):Prop
 | mk (g:Addr) (n e m l:Nat) (t:AC) (_:vs=[.ref g,.int m]) (_:aI CG H g n t e) (_:GT n t e) (_:Meta n t) (_:b9 (bX n t e) l) (_:m % l=0) (_:0<m) (_:m<=60) (_:∀d H' ys,H d=none->ag H H'->H' d=some (.lst ys)->ys.length<=23->ys≠[]->(∀y∈ys,lG C (del H' d) g m n e t y)->Q (.ref d) H')
theorem Eg:Fa P w base T.mP 10 (Ea T.aA T.aE K):=by
 exists T.mP.ok kT
 obtain⟨g,n,e,m,l,t,rfl,hG,gt,me,hl,ZU,m1,Zs,q⟩:=h;obtain⟨gdx,gr,gb,hg,_⟩:=hG.get (K:=K);have n1:=gt.pos;have Zw:=gt.le;refine⟨_,(aa (pz 2 kT.nd (pdf T.rG (IT T) hr (pa1 (pv 0))))
   (aa (pz 3 kT.nd (bg bZ))
   (aa (pfo (pil K (DG T.vh (LZ T) (hr.mono (by decide)) rfl (paF (pv 0) (paF (d8 (cS K rfl) (pv 2) aj (λ_ _=>rfl)) (pa1 (pv 1)))))) (pgn 4 kT.nd) (ae (aK (pcm (Kq K rfl Nat hr.units) (pv 4) (bK (Hi rfl K rfl hr.units) rfl T.Pg PyProof.Rows.boot_min (pa1 (bL rfl q9 (prg T.aU (pfl K (pv 0))) (λ_ _ _ _=>⟨(pgn 0 q9.nd),bz,(pdf T.eU (mQ T) hr (paF (pv 2) (paF (d8 (cS K rfl) (pv 1) aj (λ_ _=>rfl)) (paF (pv 3) (pa1 (pv 0))))))⟩))))) (ae (aZ (qR K rfl TK Xa Xb xD (pv 3) (pa1 (pdf T.jc (yo T) hr (paF (pv 0) (paF (d8 (cS K rfl) (pv 2) aj (λ_ _=>rfl)) (paF (pv 4) (paF (d8 (cS K rfl) (pv 2) aj (λ_ _=>rfl)) (pa1 (pv 1))))))))))) aG)))
   (ae (ax (pv 3)))))),?_⟩
 apply⟨g,n,e,t,rfl,hG,gt,me,λp dp x F H1 s1 fdp ZG hF1 hs hx _ _=>?_⟩;have ht:=(uF gt me hs).1;have f1:0<F.length:=RJ.mpr ht.pt.ne;apply cK ?_;apply⟨sB,λdw Y!=>?_⟩
 exists Y!,(.lst []),H1,dw,s2,w2,(.lst []),H2;k_upd;have fw:H dw=none:=s1.free Y!;apply fQ (i:=0) (s2 _ _ ZG) rfl ?_;apply⟨g,.ref dp,.int m,n,e,m,l,t,F,rfl,hG.mono Zf,gt,aW (s2 _ _ hF1),ht.pt,.inl rfl,hl,ZU,m1,Zs,λd3 H3 D L s3 rw3 G on=>?_⟩;obtain⟨fd3,ps3,h!,I!⟩:=rw3;have w3:=s3 _ _ w2;have nw:∀ {a o},H1 a=some o->a≠dw:=λza=>av za Y!;have k1:ag H1 (del H3 dw):=λa o za=>by rw[bS (nw za)];exact s3 _ _ (s2 _ _ za)
 have k0:ag H (del H3 dw):=s1.trans k1;have kd:(del H3 dw) d3=some (.lst (ps3.map V.ref)):=by rw[bS (bF w2 fd3).symm];exact h!
 have kr:Sz (λp r=>(del H3 dw) p=some (.lst (au r))) ps3 L:=Paired.b5 I! λp r z=>by rw[bS (bF w2 z.1).symm];exact z.2.2
 have kk:ag (del H3 dw) H3:=dE;have kn:(del H3 dw) dw=none:=by unfold del;rw[if_pos rfl]
 clear h! I! Zf w2 s2 s3 fd3 nw
 generalize del H3 dw=H4 at k1 k0 kd kr kk kn ⊢;obtain⟨j0,hj0⟩:=RD ((on.mem _).mpr (Ma m1));have j0l:=(Q9.mp hj0).1;have pl:=kr.length;have Ll:L.length<=F.length:=by
  rw[<- on.len];refine Ud _ (Nat.pos_of_ne_zero λz=>?_);have:=on.len;rw[z,Us]at this;omega
 apply wu (ps:=ps3) (λi σ' H'=>xZ (ag H4 H') (λys (_:Z4)=>H' dw=some (.lst ys)) (λys _=>ys.length<=i * (n / F.length)/\(j0<i->ys≠[])) (λys _=>∀y∈ys,lG T.aA (del H' dw) g m n e t y) (λys x4=>σ'=[R? g,I? m,R? p,R? dw,x4])) ⟨kk,[],_,w3,⟨R5 _,λz=>absurd z (UB _)⟩,(λy hy=>nomatch hy),rfl⟩ (λi σ' H' z=>z.1 _ _ kd) ?_ ?_
 .rintro i pm σ' H5 M! ⟨s5,ys,x4,w5,⟨l5,j5⟩,a5,rfl⟩;obtain⟨M,hM,hm⟩:=Paired.getL kr M!;have wM:=(on.mem M).mp (Rb hM);have s15:=k1.trans s5;have ZM:=k0.trans s5;fin2;k_ne;apply bA T (ZM _ _ hg) ?_;refine kO K (n:=n) (β:=AT) rfl (by omega) (λi=>((Rh n).map (jR n t e F M)).take i) (λσ'=>∃y,σ'=[y,R? p,R? g,R? pm]) rfl (λi _=>by rw[RG];omega) ⟨_,rfl⟩ ?_ ?_
  .rintro b σ' H6 d' R R0 hb s6 ⟨y,rfl⟩ hR ZF ⟨ys',dh⟩;have s16:=s15.trans s6;apply fQ (i:=0) (s16 _ _ ZG) rfl ?_;apply⟨g,.ref dp,.ref pm,n,e,b,t,F,M,rfl,hG.mono (ZM.trans s6),gt,aW (s16 _ _ hF1),ht.pt,aW (s6 _ _ (s5 _ _ hm)),wM.len,hb,ht.st b hb,λd7 H7 fd7 s7 h7=>?_⟩;exact hR _ _ _ _ ⟨_,rfl⟩ s7 (aW (by rw[bS (bF dh fd7).symm];exact h7)) (cR _ n b hb)
  intro dr H6 hdr s6 ⟨ys6,h61,h62⟩;rw[RQ (by simp)]at h62
  have s16:=s15.trans s6;have G!:=ZM.trans s6;have w6:=s6 _ _ w5;have hm6:=s6 _ _ (s5 _ _ hm);apply Mo ((Rh n).map (jR n t e F M)) (SqL.of h61) (Paired.b5 h62 λ_ _ z=>Rep.mono dE z) (by rw[Rc,RP];exact n1) λk x7 a hx7 ha=>?_
  apply Qm (aW hm6) (Rep.mono dE (Paired.D0 h62 hx7 ha)) ?_;apply aV (λc=>?_) (λc=>?_)
  .apply⟨.inl ⟨rfl,_,SqL.of w6⟩,?_⟩;apply fQ (i:=0) (s16 _ _ ZG) rfl ?_;apply fQ (i:=1) (s16 _ _ ZG) rfl ?_;apply⟨g,.ref dp,.ref pm,.int m,n,e,x,m,l,t,F,M,rfl,hG.mono G!,gt,aW (s16 _ _ hF1),ht.pt,aW hm6,wM,hx,ht.st,.inl rfl,hl,ZU,m1,Zs,λd7 H7 ys7 y7 Pt Lk fd7 s7 h7 _ pp Tk pr=>?_⟩;have w7:=s7 _ _ w6;have yl:=pr.length;have kl:Lk.length<=n / F.length:=(X0 f1).mpr (by rw[Tk.len];exact pp.len)
   have dl:n / F.length<=23:=RU (Nat.div_le_self _ _) Zw;have i1:i<=23:=by
    have:=(Q9.mp M!).1;have:=ht.pt.len;omega
   have yl2:ys.length<=23 * 23:=RU l5 (UW i1 dl);have yne:ys7≠[]:=λz=>by
    have a:=Tk.len;rw[z]at yl;rw[<- yl,VB,Vw]at a;exact pp.ne (Th.mp a.symm)
   refine⟨dw,d7,_,_,rfl,rfl,w7,h7,by rw[RO];omega,?_⟩
   w_up
   refine⟨λa o za=>by rw[ak (av za kn)];exact s7 _ _ (s6 _ _ (s5 _ _ za)),_,_,ai,⟨?_,λ_ z=>yne (List.append_eq_nil_iff.mp z).2⟩,λy hy=>?_,rfl⟩
   .rw[Rt,U5];omega
   rcases Rq.mp hy with hy|hy
   .exact((a5 y hy).mono (gh (s6.trans s7))).mono eB
   .obtain⟨k',Zv⟩:=RD hy;obtain⟨W,hW,la⟩:=Paired.getL pr Zv;have wW:=((Tk.mem W).mp (Rb hW)).1;refine lG.mono eB ⟨H6,Pt,W,pp,wW,la.away n1 pp.ne (λz=>pp.ne (Th.mp (by rw[<- wW.len,z];rfl))) w7 λy0 hy0=>?_⟩
    obtain⟨_,_,_,_,_,p0,dx0,_,_,_,e1,_,e3,_⟩:=a5 y0 hy0;exact⟨p0,_,_,_,e1,s7 _ _ (s6 _ _ (dE _ _ e3))⟩
  .apply⟨s5.trans s6,ys,_,w6,⟨RU l5 (Ub _ (S6 _)),λz=>?_⟩,λy hy=>(a5 y hy).mono (gh s6),rfl⟩;rcases Rz j0 i with z' | z'
   .exact j5 z'
   .have ji:j0=i:=by omega
    rw[ji,hM]at hj0;cases hj0;obtain⟨b,_,hb⟩:=Rw.mp (Rb ha);exact absurd (hb.symm.trans FT).symm c
 .rintro σ' H5 ⟨s5,ys,x4,w5,⟨l5,j5⟩,a5,rfl⟩;apply q dw H5 ys fw (k0.trans s5) w5 ?_ (j5 (by omega)) a5
  refine RU l5 (RU (Ub _ (by omega:ps3.length<=F.length)) (RU (Yl _ _) Zw))
theorem dX.mono{α:Type}[Rep α]{v:V}{z:Int×α}(s:ag H H')(h:dX K H v z):dX K H' v z:=by
 obtain⟨p,x,e,a,b⟩:=h;exact⟨p,x,e,s.tup a,Rep.mono s b⟩
theorem lG.lw{CG:Addr}{y:V}(h:lG C H g m n e t y)(hG:aI CG H g n t e)(gt:GT n t e)(m1:0<m)(Zs:m<=60):∃S W,Fc C CG H g m n e t y S W:=by
 obtain⟨H0,S,W,p,w,l⟩:=h;exact⟨S,W,H0,hG,gt,m1,Zs,p,w,l⟩
noncomputable def JK(g:Addr)(m:Nat)(c v r:V):List (Str×V):=[("group",.ref g),("spokes",.int m),("classes",c),("ways",v),("rows",r)]
inductive K3(C CL CG:Addr)(K:Q7)(vs:Y6)(H:Hp)(Q:VK)(E:XK):Prop
 | mk (p dx g dw:Addr) (n e m:Nat) (t:AC) (ys:Y6) (H0:Hp) (_:vs=[.ref p,.ref g,.int m,.ref dw]) (_:H p=some (.ins C dx [])) (_:H0 p=none) (_:ag H0 H) (_:aI CG H0 g n t e) (_:GT n t e) (_:0<m) (_:m<=60) (_:H0 dw=some (.lst ys)) (_:ys.length<=23) (_:∀y∈ys,lG CL H0 g m n e t y) (_:∀c r H',ag H0 H'->H' p=some (.ins C dx (JK g m c (.ref dw) r))->Q .non H')
theorem Li:aH P w K mg base CX0 7 T.Av T.zJ ["self","group","spokes","ways"] (K3 T.bw T.aA T.aE K):=by
 exists T.Nr.ok BD
 obtain⟨p,dx,g,dw,n,e,m,t,ys,H0,rfl,hp,fp,s0,hG,gt,m1,Zs,hw,yl,al,q⟩:=h;have put:∀ {H1:Hp} {o:HO},ag H0 H1->ag H0 (upd H1 p o):=λs1 a o za=>by rw[ak (av za fp)];exact s1 _ _ za
 refine⟨_,(aa (cG K rfl (pv 0) (pv 1) rfl)
   (aa (cG K rfl (pv 0) (pv 2) rfl)
   (aa (cG K rfl (pv 0) (pdf T.j7 (um T) hr (pa1 (pv 1))) rfl)
   (aa (cG K rfl (pv 0) (pv 3) rfl)
   (ae (cG K rfl (pv 0) (bL rfl nF (pil K (pv 3)) (λ_ _ _ _=>⟨(pgn 0 nF.nd),bz,(pdf T.lR (xM T) hr (pa1 (pv 0)))⟩)) rfl)))))),?_⟩
 apply⟨p,T.bw,dx,_,rfl,hp,T.ka,T.Am,(by show 0<1000;decide),?_⟩
 apply⟨p,T.bw,dx,_,rfl,ai,T.ka,T.pM,(by show 1<1000;decide),?_⟩
 have s2:=put (o:=.ins T.bw dx (bD "spokes" (.int m) (bD "group" (.ref g) []))) (put (o:=.ins T.bw dx (bD "group" (.ref g) [])) s0);have h2:(upd (upd H p (.ins T.bw dx (bD "group" (.ref g) []))) p (.ins T.bw dx (bD "spokes" (.int m) (bD "group" (.ref g) [])))) p=some (.ins T.bw dx [("group",.ref g),("spokes",.int m)]):=ai;generalize upd (upd H p (.ins T.bw dx (bD "group" (.ref g) []))) p (.ins T.bw dx (bD "spokes" (.int m) (bD "group" (.ref g) [])))=H2 at s2 h2;apply⟨g,n,e,t,rfl,hG.mono s2,gt,λdc H3 ps fdc _ s3 _=>?_⟩;apply⟨p,T.bw,dx,_,rfl,s3 _ _ h2,T.ka,T.vP,(by show 2<1000;decide),?_⟩
 apply⟨p,T.bw,dx,_,rfl,ai,T.ka,T.nq,(by show 3<1000;decide),?_⟩
 have s4:=put (o:=.ins T.bw dx (bD "ways" (.ref dw) (bD "classes" (.ref dc) [("group",.ref g),("spokes",.int m)]))) (put (o:=.ins T.bw dx (bD "classes" (.ref dc) [("group",.ref g),("spokes",.int m)])) (s2.trans s3));have h4:(upd (upd H3 p (.ins T.bw dx (bD "classes" (.ref dc) [("group",.ref g),("spokes",.int m)]))) p (.ins T.bw dx (bD "ways" (.ref dw) (bD "classes" (.ref dc) [("group",.ref g),("spokes",.int m)])))) p=some (.ins T.bw dx [("group",.ref g),("spokes",.int m),("classes",.ref dc),("ways",.ref dw)]):=ai;generalize upd (upd H3 p (.ins T.bw dx (bD "classes" (.ref dc) [("group",.ref g),("spokes",.int m)]))) p (.ins T.bw dx (bD "ways" (.ref dw) (bD "classes" (.ref dc) [("group",.ref g),("spokes",.int m)])))=H4 at s4 h4;apply gg (K:=K) (p:=dw) (xs:=ys) (by omega) (λd i σ' H' zs=>iU (ag H4 H') (zs.length<=i) (λz=>σ'=[z])) (λd i σ' H' ys z=>(s4.trans z.1).seq (SqL.of hw)) (s4.seq (SqL.of hw))
  (λd i σ' H' ys _ z=>z.2) (λd hd=>⟨ar hd _,Ru _,_,rfl⟩) ?_ ?_
 .rintro d j y σ' H5 zs Rk R0 hd hy ⟨s5,zl,y0,rfl⟩ hd5 hRk ZF;have ZM:=s4.trans s5;obtain⟨S,W,lw⟩:=((al y (Rb hy)).mono ZM).lw (hG.mono ZM) gt m1 Zs;apply⟨g,y,n,e,m,t,S,W,rfl,lw,λdr H6 fdr s6 g6=>?_⟩;refine hRk _ _ _ (s6 _ _ hd5) ⟨λa o za=>by rw[ak (av za hd)];exact s6 _ _ (s5 _ _ za),?_,_,rfl⟩
  rw[Rt];exact Nat.succ_le_succ zl
 intro d σ' H5 zs hd hd5 ⟨s5,_,_,_⟩;apply⟨p,T.bw,dx,_,rfl,s5 _ _ h4,T.ka,T.Cg,(by show 4<1000;decide),?_⟩
 exact q (.ref dc) (.ref d) _ (put (s4.trans s5)) ai
theorem GO{l:Nat}(gt:GT n t e)(h:b9 (bX n t e) l):l<=23:=by
 have:n % l=0:=h.dvd λs hs=>by
  obtain⟨x,hx,rfl⟩:=Rw.mp hs;exact XB (FR gt (Ri.mp hx))
 exact RU (Nat.le_of_dvd gt.pos (SJ this)) gt.le
theorem EO :∃k,b9 (bX n t e) k:=by
 have key:∀k,1<=k->(∀s∈bX n t e,k % s=0)->∃k,b9 (bX n t e) k:=λk=>by
  induction k using X1 with
  | ind k ih =>
   intro h1 h2
   by_cases c:∃j,1<=j/\j<k/\∀s∈bX n t e,j % s=0
   .obtain⟨j,a,b,d⟩:=c;exact ih j b a d
   .exact⟨k,h1,h2,λj a b=>Sm λz=>c ⟨j,a,b,λs hs=>Sm λq=>z ⟨s,hs,q⟩⟩⟩
 exact key (bnd (bX n t e)) (wx λs hs=>by obtain⟨x,hx,rfl⟩:=Rw.mp hs;exact gC) λs hs=>wz hs
inductive EY(C CL CG:Addr)(K:Q7)(vs:Y6)(H:Hp)(Q:VK)(E:XK):Prop
 | mk (g:Addr) (z:V) (n e m l:Nat) (t:AC) (_:vs=[.ref g,z]) (_:aI CG H g n t e) (_:GT n t e) (_:Meta n t) (_:(z=.int m\/(z=.non/\m=l))) (_:b9 (bX n t e) l) (_:m % l=0) (_:0<m) (_:m<=60) (_:∀ (b dx dw:Addr) (c r:V) (ys:Y6) H',ag H H'->H' b=some (.ins C dx (JK g m c (.ref dw) r))->H' dw=some (.lst ys)->ys.length<=23->ys≠[]->(∀y∈ys,lG CL H' g m n e t y)->Q (.ref b) H')
theorem DJ:aH P w K mg base CX0 11 T.mF.f T.mF.fd ["group","spokes"] (EY T.bw T.aA T.aE K):=by
 exists T.mF.ok ur
 obtain⟨g,z,n,e,m,l,t,rfl,hG,gt,me,hz,hl,ZU,m1,Zs,q⟩:=h;have sv:nN n t e z m:=by
  rcases hz with rfl|⟨rfl,rfl⟩
  .k_put
  .exact .inl ⟨rfl,hl⟩
 refine⟨_,(aa (pz 2 ur.nd (pdf T.fq (iV T) hr (paF (pv 0) (pa1 (pv 1)))))
   (ae (ax (oz T.MM (Li T) (hr.mono (by decide)) rfl T.Nz T.NP .nil jL (paF (pv 0) (paF (pv 2) (pa1 (CD (α:=List (YZ)) T.gA (vt T) (hr.mono (by decide)) (by decide) rfl T.fX rfl (pdf T.mP (Eg T) hr (paF (pv 0) (pa1 (pv 2)))))))))))),?_⟩
 apply⟨g,z,n,e,m,t,rfl,hG,gt,sv,λH1 s1=>?_⟩;apply EG ?_;apply⟨g,n,e,m,l,t,rfl,hG.mono s1,gt,me,hl,ZU,m1,Zs,λd H2 ys fd s2 hd2 yl yn al=>?_⟩;k_upd;refine⟨d,ys,λi ks H'=>hX (ag H2 H') (λ(kk:List (Int×List (YZ)))=>Sz (dX K H') ks kk),rfl,SqL.of hd2,by omega,⟨ag.refl _,[],.nil⟩,?_,?_⟩
 .rintro i y ks H3 hy ⟨s3,kk,pr⟩;have Zm:=Zf.trans s3;obtain⟨S,W,lw⟩:=((al y (Rb hy)).mono (dE.trans s3)).lw (hG.mono Zm) gt m1 Zs;exact⟨g,y,n,e,m,t,S,W,rfl,lw,λd4 H4 s4 pa=>⟨s3.trans s4,_,Paired.app (Paired.b5 pr λ_ _ za=>dX.mono s4 za) (.cons pa .nil)⟩⟩
 rintro ks H3 kl ⟨s3,kk,pr⟩;refine⟨kk,pr,λd4 zs fd4 pm=>?_⟩;have s4:=s3.trans (ar fd4 (.lst (zs.map (·.1))));have h4:(upd H3 d4 (.lst (zs.map (·.1)))) d4=some (.lst (zs.map (·.1))):=ai;generalize upd H3 d4 (.lst (zs.map (·.1)))=H4 at s4 h4;have Zo:=Zf.trans s4;have zm:(zs.map (·.1)).Perm ys:=by
  have:=pm.map (·.1)
  rwa[List.map_fst_zip (by rw[<- kl,pr.length];exact Ru _)]at this
 have zl:=zm.length_eq;have za:∀y∈zs.map (·.1),lG T.aA H4 g m n e t y:=λy hy=>(al y (zm.mem_iff.mp hy)).mono (dE.trans s4);have zn:zs.map (·.1)≠[]:=λz0=>yn (by rw[z0]at zm;exact zm.symm.eq_nil)
 generalize zs.map (·.1)=zs at h4 zm zl za zn;fin2;intro x dx fx fdx Zj;have sn:ag H4 (upd (upd H4 dx (.own x)) x (.ins T.bw dx [])):=(ar fdx _).trans (ar (by rw[ak Zj.symm];exact fx) _)
 refine⟨x,dx,g,d4,n,e,m,t,zs,H4,rfl,ai,fx,sn,hG.mono Zo,gt,m1,Zs,h4,by omega,za,λc r H5 s5 h5=>⟨rfl,?_⟩⟩
 exact q x dx d4 c r zs H5 (Zo.trans s5) h5 (s5 _ _ h4) (by omega) zn λy hy=>(za y hy).mono s5
inductive yY(vs:Y6)(H:Hp)(Q:VK)(E:XK):Prop
 | mk (p:Addr) (l:AT) (_:vs=[.ref p]) (_:H p=some (.lst (au l))) (_:Q (.bl true) H)
theorem kh:Fa P w base T.fh 1 yY:=by
 exists T.fh.ok pP
 obtain⟨p,l,rfl,hp,q⟩:=h;refine⟨_,(aa (aK (eR (dA (bK (f7 K rfl) rfl T.eY S4 (paF (pv 0) (pa1 (nG (v:=.ty "list") rfl T.eZ Ss rfl)))))) (ae (ax b6)) aG)
   (aa (pfo (pil K (pv 0)) (pgn 1 pP.nd) (ae (aK (PW.pt (fR (eR (dA (bK (f7 K rfl) rfl T.eY S4 (paF (pv 1) (pa1 (nG (v:=.ty "int") rfl T.OL PyProof.Rows.boot_int rfl)))))) (fg (dA (bK (f7 K rfl) rfl T.eY S4 (paF (pv 1) (pa1 (nG (v:=.ty "bool") rfl T.NF PyProof.Rows.boot_bool rfl)))))))) (ae (ax b6)) aG)))
   (ae (ax b6)))),?_⟩
 fin2;k_ne;apply qK (b:=true) (.lst hp) rfl ?_;apply de ?_;apply dB (α:=Nat) (aW hp) (λi σ H'=>H'=H/\∃x,σ=[R? p,x]) ⟨rfl,_,rfl⟩ (λi σ H' h=>by rw[h.1];exact ag.refl _) ?_ ?_
 .rintro i c w' σ' H' hc hw ⟨rfl,x,rfl⟩;k_exc;fin2;k_ne;apply qK (b:=true) (.int _) rfl ?_;apply de ?_;apply qK (b:=false) (.int _) rfl ?_;apply de ?_;fin2;exact⟨rfl,_,rfl⟩
 .rintro σ' H' ⟨rfl,x,rfl⟩;fin2;exact q
theorem NJ(h:l.Pairwise (· < ·))(hj:j<l.length)(ij:i<j):l.getD i 0<l.getD j 0:=by
 have:=(R7.mp h) i j (U7 ij hj) hj ij
 simpa[V1,hj,U7 ij hj] using this
inductive tM(K:Q7)(vs:Y6)(H:Hp)(Q:VK)(E:XK):Prop
 | mk (v:V) (p:Addr) (n e:Nat) (t:AC) (S:AT) (_:vs=[v,.ref p]) (_:At K H v t) (_:GT n t e) (_:H p=some (.lst (au S))) (_:IsPart n t S) (_:∀H',ag H H'->Q (.bl true) H')
theorem tZ:Fa P w base T.fT 1 (tM K):=by
 exists T.fT.ok fA
 obtain⟨v,p,n,e,t,S,rfl,hT,gt,hp,pt,q⟩:=h;have Zw:=gt.le;have sl:=pt.len;have s1:0<S.length:=RJ.mpr pt.ne;have aS:At K H (.ref p) S:=aW hp;have gS:∀ {i},i<S.length->S[i]?=some (S.getD i 0):=λh=>getD_some 0 h;refine⟨_,(aa (aK (pcm cU (pln K T.bo (pv 1)) aj) (ae (ax b6)) aG)
   (aa (pfo (prg T.aU (pln K T.bo (pv 1))) (pgn 2 fA.nd) (aa (aK (PW.pt (fR (pcm jI (pxl K (pv 1) (pv 2)) aj) (fg (pcm oH (pxl K (pv 1) (pv 2)) (pln K T.bo (pv 0)))))) (ae (ax b6)) aG)
   (ae (aK (PW.pt (gM (pcm iW (pv 2) aj) (iR (pcm oH (pxl K (pv 1) (ao gQ (pv 2) aj)) (pxl K (pv 1) (pv 2)))))) (ae (ax b6)) aG))))
   (aa (pfo (pil K (pv 1)) (pgn 3 fA.nd) (ae (pfo (pil K (pv 1)) (pgn 4 fA.nd) (ae (aK (lE (kg K rfl) (pxl K (pxl K (pv 0) (pv 3)) (pv 4)) (pv 1) (by with_unfolding_all rfl)) (ae (ax b6)) aG)))))
   (ae (ax b6))))),?_⟩
 fin2;k_ne;apply cp aS ?_;apply aV (λz=>absurd z (by omega)) (λ_=>?_)
 apply cp aS ?_;refine bf (n:=S.length) rfl (by omega) (λi σ H'=>wc (ag H H') (λx1 x2 x3=>σ=[some v,R? p,x1,x2,x3])) ⟨ag.refl _,_,_,_,rfl⟩ ?_ ?_
 .rintro i σ' H1 hi ⟨s2,x1,x2,x3,rfl⟩;have aS1:=Rep.mono s2 aS;have hT1:=Rep.mono s2 hT;fin2;k_ne;apply bh aS1 (gS hi) ?_;apply de ?_;apply bh aS1 (gS hi) ?_;apply cp hT1 ?_;fin2;have xn:=pt.lt _ (Rb (gS hi));refine aV (λz=>absurd z (by rw[gt.len];omega)) (λ_=>?_)
  fin2;k_ne;apply aV (λz=>?_) (λ_=>?_)
  .fin2;rw[show ((i:Int) - ((1:Nat):Int))=((i - 1:Nat):Int) by omega]
   refine bh aS1 (gS (i:=i - 1) (by omega)) ?_
   apply bh aS1 (gS hi) ?_;fin2;have:=NJ pt.srt hi (show i - 1<i by omega)
   refine aV (λz=>absurd z (by omega)) (λ_=>?_)
   fin2;exact⟨s2,_,_,_,rfl⟩
  .apply bM (by assumption) ?_
   exact⟨s2,_,_,_,rfl⟩
 .rintro σ' H1 ⟨s2,x1,x2,x3,rfl⟩;have aS1:=Rep.mono s2 aS;have hT1:=Rep.mono s2 hT;apply dB aS1 (λi σ H'=>wc (H1=H') (λx1 x2 x3=>σ=[some v,R? p,x1,x2,x3])) ⟨rfl,_,_,_,rfl⟩ (λi σ' H' z=>by rw[z.1];exact ag.refl _) ?_ ?_
  .rintro i a w' σ' H' ha hw ⟨rfl,x1,x2,x3,rfl⟩;cases(show w'=V.int a from hw);have aP:=Rb ha;apply dB aS1 (λi σ H'=>qT (H1=H') (λx1 x3=>σ=[some v,R? p,x1,I? a,x3])) ⟨rfl,_,_,rfl⟩ (λi σ' H' z=>by rw[z.1];exact ag.refl _) ?_ ?_
   .rintro j b w' σ' H' hb hw ⟨rfl,x1,x3,rfl⟩;cases(show w'=V.int b from hw);have bP:=Rb hb;fin2;k_ne;apply cM hT1 rfl (gt.get (pt.lt a aP)) λw1 Zk=>?_;apply bh Zk (gt.dz (pt.lt a aP) (pt.lt b bP)) ?_;apply r9 aS1 ?_;apply bJ (λz=>absurd (pt.cl a aP b bP) z) (λ_=>?_);fin2;exact⟨rfl,_,_,rfl⟩
   .rintro σ' H' ⟨rfl,x1,x3,rfl⟩;fin2;exact⟨rfl,_,_,_,rfl⟩
  .rintro σ' H' ⟨rfl,x1,x2,x3,rfl⟩;fin2;exact q _ s2
inductive sk(K:Q7)(vs:Y6)(H:Hp)(Q:VK)(E:XK):Prop
 | mk (v:V) (p u:Addr) (n e m:Nat) (t:AC) (S W:AT) (_:vs=[v,.ref p,.ref u,.int m]) (_:At K H v t) (_:GT n t e) (_:H p=some (.lst (au S))) (_:IsPart n t S) (_:H u=some (.lst (au W))) (_:IsW t S W m) (_:0<m) (_:∀H',ag H H'->Q (.bl true) H')
theorem so:Fa P w base T.fI 1 (sk K):=by
 exists T.fI.ok eO
 obtain⟨v,p,u,n,e,m,t,S,W,rfl,hT,gt,hp,pt,hu,hw,m1,q⟩:=h;have nd:=aB pt.srt;refine⟨_,(aa (aK (pcm d9 (pln K T.bo (pv 2)) (pln K T.bo (pv 1))) (ae (ax b6)) aG)
   (aa (pz 4 eO.nd (gD K rfl rfl rfl T.nK rfl T.rF (paF (pv 1) (pa1 (pv 2)))))
   (aa (pfo (pil K (pv 1)) (pgn 5 eO.nd) (aa (aK (PW.pt (fR (pcm jI (bW (bY hr) (pv 4) (pv 5) (λ_ _=>rfl)) aj) (fg (pcm oH (bW (bY hr) (pv 4) (pv 5) (λ_ _=>rfl)) (pv 3))))) (ae (ax b6)) aG)
   (ae (pfo (pil K (pv 1)) (pgn 6 eO.nd) (ae (aK (pcm d9 (bW (bY hr) (pv 4) (pxl K (pxl K (pv 0) (pv 5)) (pv 6)) (λ_ _=>rfl)) (ao aQ (ao aY (bW (bY hr) (pv 4) (pv 5) (λ_ _=>rfl)) (bW (bY hr) (pv 4) (pv 6) (λ_ _=>rfl))) (pv 3))) (ae (ax b6)) aG))))))
   (ae (ax b6))))),?_⟩
 fin2;k_ne;apply cp (α:=Nat) (aW hu) ?_;apply cp (α:=Nat) (aW hp) ?_;apply bJ (λc=>absurd hw.len c) (λ_=>?_);apply iH ?_;apply wU (aW hp) (aW hu) hw.len.symm nd λd hd=>?_;exists hd,(.dK (cI S W)),H,d,s1,k!,(.dK (cI S W)),H1;have r!:∀y∈S,bq (cI S W) (nk y)=some (.int (mkO S W y:Int)):=λy hy=>fB nd (jy hy) (getD_some (l:=W) 0 (by rw[hw.len];exact R6 hy))
 have aS:At K H1 (.ref p) S:=aW (s1 _ _ hp);apply dB aS (λi σ H'=>qT (H1=H') (λx1 x2=>σ=[some v,R? p,R? u,I? m,R? d,x1,x2])) ⟨rfl,_,_,rfl⟩ (λi σ' H' z=>by rw[z.1];exact ag.refl _) ?_ ?_
 .rintro i a w' σ' H' ha t! ⟨rfl,x1,x2,rfl⟩;cases(show w'=V.int a from t!);have aP:=Rb ha;have am:=hw.mlt aP;fin2;k_ne;apply bU ?_;apply cB k! (r! a aP) ?_;apply de ?_;apply bU ?_;apply cB k! (r! a aP) ?_;apply aV (λz=>absurd z (by omega)) (λ_=>?_)
  apply dB aS (λi σ H'=>hX (H1=H') (λx2=>σ=[some v,R? p,R? u,I? m,R? d,I? a,x2])) ⟨rfl,_,rfl⟩ (λi σ' H' z=>by rw[z.1];exact ag.refl _) ?_ ?_
  .rintro j b w' σ' H' hb t! ⟨rfl,x2,rfl⟩;cases(show w'=V.int b from t!);have bP:=Rb hb;fin2;k_ne;apply bU ?_;apply cM (Rep.mono s1 hT) rfl (gt.get (pt.lt a aP)) λw1 Zk=>?_;apply bh Zk (gt.dz (pt.lt a aP) (pt.lt b bP)) ?_;refine cB k! (r! _ (pt.cl a aP b bP)) ?_;apply bU ?_;apply cB k! (r! a aP) ?_;apply bU ?_;apply cB k! (r! b bP) ?_;apply bJ (λc=>absurd (hw.add a aP b bP) c) (λ_=>?_);fin2;exact⟨rfl,_,rfl⟩
  .rintro σ' H' ⟨rfl,x2,rfl⟩;fin2;exact⟨rfl,_,_,rfl⟩
 .rintro σ' H' ⟨rfl,x1,x2,rfl⟩;fin2;exact q _ s1
inductive zu(K:Q7)(vs:Y6)(H:Hp)(Q:VK)(E:XK):Prop
 | mk (p:Addr) (v:V) (r:Y2) (_:vs=[.ref p,v]) (_:ef H p r) (_:At K H v r) (_:r.length<=1000) (_:∀H',ag H H'->Q (.bl true) H')
theorem BR:Fa P w base T.jS 2 (zu K):=by
 exists T.jS.ok qD
 obtain⟨p,v,r,rfl,hp,hv,hl,q⟩:=h;obtain⟨qs,h1,h2,h3⟩:=id hp;have aF:At K H (.ref p) r:=hp.at;refine⟨_,(aa (aK (PW.pt (fR (eR (dA (bK (f7 K rfl) rfl T.eY S4 (paF (pv 0) (pa1 (nG (v:=.ty "list") rfl T.eZ Ss rfl)))))) (fg (pcm d9 (pln K T.bo (pv 0)) (pln K T.bo (pv 1)))))) (ae (ax b6)) aG)
   (aa (pfo (prg T.aU (pln K T.bo (pv 1))) (pgn 2 qD.nd) (aa (aK (PW.pt (fR (eR (dA (bK (f7 K rfl) rfl T.eY S4 (paF (pxl K (pv 0) (pv 2)) (pa1 (nG (v:=.ty "tuple") rfl T.KW PyProof.Rows.boot_tuple rfl)))))) (fg (pcm d9 (pln K T.bo (pxl K (pv 0) (pv 2))) aj)))) (ae (ax b6)) aG)
   (ae (aK (PW.pt (fR (eR (dA (pdf T.fh (kh T) hr (pa1 (cb (eK K rfl) rfl T.eZ Ss (pa1 (pxl K (pv 0) (pv 2)))))))) (fg (pcm (Lg K rfl Nat Nat hr.units) (pxl K (pv 0) (pv 2)) (pxl K (pv 1) (pv 2)))))) (ae (ax b6)) aG))))
   (ae (ax b6)))),?_⟩
 fin2;k_ne;apply qK (b:=true) (.lst h1) rfl ?_;apply de ?_;apply cp aF ?_;apply cp hv ?_;k_not;apply cp hv ?_;refine bf (n:=r.length) rfl (by omega) (λi σ H'=>hX (ag H H') (λx1=>σ=[R? p,some v,x1])) ⟨ag.refl _,_,rfl⟩ ?_ ?_
 .rintro i σ' H1 hi ⟨s1,x1,rfl⟩;have ri:r[i]?=some r[i]:=Q8 hi;have hq:qs[i]?=some (qs[i]'(by omega)):=Q8 (by omega)
  have ht:=s1 _ _ (h3 i _ _ hq ri);have hS:SqL K H1 p (qs.map V.ref):=SqL.of (s1 _ _ h1);have ix:∀ {Q':VK},Q' (.ref (qs[i]'(by omega))) H1->lF K (.ref p) (.int i) H1 Q':=λz=>⟨p,_,_,_,rfl,rfl,hS,eS (by rw[Ro,hq];rfl),z⟩
  generalize qs[i]'(by omega)=q1 at ht ix hq
  generalize r[i]=y at ht ri;obtain⟨y1,y2⟩:=y;fin2;k_ne;apply ix ?_;refine qK (b:=true) (.tup ht) rfl ?_;apply de ?_;apply ix ?_;refine ML ht ?_;k_not;fin2;k_ne;apply ix ?_;refine⟨q1,_,rfl,.inr (SqT.of ht),λdl hdl=>?_⟩;have s2:=ar hdl (.lst [.int y1,.int y2]);apply⟨dl,[y1,y2],rfl,ai,?_⟩;apply de ?_;apply⟨p,_,_,_,rfl,rfl,s2.seq hS,eS (by rw[Ro,hq];rfl),?_⟩
  apply cM (Rep.mono (s1.trans s2) hv) rfl ri λw1 Zk=>?_;refine OX (CO (s2 _ _ ht)) Zk ?_;k_not;fin2;exact⟨s1.trans s2,_,rfl⟩
 .rintro σ' H1 ⟨s1,x1,rfl⟩;fin2;exact q _ s1
end
section
variable {P:RB}{w:World} 
inductive DH{α0 α1:Type}(A0:Prop)(A1:α0->α1->Prop)(A2:α0->α1->Prop)(A3:α0->α1->Prop)(A4:α0->α1->Prop)(A5:α0->α1->Prop):Prop|mk (_:A0) (x0:α0) (x1:α1) (_:A1 x0 x1) (_:A2 x0 x1) (_:A3 x0 x1) (_:A4 x0 x1) (_:A5 x0 x1)
noncomputable def SD(n:Nat)(t:AC)(e:Nat)(S:AT)(kvs:Y1)(p:Nat->Prop):Prop:=∀y,y<n->(p y->bq kvs (nk y)=some (.int (hm n t e S y:Int)))/\(¬ p y->bq kvs (nk y)=none)
section
variable {kvs:Y1}{p q:Nat->Prop}
theorem SD.iff(h:SD n t e S kvs p)(i:∀y,y<n->(p y↔q y)):SD n t e S kvs q:=λy hy=>⟨λz=>(h y hy).1 ((i y hy).mpr z),λz=>(h y hy).2 λu=>z ((i y hy).mp u)⟩
theorem SD.put(h:SD n t e S kvs p){y0:Nat}{v:V}(hv:v=.int (hm n t e S y0:Int)):SD n t e S (putK kvs (nk y0) v) (λy=>p y\/y=y0):=λy hy=>by
 rw[zK,hv]
 by_cases c:nk y=nk y0
 .rw[if_pos c,gK c];exact⟨λ_=>rfl,λz=>absurd (.inr rfl) z⟩
 .rw[if_neg c];exact⟨λz=>(h y hy).1 (z.resolve_right λu=>c (by rw[u])),λz=>(h y hy).2 λu=>z (.inl u)⟩
noncomputable def inS(n:Nat)(t:AC)(e:Nat)(S:AT)(i y:Nat):Prop:=∃c,c∈bH n t e S i/\tb t (az n t e c) y∈S
theorem Dy(hi:inS n t e S i i):bH n t e S (i+1)=bH n t e S i:=by
 obtain⟨c,hc,h⟩:=hi;rw[nj,if_neg];intro z;unfold nX at z;exact of_decide_eq_true z c (oa.mp hc).1 h
theorem LC(g:GT n t e)(pt:IsPart n t S)(hn:i<n)(hi:¬ inS n t e S i i):bH n t e S (i+1)=bH n t e S i++[i]/\∀k,i<k->(bH n t e S k)[(bH n t e S i).length]?=some i:=by
 obtain⟨c,hc,h⟩:=vU g pt i hn;have ci:c=i:=by
  rcases Rz c i with z|z
  .exact absurd ⟨c,oa.mpr ⟨z,(eN.mp hc).2⟩,h⟩ hi
  .exact Nat.le_antisymm (Ko g pt hn hc h) z
 subst ci;have e1:bH n t e S (c+1)=bH n t e S c++[c]:=by
  rw[nj,if_pos];unfold nX;exact decide_eq_true (eN.mp hc).2
 refine⟨e1,λk hk=>?_⟩
 induction hk with
 | refl=>rw[e1,RK (Ru _),WC];rfl
 | step _ ih =>
  rw[nj]
  split
  .rw[RI (Q9.mp ih).1];exact ih
  .exact ih
theorem ints_snoc :au l++[V.int x]=au (l++[x]):=by unfold au;rw[R3];rfl
end
theorem Jg{a:Addr}{x:Nat×Nat}(h:ef H p r)(hl:r.length<=1000)(ha:H a=some (.tup [.int (x.1:Int),.int (x.2:Int)]))(q:∀H',ef H' p (r++[x])->(∀b o,b≠p->H b=some o->H' b=some o)->Q .non H'):jB (.ref p) [.ref a] H Q:=by
 obtain⟨qs,h1,h2,h3⟩:=h;refine⟨p,_,_,rfl,rfl,h1,Sf (show (qs.map V.ref).length<=1000 by rw[Rc,h2];exact hl) (by rw[RO];decide),?_⟩
 have ne:∀ {b:Addr} {ys:Y6},H b=some (.tup ys)->b≠p:=λz e=>by rw[e,h1]at z;cases z
 refine q _ ⟨qs++[a],by rw[ai,R3];rfl,by rw[Rt,Rt,h2];rfl,λi b y hi hy=>?_⟩ λb o hb z=>by rw[ak hb];exact z
 rcases dZ hi with ⟨z1,z2⟩|⟨z1,z2⟩
 .rw[RI (by rw[<- h2];exact(Q9.mp z2).1)]at hy
  have:=h3 i b y z2 hy;rw[ak (ne this)];o_rec
 .subst z2;rw[z1,h2,RK (Ru _),WC]at hy;cases hy;rw[ak (ne ha)];exact ha
noncomputable def Dn(H:Hp)(d:Addr)(D:List (Y2)):Prop:=∃ps:Y9,H d=some (.lst (ps.map V.ref))/\ps.length=D.length/\(∀p∈ps,p≠d)/\∀ (i:Nat) (p:Addr) (r:Y2),ps[i]?=some p->D[i]?=some r->ef H p r
theorem Dn.mono(s:ag H H')(h:Dn H d D):Dn H' d D:=by
 obtain⟨ps,h1,h2,h3,h4⟩:=h;exact⟨ps,s _ _ h1,h2,h3,λi p r a b=>(h4 i p r a b).mono s⟩
theorem Nw(h:Dn H d D)(hl:D.length<=1000)(hp:ef H p r)(np:p≠d)(q:∀H',Dn H' d (D++[r])->(∀b o,b≠d->H b=some o->H' b=some o)->Q .non H'):jB (.ref d) [.ref p] H Q:=by
 obtain⟨ps,h1,h2,h3,h4⟩:=h;refine⟨d,_,_,rfl,rfl,h1,Sf (show (ps.map V.ref).length<=1000 by rw[Rc,h2];exact hl) (by rw[RO];decide),?_⟩
 refine q _ ⟨ps++[p],by rw[ai,R3];rfl,by rw[Rt,Rt,h2];rfl,λb hb=>?_,λi b y hi hy=>?_⟩ λb o hb z=>by rw[ak hb];exact z
 .rcases Rq.mp hb with z|z
  .exact h3 b z
  .rw[Rj.mp z];exact np
 rcases dZ hi with ⟨z1,z2⟩|⟨z1,z2⟩
 .rw[RI (by rw[<- h2];exact(Q9.mp z2).1)]at hy
  exact(h4 i b y z2 hy).keep h1 (h3 b (Rb z2))
 .subst z2;rw[z1,h2,RK (Ru _),WC]at hy;cases hy;exact hp.keep h1 np
inductive El(vs:Y6)(H:Hp)(Q:VK)(E:XK):Prop
 | mk (d p u:Addr) (n e:Nat) (t:AC) (ps:Y9) (S W:AT) (_:vs=[.ref d,.ref p,.ref u]) (_:Tbl H d t ps) (_:GT n t e) (_:H p=some (.lst (au S))) (_:IsPart n t S) (_:H u=some (.lst (au W))) (_:W.length=S.length) (_:∀dd H',ag H H'->Dn H' dd (dk n t e S W)->Q (.ref dd) H')
theorem Fi:Fa P w base T.mM 1 El:=by
 exists T.mM.ok cJ
 obtain⟨d,p,u,n,e,t,ps,S,W,rfl,tb0,gt,hp,pt,hu,wl,q⟩:=h;have Zw:=gt.le;have sl:=pt.len;have nd:=aB pt.srt;have cl:∀i,i<=n->(bH n t e S i).length<=23:=λi hi=>RU (iy _ i) (by omega)
 refine⟨_,(aa (pz 3 cJ.nd mj)
   (aa (pz 4 cJ.nd (bg bZ))
   (aa (pfo (prg T.aU (pln K T.bo (pv 0))) (pgn 5 cJ.nd) (ae (aK (nV (qj (bY hr) (pv 5) (pv 3))) (aa (aZ (pap K (pv 4) (pv 5)))
   (ae (pfo (pil K (pv 1)) (pgn 6 cJ.nd) (ae (lC (bY hr) (pv 3) (pxl K (pxl K (pv 0) (pv 5)) (pv 6)) (ao gQ (pln K T.bo (pv 4)) aj) rfl))))) aG)))
   (aa (pz 7 cJ.nd (gD K rfl rfl rfl T.nK rfl T.rF (paF (pv 1) (pa1 (pv 2)))))
   (aa (pz 8 cJ.nd (bg bZ))
   (aa (pfo (prg T.aU (pln K T.bo (pv 0))) (pgn 9 cJ.nd) (aa (pz 10 cJ.nd (bg bZ))
   (aa (pfo (pil K (pv 4)) (pgn 5 cJ.nd) (aa (pz 11 cJ.nd (pxl K (pxl K (pv 0) (pv 9)) (pv 5)))
   (aa (pz 12 cJ.nd (pxl K (pv 4) (bW (bY hr) (pv 3) (pv 11) (λ_ _=>rfl))))
   (ae (aZ (pap K (pv 10) (gP (paF (bW (bY hr) (pv 3) (pv 11) (λ_ _=>rfl)) (pa1 (bW (bY hr) (pv 7) (qR K rfl TK Xf PySem.F.type_list_index HJ (pxl K (pv 0) (pv 12)) (pa1 (pv 11))) (λ_ _=>rfl)))))))))))
   (ae (aZ (pap K (pv 8) (pv 10)))))))
   (ae (ax (pv 8))))))))),?_⟩
 apply rC λds n!=>?_;exists n!,(.dK []),H,ds,s1,w1,(.dK []),H1;apply cK ?_;apply⟨sB,λdc hdc=>?_⟩
 have s2:=s1.trans (ar hdc (.lst []));have w2:=ar hdc (.lst []) _ _ w1;have c2:(upd H1 dc (.lst [])) dc=some (.lst (au (bH n t e S 0))):=ai;have fdc:H dc=none:=s1.free hdc;generalize upd H1 dc (.lst [])=H2 at s2 w2 c2 ⊢;apply cp (tb0.mono s2).at ?_;rw[gt.len];refine bf (n:=n) rfl (by omega) (λi σ' H'=>B4 (ag H H') (λkvs (_ _:Z4)=>H' ds=some (.dK kvs)) (λkvs _ _=>kvs.length<=i * 23) (λkvs _ _=>SD n t e S kvs (inS n t e S i)) (λ_ _ _=>H' dc=some (.lst (au (bH n t e S i)))) (λ_ x5 x6=>σ'=[R? d,R? p,R? u,R? ds,R? dc,x5,x6,none,none,none,none,none,none])) ⟨s2,[],_,_,w2,R5 _,λy _=>⟨(λ⟨c,hc,_⟩=>nomatch hc),λ_=>rfl⟩,c2,rfl⟩ ?_ ?_
 .rintro i σ' H3 hi ⟨s3,kvs,x5,x6,w3,kl,sd,c3,rfl⟩;fin2;k_ne;apply qB ?_;apply tX w3 ?_
  by_cases c:inS n t e S i i
  .rw[(sd i hi).1 c];apply de ?_;fin2;exact⟨s3,kvs,_,_,w3,by omega,sd.iff λy _=>by unfold inS;rw[Dy c],by rw[Dy c];exact c3,rfl⟩
  .rw[(sd i hi).2 c];obtain⟨cn,cg⟩:=LC gt pt hi c;have cl1:=cl i (by omega)
   apply vX ?_;apply⟨.inl ⟨rfl,_,SqL.of c3⟩,?_⟩;apply⟨dc,_,_,rfl,rfl,c3,Sf (show (au (bH n t e S i)).length<=1000 by unfold au;rw[Rc];omega) (by rw[RO];decide),?_⟩
   rw[ints_snoc,<- cn];have s4:ag H (upd H3 dc (.lst (au (bH n t e S (i+1))))):=λa o z=>by rw[ak (av z fdc)];exact s3 _ _ z
   have w4:(upd H3 dc (.lst (au (bH n t e S (i+1))))) ds=some (.dK kvs):=by rw[ak λz=>by rw[z,c3]at w3;cases w3];exact w3
   have c4:(upd H3 dc (.lst (au (bH n t e S (i+1))))) dc=some (.lst (au (bH n t e S (i+1)))):=ai;generalize upd H3 dc (.lst (au (bH n t e S (i+1))))=H4 at s4 w4 c4 ⊢;apply dY (H₀:=H) (α:=Nat) (aW hp) (λk σ' H'=>DH (ag H H') (λkvs (_:Z4)=>H' ds=some (.dK kvs)) (λkvs _=>kvs.length<=i * 23+k) (λkvs _=>SD n t e S kvs (λy=>inS n t e S i y\/∃j h,j<k/\S[j]?=some h/\y=tb t i h)) (λ_ _=>H' dc=some (.lst (au (bH n t e S (i+1))))) (λ_ x6=>σ'=[R? d,R? p,R? u,R? ds,R? dc,I? i,x6,none,none,none,none,none,none])) ⟨s4,kvs,_,w4,kl,sd.iff λy _=>⟨.inl,λz=>z.elim id λ⟨j,_,z,_⟩=>absurd z (UB _)⟩,c4,rfl⟩ (λk σ' H' z=>z.1) ?_ ?_
   .rintro k h w' σ' H5 hk hw ⟨s5,kv5,x6,w5,kl5,sd5,c5,rfl⟩;cases(show w'=V.int h from hw);have hS:=Rb hk;have hn:=pt.lt h hS;have hle:=(Q9.mp hk).1;have yn:=gt.lt i h hi hn;have hme:hm n t e S (tb t i h)=(bH n t e S i).length:=Ee gt pt yn (cg n hi) ((dS gt pt hi yn).mpr ⟨h,hS,rfl⟩);have l7:=gJ kv5 (nk (tb t i h)) (V.int (((bH n t e S (i+1)).length:Int) - ((1:Nat):Int)));apply lA ?_;apply cp (α:=Nat) (aW c5) ?_;apply cM (tb0.mono s5).at rfl (gt.get hi) λw1 Zk=>?_;apply bh Zk (gt.dz hi hn) ?_;refine nD w5 (by omega) ?_
    w_up
    refine⟨λa o z=>by rw[ak (av z n!)];exact s5 _ _ z,_,_,ai,by omega,(sd5.put (y0:=tb t i h) (by rw[hme,cn,Rt];show V.int (((_+1:Nat):Int) - _)=_;congr 1;omega)).iff λy _=>?_,by rw[ak λz=>by rw[z,w5]at c5;cases c5];exact c5,rfl⟩
    constructor
    .rintro ((z|⟨j,h',z1,z2,z3⟩)|z)
     .exact .inl z
     .exact .inr ⟨j,h',Sw z1,z2,z3⟩
     .exact .inr ⟨k,h,Tt _,hk,z⟩
    .rintro (z|⟨j,h',z1,z2,z3⟩)
     .exact .inl (.inl z)
     .rcases Nat.lt_succ_iff_lt_or_eq.mp z1 with y1|y1
      .exact .inl (.inr ⟨j,h',y1,z2,z3⟩)
      .subst y1;rw[hk]at z2;cases z2;exact .inr z3
   .rintro σ' H5 ⟨s5,kv5,x6,w5,kl5,sd5,c5,rfl⟩;apply⟨s5,kv5,_,_,w5,by omega,sd5.iff λy hy=>?_,c5,rfl⟩
    unfold inS;rw[cn];constructor
    .rintro (⟨c',z1,z2⟩|⟨j,h,z1,z2,z3⟩)
     .exact⟨c',SM _ z1,z2⟩
     .exact⟨i,RX _ Rr,(dS gt pt hi hy).mpr ⟨h,Rb z2,z3.symm⟩⟩
    .rintro⟨c',z1,z2⟩;rcases Rq.mp z1 with z|z
     .exact .inl ⟨c',z,z2⟩
     .rw[Rj.mp z]at z2;obtain⟨h,y1,y2⟩:=(dS gt pt hi hy).mp z2;obtain⟨j,hj⟩:=RD y1;exact .inr ⟨j,h,(Q9.mp hj).1,hj,y2.symm⟩
 .rintro σ' H3 ⟨s3,kvs,x5,x6,w3,kl,sd,c3,rfl⟩;have sg:∀x,x<n->bq kvs (nk x)=some (.int (hm n t e S x:Int)):=λx hx=>(sd x hx).1 (vU gt pt x hx);have c3':H3 dc=some (.lst (au (bI n t e S))):=c3;have cl:=ju (n:=n) (t:=t) (e:=e) (R:=S);apply iH ?_;apply wU (aW (s3 _ _ hp)) (aW (s3 _ _ hu)) wl.symm nd λdm hdm=>?_;have s4:=ar hdm (.dK (cI S W));have ZT:upd H3 dm (.dK (cI S W)) dm=some (.dK (cI S W)):=ai;have Zo:=s3.trans s4;have w4:=s4 _ _ w3;have c4:=s4 _ _ c3';have tb4:=tb0.mono Zo;generalize upd H3 dm (.dK (cI S W))=H4 at s4 ZT Zo w4 c4 tb4 ⊢;have r!:∀y∈S,bq (cI S W) (nk y)=some (.int ((W.getD (S.idxOf y) 0:Nat):Int)):=λy hy=>fB nd (jy hy) (getD_some (l:=W) 0 (by rw[wl];exact R6 hy))
  clear c3 c3' w3 sd
  apply cK ?_;apply⟨sB,λdv hdv=>?_⟩
  have s5:=ar hdv (.lst []);have h5:Dn (upd H4 dv (.lst [])) dv ((dk n t e S W).take 0):=⟨[],ai,rfl,(λp hp=>nomatch hp),λi p r z=>by simp at z⟩
  generalize upd H4 dv (.lst [])=H5 at s5 h5 ⊢;apply cp (tb4.mono s5).at ?_;rw[gt.len];refine bf (n:=n) rfl (by omega) (λi σ' H'=>xc (ag H4 H') (Dn H' dv ((dk n t e S W).take i)) (λx5 x9 Zu x1=>∃x2,σ'=[R? d,R? p,R? u,R? ds,R? dc,x5,x6,R? dm,R? dv,x9,Zu,x1,x2])) ⟨s5,h5,_,_,_,_,_,rfl⟩ ?_ ?_
  .rintro a σ' H6 ha ⟨s6,dn6,x5,x9,Zu,x1,x2,rfl⟩;apply cK ?_;apply⟨sB,λpr hpr=>?_⟩
   have s7:=ar hpr (.lst []);have h7:ef (upd H6 pr (.lst [])) pr (((bI n t e S).map λc=>(hm n t e S (tb t a c),W.getD (S.idxOf (ov n t e S (tb t a c))) 0)).take 0):=⟨[],ai,rfl,λi p r z=>by simp at z⟩
   generalize upd H6 pr (.lst [])=H7 at s7 h7 ⊢;apply dY (H₀:=H6) (α:=Nat) (aW (s6 _ _ c4)) (λj σ' H'=>tF (ag H6 H') (ef H' pr (((bI n t e S).map λc=>(hm n t e S (tb t a c),W.getD (S.idxOf (ov n t e S (tb t a c))) 0)).take j)) (λx5 x1 x2=>σ'=[R? d,R? p,R? u,R? ds,R? dc,x5,x6,R? dm,R? dv,I? a,R? pr,x1,x2])) ⟨s7,h7,_,_,_,rfl⟩ (λj σ' H' z=>z.1) ?_ ?_
   .rintro j c w' σ' H8 hc hw ⟨s8,r8,x5,x1,x2,rfl⟩;k_exc;have cn:=dG (Rb hc);have jl:=(Q9.mp hc).1;have s48:=s6.trans s8;have tb8:=tb4.mono s48;have xn:=gt.lt a c ha cn;have tk:(((bI n t e S).map λc=>(hm n t e S (tb t a c),W.getD (S.idxOf (ov n t e S (tb t a c))) 0)).take (j+1))=(((bI n t e S).map λc=>(hm n t e S (tb t a c),W.getD (S.idxOf (ov n t e S (tb t a c))) 0)).take j)++[(hm n t e S (tb t a c),W.getD (S.idxOf (ov n t e S (tb t a c))) 0)]:=by
     rw[RM,Ro,hc];rfl
    apply cM tb8.at rfl (gt.get ha) λw1 Zk=>?_;apply bh Zk (gt.dz ha cn) ?_;generalize tb t a c=x at xn tk;obtain⟨c2,k2,a1,a2,a3,a4⟩:=zt gt pt xn;have c2n:=dG (Rb a1);have oS:=Rb a2;have on:=pt.lt _ oS;have w8:=s48 _ _ w4;apply bU ?_;apply cB w8 (sg x xn) ?_;refine bh (aW (s48 _ _ c4)) a1 ?_;obtain⟨qs,hr1,hr2,hr3⟩:=id r8;apply⟨.inl ⟨rfl,_,SqL.of hr1⟩,?_⟩;apply iX ?_;apply bU ?_;apply cB w8 (sg x xn) ?_;apply bU ?_;fin2;have pl:c2<ps.length:=by rw[tb8.len,gt.len];exact c2n
    have Zt:=tb8.row c2 _ _ (Q8 pl) (gt.get c2n);refine⟨d,_,_,.ref ps[c2],rfl,rfl,SqL.of tb8.top,eS (by rw[Ro,Q8 pl];rfl),?_⟩
    apply⟨.inl ⟨rfl,_,SqL.of Zt⟩,?_⟩;apply LI Zt (j:=ov n t e S x) (by rw[gt.dz c2n on,a4]) (λi hi z=>?_) ?_
    .rw[gt.dz c2n (by omega)]at z
     have:=gt.dC c2n (by omega) on ((RW z).trans a4.symm)
     omega
    refine cB (s48 _ _ ZT) (r! _ oS) ?_;apply⟨Sc,λpa A!=>?_⟩
    exists A!,(.tup [.int ((hm n t e S x:Nat):Int),.int ((W.getD (S.idxOf (ov n t e S x)) 0:Nat):Int)]),H8,pa,s9,h9,(.tup [.int (((hm n t e S x,W.getD (S.idxOf (ov n t e S x)) 0):Nat×Nat).1:Int),.int (((hm n t e S x,W.getD (S.idxOf (ov n t e S x)) 0):Nat×Nat).2:Int)]),H9;apply Jg (r8.mono s9) (by rw[RG];omega) h9 λHx rx kx=>?_
    w_up
    exact⟨λb o z=>kx b o (av z hpr) (s9 _ _ (s8 _ _ z)),by rw[tk];exact rx,_,_,_,rfl⟩
   .rintro σ' H8 ⟨s8,r8,x5,x1,x2,rfl⟩;rw[RQ (by rw[Rc];exact Ru _)]at r8
    obtain⟨qs,hq,_⟩:=id dn6;have npr:pr≠dv:=(bF hq hpr).symm;apply⟨.inl ⟨rfl,_,SqL.of (s8 _ _ hq)⟩,?_⟩;apply Nw (dn6.mono s8) (by rw[RG];omega) r8 npr λHx dx kx=>?_
    w_up
    refine⟨λb o z=>kx b o (av z hdv) (s8 _ _ (s6 _ _ z)),?_,_,_,_,_,_,rfl⟩;rw[RM,ft ha];exact dx
  .rintro σ' H6 ⟨s6,dn6,x5,x9,Zu,x1,x2,rfl⟩;rw[RQ (by unfold dk;rw[Rc,RP];exact Ru _)]at dn6
   fin2;exact q dv H6 (Zo.trans s6) dn6
end
section
variable {P:RB}{w:World} 
inductive Cv(C CG:Addr)(vs:Y6)(H:Hp)(Q:VK)(E:XK):Prop
 | mk (d g:Addr) (y:V) (n e m:Nat) (t:AC) (ps:Y9) (S W:AT) (_:vs=[.ref d,y,.int m]) (_:Tbl H d t ps) (_:Fc C CG H g m n e t y S W) (_:∀H',ag H H'->Q (.bl true) H')
theorem CI:Fa P w base T.lu 3 (Cv T.aA T.aE):=by
 exists T.lu.ok nh
 obtain⟨d,g,y,n,e,m,t,ps,S,W,rfl,tb0,⟨H0,hG,gt,m1,Zs,pt,hw,p,dx,dd,pa,ma,rfl,_,hp,A!,hma,hD⟩,q⟩:=h;obtain⟨gx,gr,gb,hg,aR,_⟩:=aI.get (K:=K) hG;have n1:=gt.pos;have Zw:=gt.le;have cl:=ju (n:=n) (t:=t) (e:=e) (R:=S);refine⟨_,(aa (aK (PW.pt (fR (eR (dA (bK (Bd K rfl) rfl T.eY S4 (paF (pv 1) (pa1 (wB (v:=.ref T.aA) rfl T.AN rfl)))))) (fR (pcm (C0 K rfl AT hr.units) (pfl K (pfl K (pv 1))) (pv 0)) (fg (pcm d9 (pfl K (pv 1)) (pv 2)))))) (ae (ax b6)) aG)
   (aa (aK (PW.pt (fR (eR (dA (pdf T.fh (kh T) hr (pa1 (pfl K (pv 1)))))) (fg (eR (dA (pdf T.fh (kh T) hr (pa1 (pfl K (pv 1))))))))) (ae (ax b6)) aG)
   (aa (aK (PW.pt (fR (eR (dA (pdf T.fT (tZ T) hr (paF (pv 0) (pa1 (pfl K (pv 1))))))) (fg (eR (dA (pdf T.fI (so T) hr (paF (pv 0) (paF (pfl K (pv 1)) (paF (pfl K (pv 1)) (pa1 (pv 2))))))))))) (ae (ax b6)) aG)
   (aa (pz 3 nh.nd (pdf T.mM (Fi T) hr (paF (pv 0) (paF (pfl K (pv 1)) (pa1 (pfl K (pv 1)))))))
   (aa (aK (pcm d9 (pfl K (pv 1)) (pln K T.bo (pxl K (pv 3) aj))) (ae (ax b6)) aG)
   (aa (pfo (prg T.aU (pln K T.bo (pv 0))) (pgn 4 nh.nd) (ae (aK (eR (dA (pdf T.jS (BR T) hr (paF (oX (pv 1) T.cP T.wQ (Bz T) (hr.mono (by decide)) T.BS (pa1 (pv 4))) (pa1 (pxl K (pv 3) (pv 4))))))) (ae (ax b6)) aG)))
   (ae (ax b6)))))))),?_⟩
 fin2;k_ne;apply KY (.ins hp T.cP T.Qf T.w_get T.Qj T.P5) T.OU ?_;apply de ?_;apply Af T hp ?_;apply bO T hg ?_;apply JT aR tb0.at ?_;k_not;apply rq T hp ?_;k_not;fin2;k_ne;apply rW T hp ?_;apply⟨pa,S,rfl,A!,?_⟩;apply de ?_;apply sZ T hp ?_;apply⟨ma,W,rfl,hma,?_⟩;apply de ?_;fin2;k_ne;apply rW T hp ?_;apply⟨_,pa,n,e,t,S,rfl,tb0.at,gt,A!,pt,λH1 s1=>?_⟩;apply de ?_;apply rW T (s1 _ _ hp) ?_;apply sZ T (s1 _ _ hp) ?_;apply⟨_,pa,ma,n,e,m,t,S,W,rfl,(tb0.mono s1).at,gt,s1 _ _ A!,pt,s1 _ _ hma,hw,m1,λH2 s2=>?_⟩;k_upd;apply de ?_;apply rW T (Zf _ _ hp) ?_;apply sZ T (Zf _ _ hp) ?_;apply⟨d,pa,ma,n,e,t,ps,S,W,rfl,tb0.mono Zf,gt,Zf _ _ A!,pt,Zf _ _ hma,hw.len,λdv H3 s3 dn=>?_⟩;have Zm:=Zf.trans s3;obtain⟨qs,d1,d2,_,d3⟩:=dn;have aD:At K H3 (.ref dv) (dk n t e S W):=dD.at ⟨qs,d1,d2,d3⟩;fin2;k_ne;apply Dg T (Zm _ _ hp) ?_;apply cM (n:=0) aD rfl (ft n1) λw1 Zk=>?_;apply cp Zk ?_;rw[Rc];k_not
 apply cp (tb0.mono Zm).at ?_;rw[gt.len];refine bf (n:=n) rfl (by omega) (λi σ' H'=>hX (ag H3 H') (λx4=>σ'=[R? d,R? p,I? m,R? dv,x4])) ⟨ag.refl _,_,rfl⟩ ?_ ?_
 .rintro a σ' H4 ha ⟨s4,x4,rfl⟩;have Zo:=Zm.trans s4;fin2;k_ne;apply uw ?_;apply⟨p,dx,_,rfl,Zo _ _ hp,rfl,?_⟩;apply⟨p,g,a,m,_,_,_,rfl,⟨dx,dd,pa,ma,Zo _ _ hp,hD.mono Zo⟩,ft ha,λpm H5 _ s5 r5=>?_⟩;apply cM (Rep.mono (s4.trans s5) aD) rfl (ft ha) λw2 Y'=>?_;apply⟨pm,w2,_,rfl,r5,Y',by rw[Rc];omega,λH6 s6=>?_⟩
  apply de ?_;fin2;exact⟨s4.trans (s5.trans s6),_,rfl⟩
 .rintro σ' H4 ⟨s4,x4,rfl⟩;fin2;exact q _ (Zm.trans s4)
noncomputable def zo(K:Q7):Sp:=λvs H Q _=>∃ (a:Addr) (ns:YZ),vs=[.ref a]/\SqL K H a (ns.map V.int)/\ns.length<=63/\∀H',Q (.bl true) H'
theorem Nd:Fa P w base T.rR 12 (zo K):=by
 refine T.rR.ok uH (λvs H Q E h=>?_) (λcdv A outer s H vs Q E hr h=>?_)
 .obtain⟨a,ns,rfl,_⟩:=h;rfl
 obtain⟨a,ns,rfl,hS,h63,q⟩:=h;have hA:=Ku hS;refine⟨_,(aa (pz 1 uH.nd (pdf T.jJ (BQ T) hr (paF (pv 0) (pa1 aj))))
   (aa (pz 2 uH.nd (P6 T.mF (DJ T) (hr.mono (by decide)) rfl (pa1 (pdf T.lj (Cm T) hr (pa1 (bL rfl zQ (pil K (pv 1)) (λ_ _ _ _=>⟨(pgn 0 zQ.nd),bz,(cb (eK K rfl) rfl T.eZ Ss (pa1 (pv 0)))⟩)))))))
   (aa (pfo (pil K (pfl K (pv 2))) (pgn 3 uH.nd) (ae (aK (eR (dA (pdf T.lu (CI T) hr (paF (pv 1) (paF (pv 3) (pa1 (pfl K (pv 2)))))))) (ae (ax b6)) aG)))
   (ae (ax (iO iW (pln K T.bo (pfl K (pv 2))) aj (iT _))))))),?_⟩
 apply⟨_,ns,0,rfl,hA,λd1 H1 n t e ps1 s1 gt M tb1 _ _=>?_⟩;have Zw:=gt.le;obtain⟨m,hm⟩:=EO (n:=n) (t:=t) (e:=e);have m23:=GO gt hm;apply LU ?_;apply oV (K:=K) tb1.at (by rw[gt.len];omega) λdh H2 psh s2 _ _ tbh=>?_
 apply⟨_,n,e,t,rfl,tbh.at,gt,λg H3 _ s3 hg0=>?_⟩;have hg:=aI.mono HA hg0;have e!:=tb1.mono (s2.trans s3);apply⟨g,.non,n,e,m,m,t,rfl,hg,gt,M,.inr ⟨rfl,rfl⟩,hm,Vv _,hm.pos,by omega,λb dx dw c r ys H4 s4 hb hw yl yn al=>?_⟩
 have tb4:=e!.mono s4;have hg4:=hg.mono s4;apply⟨b,T.bw,dx,_,_,rfl,hb,T.ka,T.nq,rfl,?_⟩;apply Al (xs:=ys) (λi σ' H'=>hX (ag H4 H') (λx3=>σ'=[R? a,R? d1,R? b,x3])) ⟨ag.refl _,_,rfl⟩ (λi σ' H' z=>z.1.seq (SqL.of hw)) ?_ ?_
 .rintro i y σ' H5 hy ⟨s5,x3,rfl⟩;obtain⟨S,W,lw⟩:=((al y (Rb hy)).mono s5).lw (hg4.mono s5) gt hm.pos (by omega)
  fin2;k_ne;apply⟨b,T.bw,dx,_,_,rfl,s5 _ _ hb,T.ka,T.pM,rfl,?_⟩;apply⟨d1,g,y,n,e,m,t,ps1,S,W,rfl,tb4.mono s5,lw,λH6 s6=>?_⟩;apply de ?_;fin2;exact⟨s5.trans s6,_,rfl⟩
 .rintro σ' H5 ⟨s5,x3,rfl⟩;apply⟨b,T.bw,dx,_,_,rfl,s5 _ _ hb,T.ka,T.nq,rfl,?_⟩;apply⟨dw,_,rfl,.inl (SqL.of (s5 _ _ hw)),?_⟩;have:0<ys.length:=RJ.mpr yn;fin2;rw[decide_eq_true this];exact q _
end
theorem Lf{l:XO}{w:World}{fa:Addr}(hfa:mg "law" = some (.ref fa))(T:Txt K mg)(hb:∀ (s:Rg) (v:Value),WM s T.rR.fd ⟨[v],[]⟩ [("_law_script",v)]) :
  ∃fd:SO,(∀ (s:Rg) (v:Value),WM s fd ⟨[v],[]⟩ [("_law_script",v)])/\∀base:Heap,K.In base->base.Ns Se mg->aH l.prog w K mg base CX0 12 fa fd ["_law_script"] (zo K):=by
 refine⟨T.rR.fd,hb,λbase _ _=>?_⟩;cases hfa.symm.trans T.rR.nm;exact Nd T
theorem walk{l:XO}{q:RB}{d:DefRec}{K:Params->Q7}(hn:l.most=some 63)(ZW:d.params.defaults=[])
  (hY:∀ (w:World) (h:Heap),YP w h->(K w.params).In h)
  (F:∀ (w:World) (mg:Str->Option Value) (fa:Addr) (h:Heap),(K w.params).In h->h.Ns Se mg->mg d.name=some (.ref fa) ->
   ∃fd:SO,(∀ (s:Rg) (u:Value),WM s fd ⟨[u],[]⟩ [("_law_script",u)])/\∀base:Heap,(K w.params).In base->base.Ns Se mg->aH l.prog w (K w.params) mg base CX0 12 fa fd ["_law_script"] (zo (K w.params))) :
  PySem.W.WalkO q loose XP YP l.row.toRowW d [] (λf vs=>PySem.call f vs) :=
 L2.LA (n:=63) (k:=12) (x:="_law_script") (CX:=λ_=>CX0) (sp:=λw=>zo (K w.params)) hn (by decide) ZW ⟨rfl,by decide,by decide⟩ hY F (λ_ _ a ns hl _ hS=>⟨a,ns,rfl,hS,hl,λ_=>rfl⟩) λ_ _ _ _ _ z=>z
end TB
end
open PySem PySem.W PyProof.Rows L2
set_option maxRecDepth 100000 in
set_option maxHeartbeats 0 in
theorem PySem.Challenge.cw_tracebook_k52_ways_of_a_book_holds : PySem.Challenge.rw_tracebook_k52_ways_of_a_book.Holds := by
 w_on;refine PySem.Challenge.cx_top ?_
 k_fill
 refine TB.walk (l:=PySem.Challenge.rw_tracebook_k52_ways_of_a_book) rfl rfl (fun w h Y=>PySem.W.kIn_of Y) ?F
 case F =>
  intro w mg fa h KX G hmg
  exact TB.Lf hmg ⟨df1 KX G,df1 KX G,df1 KX G,df1 KX G,df2 KX G,df2 KX G,df3 KX G,df1 KX G,df2 KX G,df3 KX G,df2 KX G,df1 KX G,df3 KX G,df1 KX G,df2 KX G,df3 KX G,df2 KX G,df2 KX G,df2 KX G,df1 KX G,df2 KX G,df2 KX G,df2 KX G,df2 KX G,df3 KX G,df2 KX G,df3 KX G,df1 KX G,df2 KX G,df1 KX G,df1 KX G,df2 KX G,df2 KX G,df2 KX G,df3 KX G,dd4 KX G,df4 KX G,df3 KX G,df4 KX G,dd5 KX G,df5 KX G,df3 KX G,dd3 KX G,df1 KX G,df2 KX G,df1 KX G,dd2 KX G,df1 KX G,df2 KX G,df4 KX G,df5 KX G,df4 KX G,df2 KX G,df2 KX G,df2 KX G,df3 KX G,df4 KX G,df3 KX G,df3 KX G,df2 KX G,df2 KX G,df1 KX G,df2 KX G,df4 KX G,df3 KX G,df2 KX G,df3 KX G,df1 KX G,_,_,_,mgk KX G,Bc,mkk,fnk,bd4,ei,ei,ei,ei,_,_,_,mgk KX G,Bc,mkk,fnk,bd2,ei,ei,ei,_,_,rZ,fnk,bd2,_,_,rZ,fnk,bd4,_,_,_,mgk KX G,Bc,mkk,fnk,bd4,Ob,ei,ei,ei,ei,_,_,rZ,fnk,bd2,_,_,rZ,fnk,bd2,_,_,_,mgk KX G,Bc,mkk,fDk,rZ,rZ,ei,ei,ei,ei,ei,ei,_,_,_,mgk KX G,Bc,mkk,fnk,bd4,ei,ei,ei,ei,ei,krf,krf,krf,krf,krf,_,mgk KX G,_,mgk KX G,mgz KX G,mgz KX G,mgz KX G,mgz KX G,mgz KX G,mgz KX G,mgz KX G,mgz KX G,mgz KX G,mgz KX G,mgz KX G,mgz KX G,mgz KX G,mgz KX G,mgz KX G,mgz KX G⟩ fun s v=>.of_eq rfl
