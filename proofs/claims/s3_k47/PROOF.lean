import PyProof.Rows.All
import Wide.All
import OpenK.AllK
import Wide.FinOn
import Lean
import PyProof.EqAt
import PyProof.EqKinds
import PyProof.TupleCall
import PyProof.NeKinds
import KE.BitLaws
import PyProof.SumWalkG
import PyProof.ConsumeWalk
import PyProof.WalksMore
import KE.KSortedM
import PyProof.Rows.SetFrom
import KE.KUnpack
import PyProof.CompUse
import PyProof.ZipIter
import PyProof.SliceMore
import PyProof.SliceList
import PyProof.ListRange
import KE.KSortTup
import PyProof.DictRoadsH
import PyProof.DictKinds
import KE.KSortAsk
import PyProof.DictIter
import PyProof.Rows.DictUnroll
import KE.KDictSum
import PyProof.DictItems
import PyProof.DictItemsLoops
import PyProof.DictValues
import PyProof.DictWalks
import PyProof.TupleOfGen
import PyProof.TupleOfSeq
import PyProof.NsDelKeeps
import PyProof.ExcBaseAll.ValueError
import PyProof.ExcAttrAll.ValueError
import PyProof.Draws
import PyProof.EnumMake
import PyProof.Rows.TupDisplay
import KE.KDictList
import PySem.Challenge.RW_sharesample_k47_refused_layers
set_option tactic.hygienic false
set_option bootstrap.genMatcherCode false
set_option genSizeOf false
set_option genSizeOfSpec false
set_option Elab.async false
set_option linter.all false
set_option maxRecDepth 100000
local macro_rules | `(tactic| left) => `(tactic| first | assumption | exact Nat.zero_le _ | exact Int.natCast_nonneg _ | exact Int.ofNat_lt.mpr (by assumption) | exact Nat.le_of_lt (by assumption) | exact Nat.le_trans (by assumption) (by assumption) | exact Nat.lt_of_lt_of_le (by assumption) (by assumption) | lia | omega)
local macro_rules|`(tactic|ext($p:rcasesPat:$e))=>`(tactic|rcases $e:term with $p:rcasesPat)|`(tactic|ext($p:rcasesPat:$e)$y $z*)=>`(tactic|(rcases $e:term with $p:rcasesPat;ext $y $z*))
local macro_rules|`(term|⋯)=>`(term|by left)
local macro_rules|`([$r,*]\$e)=>do let r<-r.getElems.mapM (λx=>match x with|`(-$y)=>`(Lean.Parser.Tactic.rwRule|<-$y:term)|_=>`(Lean.Parser.Tactic.rwRule|$(⟨x⟩):term));`(by rw[$r,*];exact $e)|`($x\$y)=>`(.lst $x $y)
local macro_rules|`(⇑[$r,*])=>do let r<-r.getElems.mapM (λx=>match x with|`(-$y)=>`(Lean.Parser.Tactic.rwRule|<-$y:term)|_=>`(Lean.Parser.Tactic.rwRule|$(⟨x⟩):term));`(by rw[$r,*])|`(⇑$e)=>`(by simpa using $e)
local macro_rules|`(↑$x)=>`(.int $x)
local macro_rules|`(↥$x)=>`(some $x)
set_option hygiene false
local macro_rules|`(⇑0)=>`(wpAny (model X.prog X.w) X.A)|`(⇑1)=>`(wpAny (model prog w) A)|`(⇑4)=>`((by decide))|`(⇑5)=>`((by simp))|`(⇑6)=>`((by decide +kernel))|`(⇑7)=>`((λ_=>False))|`(⇑8)=>`((λ_=>none))|`(⇑9)=>`(("__debug__" : Str))|`(⇑10)=>`((λ_ _ h=>h))
set_option hygiene true
local macro_rules|`(command|universe $x*)=>return Lean.mkNullNode (<-x.mapM λx=>`(def $x:ident:=0))
local macro_rules|`(command|meta def $i:declId $s:optDeclSig $v:declVal)=>`(noncomputable def $i:declId $s:optDeclSig $v:declVal)
local macro_rules|`(command|protected def $i:declId $s:optDeclSig $v:declVal)=>`(set_option tactic.hygienic true in def $i:declId $s:optDeclSig $v:declVal)
local macro_rules|`(command|nonrec def $i:declId $b* : $t $v:declVal)=>`(@[simp]theorem $i:declId $b* : $t $v:declVal)
noncomputable section
open PySem renaming Shared->am,starEach->cj,mainGlobals->cm,ExceptHandler->eO,Spec->fu,FuncData->hA,assignEach->hG,sizeLine_eq->i8,bootBuiltins->j_,compareOp->kq,sysModules->kw,behindInMarks->lv,swapsWith->mR,DictEntry->mX,Builtin->nf,foldedSetIterable->nv,Operator->ny,NameKind->nR,backTo->nU,swappedStores->n7,Comprehension->ol,sliceBounds->oC,pyNext->o1,intKind->pc,codeAny->pp,pyIter->rO,atKey_none_of_get->rP,storedH->sK,IsPair->ul,wpAny_loadPart'->vr,tupleKind->vu,rawInt->vv,letOwnedTupleGo->v6,Builtin->wd,Keyword->wh,binaryOp->wi,firstArgMember->wT,swapsWithSole->Ad,bindArgs->Ag,assign->Aj,Value->Az,slot_list_getitem->Es,ExcAttrFacts->Gc,wpAny_pyIter_zip->GE,wpAny_isInstance->GM,noFill_tuple_add->GT,checkBuiltinCall->HE,bindName->JJ,ZipApart->JV,wpAny_ite_split->Ls,excClassObj->Lx,callerA->L1,wpAny_runValue->Pj,wpAny_fieldsOf->Pm,isSubtype_stop->Ps,dictSetDefault->Pu,wpAny_load->Re,wpAny_getItem_list_slice->Rq,isTrue->Rv,seq_tuple_add->R7,assignInOrder->SL,list_append->SZ,call->Tk,Addr->TL,BindsTo->UQ,wpAny_nextOf_list_item->UR,richCompare_meets_room->UV,wpAny_typeOf->Vr,wpAny_pyNext_zip_item->Vs,wpAny_nextOf_list_end->Vt,wpAny_isTrue_Compare1->VT,wpAny_isOneOf_keyiter->V1,updateSeq->Wp,scanBound->WF,concat_meets->W0,codeAny_handlers_test->W1,builtinLookup_eq_fast->W4,wpAny_pyNext_zip_end->YP,wpAny_loadName_local->YV,unbindBehindTheSuite->Zj,boot_len->ZP,wpAny_of_eq->yaa,wpAny_loadName_cell->yab,wpAny_isSubtype_exc->yac,wpAny_handleBy_cons->yad,storedH_new->yae,spliced->yaf,UnaryOp->yai,wpAny_pyIter_tuple->yau,wpAny_getItem_heap->yav,setField->yaw,Result->yaz,GenState->yaE,wpAny_pyIter_slot->yaJ,wpAny_pyIter_list->yaK,wpAny_Name->yaL,wpAny_Call_method->yaM,typeLookup->yaO,checkCount->yaQ,builtinsNs->yaR,wpAny_execs_cons->ya8,wpAny_bind->aab,wpAny_pure->aaf,wpAny_mono->aaX,wpAny_newObj_type->abF,wpAny_call_entry->abP,wpAny_holding->abS,wpAny_truthy_bool->abU,codeAny_builtin->abW,wpAny_Call_Name_kw->ab1,wpAny_loadPart_at->aca,wpAny_typeNameOfWhole_valiter->acb,mem_of_lookup->acd,wpAny_rule->acf,sizeLine_eq->acj,wpAny_passesOwn->acG,wpAny_dictEntries->acK,wpAny_typeNameOf_valiter->acM,wpAny_callSpecial?_slot->acO,wpAny_typeNameOfWhole_keyiter->acS,wpAny_execs_nil->ac8,wpAny_dictEpoch->ada,codeAny_mono->ade,tupleKind_room_in1->adh,wpAny_typeNameOf_keyiter->adi,wpAny_newList->adC,wpAny_attempt->adD,wpAny_notOrdered_dict->adS,wpAny_isOneOf_valiter->adT,call_meets->adZ,codeAny_call_builtin->ad1,wpAny_updateSeq->ad2,wpAny_setField->ad4,wpAny_field->ad5,wpAny_standAt->ad8,plainId_quiet->ad9
open List renaming replicate->ap,getElem?_eq_some_iff->bi,mem_singleton->bn,getElem?_map->bv,getElem?_set_ne->cb,getElem?_eq_getElem->ce,mem_map->cr,mem_cons->c0,mem_append->dz,pairwise_append->dL,getElem?_eq_none->dV,getElem?_append_right->d6,getElem?_append_left->d7,range->eg,getElem?_set_self->eo,zipWith->gb,nodup_cons->gj,pairwise_iff_getElem->gr,mem_iff_getElem?->g7,mem_range->g8,mem_reverse->hD,all_eq_true->hX,getElem?_replicate->hY,toArray->iv,mem_of_getElem?->lf,getElem?_mapIdx->li,getElem?_zip_eq_some->lp,length->l7,pairwise_cons->mu,getElem?_take->oe,getElem?_drop->oi,nodup_append->pS,range'->qQ,getLast?->re,take_append_drop->sd,mem_filter->sh,map_eq_cons_iff->ub,getElem?_range->vj,mem_filterMap->wn,getD->wp,getElem?_set->xz,not_mem_nil->zn,getElem_mem->zr,map->Ch,of_mem_zip->Db,map_id->Do,lookup->D6,exists_cons_of_ne_nil->FJ,set->J2,pairwise_singleton->J5,pairwise_mergeSort->J8,map_take->Ka,map_drop->Kd,length_eq_zero_iff->KM,all->KP,take_of_length_le->Mw,take->O3,length_filter_le->O4,getElem?_toArray->Pc,mem_cons_of_mem->PN,getElem?_append->PP,mergeSort_perm->RN,map_eq_nil_iff->RP,zip_cons_cons->Uf,set_cons_succ->Uv,mem_cons_self->Uw,length_mapIdx->Uy,findIdx?_cons->UF,pairwise_map->U1,getElem_take->U2,getElem_drop->U7,foldl->Vc,range'_succ->Xr,map_snd_zip->Xs,map_flatten->Xu,getElem_zip->XH,filter_cons->XP,drop_length->XV,length_set->ZZ,length_map->Z7,foldl_cons->Z8,find?_cons->Z_,take_take->yao,nodup_nil->yap,any_cons->yaC,length_map->zaa,size_toArray->zad,length_cons->zae,length_append->zaf,map_map->zah,append_assoc->zai,map_append->zak,map_cons->zam,lookup_cons->zan,length_take->zar,all_cons->zas,mem_cons->zau,not_mem_nil->zav,append_nil->zaw,drop_eq_getElem_cons->zax,sum_cons->zay,nil_append->zaz,replicate_succ->zaA,length_singleton->zaC,length_set->zaJ,all_eq_true->zaM,mem_singleton->zaO,length_replicate->zaP,length_nil->zaQ,flatten_cons->zaS,flatMap_cons->zaT,mem_cons_of_mem->zaU,drop_zero->zaV,all_map->zaW,filterMap_cons->zaX,length_zip->zaZ,take_append_drop->zbc,reverse_reverse->zbe,reverse_append->zbi,mem_cons_self->zbl,map_replicate->zbm,length_range->zbo,length_drop->zbp,cons_append->zbq,range_eq_range'->zbs,take_zero->zby,set_cons_zero->zbz,getD_eq_getElem?_getD->zbD,map_drop->zbE,mapM_toArray->zbG,nodup_append->zbH,map_nil->zbK,take_length->zbN,all_toArray->zbU,forIn_cons->zbW,filter_eq_nil_iff->zca,mem_range->zcb,drop_drop->zcc,singleton_append->zcd,mem_cons_self->aag,mem_cons_of_mem->aaj,mem_append_right->aay,getElem?_eq_getElem->aaA,getElem_mem->aaU,map_congr_left->aaZ,mem_append_left->aa4,mem_of_getElem?->aa6,mergeSort_perm->abI,mem_map_of_mem->abJ,getElem?_set_self->abM,mem_of_mem_take->abT,length_map->ab_,nodup_nil->ace,idxOf_lt_length_of_mem->acr,ext_getElem->ac4,mem_of_mem_drop->ac5,getElem_idxOf->adk,drop_eq_nil_of_le->adz,getElem_inj->adE,perm_append_comm->adR,take_sublist->ad_,ext_getElem?->aea
open PySem.W renaming kitOne->ci,nsIn->eD,keepIn->hO,fnOf->hP,mroIn->ja,findIn->kP,excIn->nt,codeIn->r4,OpenLaw->x2,clsIn->Ev,cellsFrom_some->FS,hideAll_get->Mp,of_hideAll->NC,kas_mapM->RI,kat_one->Tl,hideAll->TD,looks_findIn->WT,WalkO->Xg,Looks->Xj,mg_of->abZ,kia_one->ab4
open PyProof.Rows renaming pendingOf->d5,seqObj->f6,SortSt->f8,SortKind->hV,IntsAre->h9,pairsOf_toList->nw,pairsOf->tr,failedOf->tt,callWith_builtin1->tz,AllBare->tU,boot_isinstance->u6,wpS_lift->zC,assignInOrder_cons->Ai,listItems_at->FN,envOfC->FP,entry_list_sort->LZ,slot_list_sort->Pn,args_list_sort->Pv,size_push'->Rs,intBits_le->RE,listUpdate_at->Sc,setArr->Wz,plain_sorted->WP,entry_sorted->WV,args_sorted1->Xc,entry_proto_collect'->ZB,kind_sorted->yag,getElem?_mirror_all->yah,mirror->yax,bubble->yay,unpackItems_tuple->yaN,setPending->yaP,boot_range->yaS,assignInOrder_nil->yaT,entry_list_iadd'->ya9,wpS_pure->ybL,wpS_mono->ybM,wpS_modify->ybN,wpS_get->ybO,wpS_forRange->ybP,wpS_bind->ybQ,subscriptTail_builtinR->ybR,lt_int->ybS,ge_int->ybT,callWith_type1->ybU,wpS_pure->aap,wpS_bind->aaz,callWith_type1->aa3,wpS_forRange->abr,wpS_mono->acL,subscriptTail_builtinR->acR,wpS_get->ac6,wpS_modify->adl
open Rat renaming divInt->ei,intCast_lt_intCast->No,mk_eq_divInt->ZO,intCast_inj->yaj,intCast_add->yak,divInt_eq_div->zaE,intCast_natCast->zaF,intCast_eq_zero_iff->zaY
open PySem.Obj renaming mapSeq->ej,data_mapFields->ov,mapFields->rA,isFreed_of_fields->PM,data_mapDictKeys->RJ,cls_mapFields->Xk
open PySem.Value renaming ref->em,none->ft,type->f0,bool->lX,builtin->qI,notImplemented->M2
open PySem.NameKind renaming free->eu,cell->t_
open Array renaming getElem?_toList->fx,getElem?_eq_none->hF,perm_iff_toList_perm->io,getElem?_eq_getElem->lm,length_toList->vi,getElem_toList->Pi,toList_map->Vm,toList_inj->Vn,toList->yaI,length_toList->zao,toList_append->zaB,toList_push->zaK,toArray_toList->zbu,toList_reverse->zbw,toList_setIfInBounds->zbC,getElem?_eq_getElem->ab3
open Int renaming gcd->f7,not_lt->yr,natCast_ediv->Ci,mul_fdiv_cancel_left->KQ,lt_iff_le_and_ne->RT,lt_or_gt_of_ne->Vd,neg_mul_neg->yaq,natCast_mul->yar,mul_ne_zero->yas,toNat_natCast->zaj,fdiv_eq_ediv_of_nonneg->zbf,natAbs_mul->zbn,natAbs_natCast->zbA,natCast_mul->zbY,le_trans->abK,le_of_lt->ab8,le_refl->ack,mul_fdiv_cancel_left->acN,fmod_nonneg_of_pos->adB,fmod_lt_of_pos->ad7
open PySem.Builtin.List renaming listExtendWith->gh,listTooLong->ky,listLengthHint->vl,listSameRef->wS,listUpdate->xA,listItems->zm
open PySem.F renaming called_set->hW,plain_extend_loop->lc,slot_dict_keyiterator_next->lz,called_tuple->rZ,slot_dict_setdefault->xd,args_dict_valueiterator_next_1->zv,slot_dict_getitem->AC,entry_extend_loop->AT,entry_dict_valueiterator_next->CP,type_list_append->C4,slot_dict_values->Da,plain_tuple_new->EN,plain_list_iadd->EQ,plainAttrs_dict->Fk,args_tuple_lt_2->FB,slot_dict_iter->FV,entry_tuple_lt->FZ,slot_zip_next->IA,slot_dict_values_iter->P3,excBase_ValueError->Ve,slot_int_rmul->ya2,slot_dict_valueiterator_next->ab9,args_tuple_add_2->adf,slot_list_append->adg,entry_tuple_add->ado,plainAttrs_list->adp,slot_tuple_add->adx,slot_tuple_lt->adG,typeOf_object_class->adW
open Option renaming map_eq_some_iff->im,bind_eq_some_iff->jb,isSome_iff_exists->oq,getD_none->TN,none->yaA,map_some->zbX
open Ne renaming symm->ip,symm->acW
open PySem.Heap renaming SameBut->iS,ExtBut->rj,get?_update_other->rN,size_push->va,lt_size->yw,FlyingW->yz,MadeExcOf->F0,get?_none_of_le->P2,size_update->X2,get?_push_of_some->aai,lt_size->aan,get?_push_size->aax,get?_update_self->abO,get?_update_other->abY
open PySem.Builtin.Range renaming rangeSize->i6,small->qP
open PySem.Builtin.Dict_items renaming ownsTuple->i7,newIterator->Vf,dictOf->Vh
open Nat renaming one_pos->jg,gcd->kb,not_lt->mn,lcm->mV,add_sub_cancel'->wg,lt_of_le_of_lt->wP,lt_succ_of_lt->yn,lt_succ_self->AV,le_of_not_lt->Bc,min_eq_left->FH,lt_one_iff->IN,lt_of_add_lt_add_left->IR,succ_add_eq_add_succ->JX,le_min->JY,gcd_pos_of_pos_right->JZ,lt_irrefl->Mr,le_mul_of_pos_right->Mu,add_sub_cancel_left->Mv,sub_eq_zero_iff_le->Op,lt_of_succ_lt_succ->Os,le_of_succ_le_succ->OA,le_mul_of_pos_left->O1,not_succ_le_zero->RK,one_mul->TR,mul_one->TU,add_lt_add_left->TW,add_le_add_left->T0,pos_of_ne_zero->UY,lt_of_lt_of_le->U0,not_le->Xn,le_succ_of_le->Xo,le_of_lt_succ->Xq,min_eq_right->ZR,le_add_right->ZV,gcd_dvd_left->ZY,min_le_left->yam,div_le_self->yan,lcm_le_mul->yaB,reduceAdd->yaX,le_of_dvd->yaY,dvd_trans->yaZ,zero_add->ybV,reduceLT->ybW,pow_succ->ybX,ne_of_lt->ybY,ne_of_gt->ybZ,mul_succ->yb0,lt_trans->yb1,lt_asymm->yb2,le_trans->yb3,le_total->yb4,le_of_lt->yb5,gcd_comm->yb6,add_sub_cancel_left->zap,zero_add->zaD,add_assoc->zaG,min_eq_left->zaI,le_add_right->zaN,lt_of_le_of_lt->zba,add_mul->zbg,add_le_add_left->zbh,lt_of_lt_of_le->zbk,add_comm->zbr,ne_of_gt->zbv,add_lt_add_left->zbx,mul_assoc->zbF,lt_of_add_lt_add_left->zbI,ne_of_lt->zbJ,mul_comm->zbL,min_self->zbM,succ_add_eq_add_succ->zbO,min_eq_right->zbP,sub_self->zbQ,max_eq_right->zbR,add_zero->zbS,le_trans->zbT,le_refl->zbZ,zero_max->zce,le_of_lt->zcf,lt_of_lt_of_le->aam,le_refl->aao,le_trans->aav,ne_of_lt->aaw,add_le_add_left->aaC,le_add_right->aaG,ne_of_gt->aaH,le_of_ble_eq_true->aaP,add_lt_add_left->aaT,lt_of_le_of_lt->aaV,zero_le->aa7,exists_eq_add_of_le->aba,lt_irrefl->abb,lt_succ_self->abc,le_of_lt->abq,exists_eq_succ_of_ne_zero->abu,pow_le_pow_right->abB,lt_succ_of_lt->abG,le_of_lt_succ->abH,lt_of_add_lt_add_left->abN,lt_or_ge->abR,lt_of_succ_lt->abV,le_antisymm->ab5,add_le_add_right->ab6,sub_le->ab7,eq_zero_of_not_pos->acm,lt_or_eq_of_le->acn,lt_of_le_of_ne->acp,pos_of_ne_zero->acq,sub_lt->acQ,le_succ_of_le->acT,zero_lt_of_lt->acU,le_of_succ_le->acV,le_of_eq->acX,lt_trans->acY,add_le_add->acZ,le_of_add_le_add_left->ac_,lt_add_of_pos_right->adt,lt_trichotomy->adv,sub_pos_of_lt->adw,le_succ->ady,lt_of_not_le->adF,mul_le_mul_left->ad3,succ_le_succ->aeb,succ_pos->aed,two_pos->aef
open PySem.Builtin.SmallTypes renaming ownedTupleIsFree->j8,nextOf->sB
open PySem.Expr.Name renaming elim->kx
open PySem.Around renaming under_plainId->kB
open ForInStep renaming yield->lV
open Bool renaming noConfusion->lW,or_eq_false_iff->Q2,false_ne_true->UJ,false_eq_true->UN,not_eq_true'->Vj,and_eq_true->YI,and_false->yat,false_or->yaF,and_true->yaG,and_self->yaH,true_or->ya7,and_eq_true->zag,false_ne_true->zal,false_eq_true->zaq,and_false->zat,false_and->zaL,not_eq_true'->zbb,or_eq_true->zbj,or_true->zbt,true_and->zbB,eq_iff_iff->zbV,false_ne_true->aad,false_eq_true->adj
open False renaming elim->ml
open PySem.Builtin.Dict renaming showsAll->mo,noArgs->yb8,keyAndDefault->yb9,dictSlotNone->yb_
open PySem.Expr renaming Name->mA
open PySem.Expr.Call renaming elim->mB
open PySem.Builtin.Int renaming intBits->m3,intTooBig->CQ
open PySem.Expr.ListComp renaming elim->nl
open True renaming intro->nY
open PySem.Stmt.AugAssign renaming elim->pN
open PySem.Expr.Subscript renaming elim->pT
open PySem.Expr.Attribute renaming elim->p0
open PySem.Expr.Constant renaming elim->rM
open PySem.Expr.UnaryOp renaming elim->sk
open PySem.Expr.Compare renaming elim->sw
open PySem.Str renaming ofString->tv
open PySem.Stmt.Return renaming elim->ut
open PySem.Stmt.Assign renaming elim->uO
open PySem.Expr.BoolOp renaming elim->vb
open Option.some renaming inj->wf,inj->aaI
open PySem.Stmt.While renaming elim->wk
open PySem.SeqAt.EqAt renaming same->wl,of_refs->Is,int_int->Ix
open PySem.Expr.Tuple renaming elim->wv
open PySem.Expr.BinOp renaming elim->ww
open PySem.Builtin.Tuple renaming tupleExact->wE,tupleHashOf->ya5,tupleCompareSizes->ya6
open PySem.Stmt.Expr renaming elim->xL
open PySem.Expr.List renaming elim->y2
open PySem.Stmt.For renaming elim->C2
open PySem.W.Looks renaming here->C3,ld->FU,of_pure->yaW
open List.Pairwise renaming nil->FM,imp->ya0,filter->ya1
open PySem.SeqAt renaming RcAt->FQ,RcNeAt->Md,EqAt->SM
open PySem.Stmt.If renaming elim->H8
open PySem.Calls renaming callWith_builtin->KT,Name_function_global->acH,call_function_entry->ac9,spliced_cons->adb,loadGlobal_global->adn,spliced_nil->adu,evalArgs_plain->adX
open PySem.IsRange renaming new->Mx
open Classical renaming not_not->MF,choose->Pg
open PySem.IsL renaming update->NE
open Function renaming comp_def->Pf
open PySem.PassesOwn renaming never->PL
open List.Perm renaming trans->PQ,append_left->ac3,append_right->adA
open Except.ok renaming inj->UI
open PySem.Heap.SameBut renaming update->UX,refl->yb7,update->abX
open Nat.succ renaming inj->Xm
open PyProof.Rows.IsTup renaming new->XX
open PySem.Builtin.Frozenset renaming updateFrom->YG
open PySem.Challenge renaming pw_sharesample_k47_refused_layers->yal
open PySem.Heap.IsSliceOf renaming new->yaD
open PySem.W.WShape renaming has->yaU
open PyProof.Rows.SortSt renaming mk'->yaV
open PySem.Env renaming blockKind->ya3
open PySem.CmpOp renaming NotIn->ya4
open PySem.Walks renaming list->ya_
open PySem.SeqAt.RcNeAt renaming tuples->yba,tuple_str->ybb,tuple_none->ybc,tuple_list->ybd,tuple_int->ybe,tuple_bool->ybf,str_tuple->ybg,str_str->ybh,str_none->ybi,str_list->ybj,str_int->ybk,str_bool->ybl,none_tuple->ybm,none_str->ybn,none_none->ybo,none_list->ybp,none_int->ybq,none_bool->ybr,lists_lengths->ybs,lists->ybt,list_tuple->ybu,list_str->ybv,list_none->ybw,list_int->ybx,list_bool->yby,int_tuple->ybz,int_str->ybA,int_none->ybB,int_list->ybC,int_int->ybD,int_bool->ybE,bool_tuple->ybF,bool_str->ybG,bool_none->ybH,bool_list->ybI,bool_int->ybJ,bool_bool->ybK
open List.cons renaming inj->acP
open Eq renaming symm->adm
open PySem.Code renaming quiet_builtin->ad6
abbrev zab:=@if_neg
abbrev zac:=@if_pos
abbrev zaH:=@decide_eq_true
abbrev zaR:=@decide_eq_false
abbrev zbd:=@beq_self_eq_true
abbrev aac:=@of_decide_eq_true
abbrev aa5:=@congrArg
abbrev abC:=@decide_eq_true
abbrev abE:=@if_pos
abbrev ab0:=@beq_self_eq_true
abbrev adY:=@decide_eq_false
abbrev ad0:=@if_neg
abbrev aec:=@getElem?_pos
abbrev az:=List (List Int)
abbrev ae:=List Int
abbrev aS:=List Nat
abbrev aq:=List PySem.Str
abbrev aw:=List Az
abbrev aj:=List PySem.Expr
abbrev aX:=List TL
abbrev aQ:=List PySem.Stmt
abbrev bB:=List Rat
abbrev aZ:=Array Az
abbrev av:=PySem.W.Frag
abbrev aB:=Az->PySem.Shared->Prop
abbrev au:=List (TL×PySem.Obj)
abbrev af:=TL->Prop
abbrev aU:=PySem.Str->Option Az
abbrev aG:=PySem.Program
abbrev aF:=PySem.Around
namespace L2
open PySem PySem.Spec PyProof.Rows
end L2
namespace L2
open PySem PySem.Spec PyProof.Rows
inductive V where
 |bX|bl (b:Bool)|int (i:Int)|str (x:Str)|XM (b:Array UInt8)|Xx (b:UInt64)|ref (a:Addr)|ty (n:String)
 deriving DecidableEq
abbrev ah:=List V
def RelV:V->Value->Prop
 |.bX,u=>u=ft
 |.bl b,u=>u=lX b
 |.int i,u=>∃t,u=Value.int i t
 |.str x,u=>∃t,u=Value.str x t
 |.XM b,u=>∃t,u=Value.bytes b t
 |.Xx b,u=>∃t,u=Value.float b t
 |.ref a,u=>u=em a
 |.ty n,u=>u=f0 n
abbrev Vals:ah->aw->Prop:=Paired RelV
theorem Vals.length{xs:ah}{a:aw}(r:Vals xs a):xs.length=a.length:=Paired.length r
theorem Vals.get:∀{xs:ah} {a:aw} {i:Nat} {x:V},Vals xs a->xs[i]?=↥x->∃u,a[i]?=↥u/\RelV x u
 |_,_,_,_,.nil,e=>by simp at e
 |_,_,0,_,.cons r _,e=>by simp at e;subst e;exact⟨_,rfl,r⟩
 |_,_,i+1,x,.cons _ t,e=>by
  ext(⟨u,c,b⟩:Vals.get (i:=i) (x:=x) t ⇑e);exact⟨u,⇑c,b⟩
theorem Vals.append:∀{xs a:ah} {b ws:aw},Vals xs b->Vals a ws->Vals (xs++a) (b++ws)
 |_,_,_,_,.nil,s=>s
 |_,_,_,_,.cons r t,s=>.cons r (Vals.append t s)
theorem Vals.take:∀{xs:ah} {a:aw} (n:Nat),Vals xs a->Vals (xs.take n) (a.take n)
 |_,_,0,_=>.nil
 |_,_,_+1,.nil=>.nil
 |_,_,n+1,.cons r t=>.cons r (Vals.take n t)
theorem Vals.drop:∀{xs:ah} {a:aw} (n:Nat),Vals xs a->Vals (xs.drop n) (a.drop n)
 |_,_,0,r=>r
 |_,_,_+1,.nil=>.nil
 |_,_,n+1,.cons _ t=>Vals.drop n t
def CB:Option V->Option Value->Prop
 |some v,↥u=>RelV v u
 |none,none=>True
 |_,_=>False
inductive HO where
 |lst (xs:ah)|tup (xs:ah)|nu (lo hi:Int)|iH (o:Obj) (u:HO)|ext (φ:Heap->Prop)
abbrev Hp:=Addr->Option HO
meta def upd(H:Hp)(a:Addr)(o:HO):Hp:=λb=>if b=a then ↥o else H b
def aT{H:Hp}{a:Addr}{o:HO}:upd H a o a=↥o:=by unfold upd;rw[zac rfl]
def bt{H:Hp}{a b:Addr}{o:HO}(h:b≠a):upd H a o b=H b:=by unfold upd;rw[zab h]
def dQ{H:Hp}{a b:Addr}{o:HO}(h:H a=↥o)(h':H b=none):a≠b:=by
 intro e;subst e;rw[h]at h';cases h'
section
def cN(H:Hp)(h:Heap)(a:Addr):HO->Prop
 |.lst b=>b.length<=sizeLine/\∃(c:aw) (n:Nat),Vals b c/\h.get? a=some { cls:=.type "list",data:=.seq c.toArray n }
 |.tup b=>b.length<=sizeLine/\∃c:aw,Vals b c/\IsTup h a c.toArray
 |.nu g i=>∃t u v,h.get? a=some { cls:=.type "range",data:=.fields #[.int g t,.int i u,.int 1 v] }
 |.iH o u=>h.get? a=↥o/\cN H h a u
 |.ext d=>d h/\(∃o,h.get? a=↥o)/\∀f e:Heap,d f->(∀o,f.get? a=↥o->e.get? a=↥o)->d e
def ki(H:Hp)(h:Heap):Prop:=∀a o,H a=↥o->cN H h a o
end
section
variable {P:aG}{w:World}{H H':Hp}{h h':Heap}{a:Addr}{o:HO}
def gF(x:cN H h a o):∃u,h.get? a=↥u:=by
 cases o with
 |lst b=>ext(⟨_,_,_,_,e⟩:x);exact⟨_,e⟩
 |tup b=>ext(⟨_,_,_,o,e,_⟩:x);exact⟨_,e⟩
 |nu d f=>ext(⟨_,_,_,e⟩:x);exact⟨_,e⟩
 |iH o u=>exact⟨_,x.1⟩
 |ext c=>exact x.2.1
def cN.lt(x:cN H h a o):a<h.objs.size:=(gF x).elim λ_ e=>aan e
def cN.lK(x:cN H h a o)(k:∀u,h.get? a=↥u->h'.get? a=↥u):cN H' h' a o:=by
 induction o with
 |lst f=>ext(⟨z,b,n,r,e⟩:x);exact⟨z,b,n,r,k _ e⟩
 |tup f=>ext(⟨z,b,r,d,e,c⟩:x);exact⟨z,b,r,d,k _ e,c⟩
 |nu j l=>ext(⟨t,u,v,e⟩:x);exact⟨t,u,v,k _ e⟩
 |iH d u g=>exact⟨k _ x.1,g x.2⟩
 |ext i=>exact⟨x.2.2 _ _ x.1 k,x.2.1.imp k,x.2.2⟩
theorem ki.lt(x:ki H h)(e:H a=↥o):a<h.objs.size:=(x a o e).lt
def ki.fresh(x:ki H h)(e:h.objs.size<=a):H a=none:=by
 cases q:H a with
 |none=>rfl
 |some u=>exact absurd (aam (x.lt q) e) (abb _)
def ki.kept(x:ki H h)(k:∀b u,h.get? b=↥u->h'.get? b=↥u):ki H h':=λa o e =>
 (x a o e).lK (k a)
def ki.laid(x:ki H h)(k:∀b u,h.get? b=↥u->h'.get? b=↥u)(d:h.objs.size<=a)(new:cN (upd H a o) h' a o):ki (upd H a o) h':=λb u e=>by
 ext(f:x.fresh d);by_cases c:b=a
 ·subst c;rw[aT]at e;cases e;exact new
 ·rw[bt c]at e;exact(x b u e).lK (k b)
end
def Rd(H:Hp)(a:Addr)(u:HO):Prop:=H a=↥u\/∃o,H a=↥(.iH o u)
variable {h:Heap}
def Rd.ok{H:Hp}{a:Addr}{u:HO}(r:Rd H a u)(x:ki H h):cN H h a u:=by
 ext((r|⟨o,r⟩):r)
 ·exact x a u r
 ·ext(⟨_,q⟩:x a _ r);exact q
def Mut:Option HO->Prop
 |some (.lst _)=>True
 |some (.ext _)=>True
 |_=>False
section
variable {P:aG}{w:World}{H:Hp}{h h':Heap}{x e:Addr}{o':HO}
def ki.write(ok:ki H h)(k:∀b u,b≠x->h.get? b=↥u->h'.get? b=↥u)
  (new:cN (upd H x o') h' x o'):ki (upd H x o') h':=λb u q=>by
 by_cases a:b=x
 ·subst a;rw[aT]at q;cases q;exact new
 ·rw[bt a]at q;exact(ok b u q).lK λv=>k b v a
end
structure Un(fs ex:aX)(H H':Hp)(h h':Heap):Prop where
 keep:∀b o,h.get? b=↥o->H b=none->b∉fs->b∉ex->h'.get? b=↥o
 slot:∀b o,h.get? b=↥o->H b=none->b∈fs->b∉ex->∃sl,h'.get? b=some { o with slots:=sl }
 free:∀b o,h.get? b=↥o->H b=none->b∉ex->H' b=none
 there:∀b o,h.get? b=↥o->b∉ex->∃o',h'.get? b=↥o'
 nJ:∀b xs,H b=↥(.tup xs)->H' b=↥(.tup xs)
 mW:∀b o u,H b=↥(.iH o u)->H' b=↥(.iH o u)
section
variable {fs fs' ex ex':aX}{H H1 H2:Hp}{h h1 h2 h':Heap}{a x e:Addr}{o:HO}
def Un.any(u:Un fs ex H H1 h h1){b:Addr}{c:Obj}(q:h.get? b=↥c)(n:H b=none)(d:b∉ex):∃g,h1.get? b=some { c with slots:=g }:=by
 by_cases f:b∈fs
 ·exact u.slot b c q n f d
 ·exact⟨c.slots,u.keep b c q n f d⟩
def Un.kept(k:∀b u,h.get? b=↥u->h'.get? b=↥u):Un fs ex H H h h' :=
 ⟨λb c q _ _ _=>k b c q,λb c q _ _ _=>⟨c.slots,k b c q⟩,λ_ _ _ n _=>n,λb c q _=>⟨c,k b c q⟩,λ_ _ q=>q,λ_ _ _ q=>q⟩
def Un.refl:Un fs ex H H h h:=Un.kept λ_ _ q=>q
def Un.laid(k:∀b u,h.get? b=↥u->h'.get? b=↥u)(d:h.objs.size<=a)(hn:H a=none):Un fs ex H (upd H a o) h h' where
 keep:=λb u q _ _ _=>k b u q
 slot:=λb u q _ _ _=>⟨u.slots,k b u q⟩
 free:=λb u q n _=>[bt (zbJ (zbk (yw q) d))]\n
 there:=λb u q _=>⟨u,k b u q⟩
 nJ:=λb c q=>[bt (dQ q hn)]\q
 mW:=λb u c q=>[bt (dQ q hn)]\q
def Un.write(d:Mut (H x))(k:∀b u,b≠x->h.get? b=↥u->h'.get? b=↥u)(g:∃u,h'.get? x=↥u):Un fs ex H (upd H x o) h h':=by
 have f:∀b,H b=none->b≠x:=λb n z=>by subst z;rw[n]at d;exact d
 have i:∀b u,H b=↥u->¬ Mut ↥u->b≠x:=λb u q l z=>by subst z;rw[q]at d;exact l d
 refine⟨λb u q n _ _=>k b u (f b n) q,λb u q n _ _=>⟨u.slots,k b u (f b n) q⟩,λb u q n _=>[bt (f b n)]\n,λb u q _=>?_,
  λb j q=>[bt (i b _ q λz=>z)]\q,λb u j q=>[bt (i b _ q λz=>z)]\q⟩
 by_cases c:b=x
 ·subst c;exact g
 ·exact⟨u,k b u c q⟩
end
meta def WD(h:Heap)(H:Hp):aX:=(eg h.objs.size).filter λa=>(H a).isSome
def tZ(h:Heap)(H:Hp):Heap:=TD h (WD h H)
def B1(h:Heap)(H:Hp):(tZ h H).objs.size=h.objs.size:=PySem.W.hideAll_size _ _
variable {o:Obj}
def FK{H:Hp}{b:Addr}(e:h.get? b=↥o)(n:H b=none):(tZ h H).get? b=↥o :=
 Mp _ e λa=>by
  have q:(H b).isSome=true:=(sh.mp a).2;rw[n]at q;simp at q
def Js{H:Hp}{b:Addr}(e:(tZ h H).get? b=↥o):h.get? b=↥o/\H b=none:=by
 have a:h.get? b=↥o:=NC (WD h H) e;refine⟨a,?_⟩;cases q:H b with
 |none=>rfl
 |some x =>
  have c:b∈WD h H:=sh.mpr ⟨g8.mpr (aan a),by simp[q]⟩;have z:(tZ h H).get? b=none:=PySem.W.hideAll_none (WD h H) c;rw[z]at e;cases e
end L2
namespace L2
open PySem PySem.Spec PyProof.Rows
structure Mod(K:av)(mg:aU)(base:Heap):Prop where
 Zr:K.In base
 glob:base.Ns cm mg
 blt:∃mb,base.Ns yaR mb/\∀x:Str,x ≠ "__name__" -> mb x=j_ x
 nolimit:base.NoLimit
structure Cx where
 prog:aG
 w:World
 K:av
 mg:aU
 base:Heap
 A:aF
 N:aq
 s₀:am
 H₀:Hp
 env:Env
 outer:List Env
 stack:List Env
 ex:aX
 fn:Str->Bool
 calm:Bool
 pn:au
 xe:aB
meta def mY(l:List Env):aX:=l.filterMap (·.frame)
abbrev Cx.fs(X:Cx):aX:=mY X.outer
def MY(sc:Scope)(x:Str):Prop:=sc.names.lookup x=↥.local\/sc.names.lookup x=↥.cell\/sc.names.lookup x=↥.free
def Loc(sc:Scope)(x:Str):Prop:=sc.names.lookup x=↥.local\/sc.names.lookup x=↥.cell
def Look(env:Env)(h:Heap)(m:aU)(x:Str)(u:Value):Prop :=
 (env.kindOf x=↥.local/\m x=↥u)\/((env.kindOf x=↥.cell\/env.kindOf x=↥.free)/\∃c,env.cells.lookup x=↥c/\h.IsCell c ↥u)
structure Cx.Ok(X:Cx):Prop where
 mod:Mod X.K X.mg X.base
 kind:X.env.scope.kind=.function
 glob:X.env.globals=cm
 blt:X.env.builtins=yaR
 above:X.s₀.heap.objs.size<=X.env.locals
 inj:∀x y c,X.env.cells.lookup x=↥c->X.env.cells.lookup y=↥c->x=y
 has:∀x,(X.env.kindOf x=↥.cell\/X.env.kindOf x=↥.free)->∃c,X.env.cells.lookup x=↥c
 MT:∀x c,X.fn x=true->X.env.cells.lookup x=↥c->X.s₀.heap.objs.size<=c
 hd:X.calm=true->X.A.handled=none
 frames:X.A.frames=↥X.stack
 NB:X.stack=X.outer\/(X.stack=X.env::X.outer/\X.env.frame=↥X.env.locals)
 VH:∀b∈X.ex,b≠X.env.locals/\∀x c,X.env.cells.lookup x=↥c->c≠b
 bs:∀b o,X.base.get? b=↥o->X.s₀.heap.get? b=↥o/\X.H₀ b=none
 G7:X.base.objs.size<=X.s₀.heap.objs.size
 vS:∀b o,X.base.get? b=↥o->b∉X.ex
 yx:∀b∈X.ex,b∉X.fs
 kR:X.s₀.heap.FunFrames X.base X.outer
 CT:∀b∈X.fs,X.H₀ b=none
structure Inv(X:Cx)(pins:au)(σ:List (Option V))(H:Hp)(s:am):Prop where
 ok:X.Ok
 os:s.os=X.s₀.os
 bare:tU s.gens
 base:Un X.fs X.ex X.H₀ H X.s₀.heap s.heap
 loc:∃m,s.heap.Ns X.env.locals m/\∀(i:Nat) (x:Str) (v:V),X.N[i]?=↥x->σ[i]?=↥↥v->MY X.env.scope x->∃u,RelV v u/\Look X.env s.heap m x u
 cell:∀x c,X.env.cells.lookup x=↥c->∃v,s.heap.IsCell c v
 free:H X.env.locals=none
 gc:∀x c,X.env.cells.lookup x=↥c->H c=none
 pin:∀p∈X.pn++pins,s.heap.get? p.1=↥p.2/\H p.1=none/\p.1≠X.env.locals/\p.1∉X.fs/\∀v,p.2.data≠.cell v
 cI:ki H s.heap
 len:σ.length=X.N.length
variable {A:aF}{E:Value->am->Prop}{Q:Unit->am->Prop}{ch:aX}{t':Nat}
section
variable {X:Cx}{pins:au}{σ:List (Option V)}{H H':Hp}{s:am}{h':Heap}
def Cx.Ok.Ze(ok:X.Ok){b:Addr}{o:Obj}(e:X.base.get? b=↥o):b∉X.fs:=λa=>by
 have:=(ok.kR.mem a).1;rw[e]at this;cases this
theorem Inv.bs(I:Inv X pins σ H s):∀b o,X.base.get? b=↥o->s.heap.get? b=↥o/\H b=none:=λb o e =>
 ⟨I.base.keep b o (I.ok.bs b o e).1 (I.ok.bs b o e).2 (I.ok.Ze e) (I.ok.vS b o e),I.base.free b o (I.ok.bs b o e).1 (I.ok.bs b o e).2 (I.ok.vS b o e)⟩
def Inv.bk(I:Inv X pins σ H s):∀b o,X.base.get? b=↥o->s.heap.get? b=↥o:=λb o e=>(I.bs b o e).1
theorem Inv.mod(I:Inv X pins σ H s):Mod X.K X.mg X.base:=I.ok.mod
def Inv.CK(I:Inv X pins σ H s):X.K.In s.heap:=I.ok.mod.Zr.keeps I.bk
theorem Inv.lt(I:Inv X pins σ H s):X.env.locals<s.heap.objs.size:=let ⟨_,hn,_⟩:=I.loc;hn.lt
def Inv.sz(I:Inv X pins σ H s):X.s₀.heap.objs.size<=s.heap.objs.size:=aav I.ok.above (abq I.lt)
def Inv.Ox(I:Inv X pins σ H s){a:Addr}(h:s.heap.objs.size<=a):a∉X.fs:=λc=>by
 ext(⟨_,o,b,_⟩:I.ok.kR.mem c);exact absurd (aam (aan b) (aav I.sz h)) (abb _)
def Inv.KO(I:Inv X pins σ H s):∀x c,X.env.cells.lookup x=↥c->c≠X.env.locals:=λx c e z=>by
 ext(⟨v,o,a,hd⟩:I.cell x c e)(⟨m,⟨f,g,h,d,b,_⟩,_⟩:I.loc);rw[z,d]at a;cases a;rw[b]at hd;cases hd
theorem Inv.kR(I:Inv X pins σ H s):s.heap.FunFrames X.base X.outer:=by
 have all:∀(l:List Env),(∀b∈mY l,b∈X.fs)->X.s₀.heap.FunFrames X.base l->s.heap.FunFrames X.base l:=by
  intro l;induction l with
  |nil=>intro _ _;trivial
  |cons n r g =>
   intro f k;ext(⟨m,⟨L,o,a,j,i,hd⟩,h⟩:k);have d:L∈X.fs:=f L (by unfold mY;rw[zaX,a];exact aag);ext(⟨p,e⟩:I.base.slot L o i (I.ok.CT L d) d λz=>I.ok.yx L z d);exact⟨m,⟨L,_,a,j,e,hd⟩,g (λb c=>f b (by unfold mY;rw[zaX,a];exact aaj _ c)) h⟩
 exact all X.outer (λ_ c=>c) I.ok.kR
theorem Inv.stack(I:Inv X pins σ H s):s.heap.FunFrames X.base X.stack:=by
 ext((e|⟨e,b⟩):I.ok.NB)
 ·exact[e]\I.kR
 ·rw[e];ext(⟨m,a,_⟩:I.loc);refine .cons (by rw[I.ok.kind];decide) b a ?_ I.kR;exact P2 (aav I.ok.G7 I.ok.above)
def Inv.kJ(I:Inv X pins σ H s):∀b∈mY X.stack,b∈X.env.locals::X.fs:=λb a=>by
 ext((e|⟨e,c⟩):I.ok.NB)
 ·rw[e]at a;exact aaj _ a
 ·rw[e]at a;unfold mY at a;rw[zaX,c]at a;exact a
def Inv.lJ(I:Inv X pins σ H s):∀b∈mY X.stack,H b=none:=λb a=>by
 rcases c0.mp (I.kJ b a)with e|a
 ·exact[e]\I.free
 ·ext(⟨_,o,c,_⟩:I.ok.kR.mem a);exact I.base.free b o c (I.ok.CT b a) λz=>I.ok.yx b z a
def Inv.step{g':Array yaE}{d':Drawn}(I:Inv X pins σ H s)
  (y:∀b∈ch,(b∈X.ex\/X.s₀.heap.objs.size<=b)/\b≠X.env.locals/\(∀x c,X.env.cells.lookup x=↥c->c≠b)/\∀p∈X.pn++pins,p.1≠b)
  (keep:∀b o,b≠X.env.locals->b∉X.fs->b∉ch->s.heap.get? b=↥o->H b=none->h'.get? b=↥o)
  (slot:∀b o,b≠X.env.locals->b∈X.fs->b∉ch->s.heap.get? b=↥o->H b=none->∃C,h'.get? b=some { o with slots:=C }) (free:∀b o,b∉ch->s.heap.get? b=↥o->H b=none->H' b=none)
  (there:∀b o,b∉ch->s.heap.get? b=↥o->∃j,h'.get? b=↥j)
  (J:∀b f,H b=↥(.tup f)->H' b=↥(.tup f)) (K:∀b o u,H b=↥(.iH o u)->H' b=↥(.iH o u))
  (ns:∀m,s.heap.Ns X.env.locals m->h'.Ns X.env.locals m) (O:ki H' h') (N:tU g') :
  Inv X pins σ H' { s with heap:=h',gens:=g',drawn:=d',toks:=t' }:=by
 have t:∀b o,X.s₀.heap.get? b=↥o->b≠X.env.locals:=λb o e=>aaw (aam (aan e) I.ok.above);have B:∀b o,X.s₀.heap.get? b=↥o->b∉X.ex->b∉ch:=λb o e a g=>by
  rcases(y b g).1 with z|z
  ·exact a z
  ·exact absurd (aam (aan e) z) (abb _)
 have cellK:∀x c,X.env.cells.lookup x=↥c->∀v,s.heap.IsCell c v->h'.IsCell c v:=λx c e v P=>by
  ext(⟨o,h,hd⟩:P);have w:c∉ch:=λz=>(y c z).2.2.1 x c e rfl;by_cases G:c∈X.fs
  ·ext(⟨C,q⟩:slot c o (I.KO x c e) G w h (I.gc x c e));exact⟨_,q,hd⟩
  ·exact⟨o,keep c o (I.KO x c e) G w h (I.gc x c e),hd⟩
 refine⟨I.ok,I.os,N,⟨λb o e n g a=>?_,λb o e n g a=>?_,λb o e n a=>?_,λb o e a=>?_,λb f e=>J b f (I.base.nJ b f e),λb o f e=>K b o f (I.base.mW b o f e)⟩,?_,λx c e=>?_,?_,λx c e=>?_,λp F=>?_,O,I.len⟩
 ·exact keep b o (t b o e) g (B b o e a) (I.base.keep b o e n g a) (I.base.free b o e n a)
 ·ext(⟨C,e1⟩:I.base.slot b o e n g a)(⟨R,e2⟩:slot b _ (t b o e) g (B b o e a) e1 (I.base.free b o e n a));exact⟨R,e2⟩
 ·ext(⟨j,e1⟩:I.base.there b o e a);exact free b j (B b o e a) e1 (I.base.free b o e n a)
 ·ext(⟨j,e1⟩:I.base.there b o e a);exact there b j (B b o e a) e1
 ·ext(⟨m,L,M⟩:I.loc);refine⟨m,ns m L,λi x v e1 e2 e3=>?_⟩;ext(⟨u,r,l⟩:M i x v e1 e2 e3);refine⟨u,r,?_⟩;ext((l|⟨k,c,e,z⟩):l)
  ·exact .inl l
  ·exact .inr ⟨k,c,e,cellK x c e _ z⟩
 ·ext(⟨v,z⟩:I.cell x c e);exact⟨v,cellK x c e v z⟩
 ·ext(⟨m,⟨o,_,_,h,_⟩,_⟩:I.loc);exact free _ o (λz=>(y _ z).2.1 rfl) h I.free
 ·ext(⟨v,o,h,hd⟩:I.cell x c e);exact free c o (λz=>(y c z).2.2.1 x c e rfl) h (I.gc x c e)
 ·ext(⟨e,n,ne,D,d⟩:I.pin p F);have w:p.1∉ch:=λz=>(y p.1 z).2.2.2 p F rfl;exact⟨keep p.1 p.2 ne D w e n,free p.1 p.2 w e n,ne,D,d⟩
def Inv.un(I:Inv X pins σ H s)(u:Un X.fs [] H H' s.heap h')(j:ki H' h'):Inv X pins σ H' { s with heap:=h',toks:=t' }:=by
 ext(⟨m,⟨o,t,v,d,r⟩,_⟩:id I.loc)(⟨l,i⟩:u.any d I.free ⇑5);exact I.step (g':=s.gens) (d':=s.drawn) (ch:=[]) (λ_ z=>nomatch z) (λb o _ a _ e n=>u.keep b o e n a ⇑5) (λb o _ a _ e n=>u.slot b o e n a ⇑5) (λb o _ e n=>u.free b o e n ⇑5) (λb o _ e=>u.there b o e ⇑5) u.nJ u.mW (λq h=>by
  ext(⟨p,k,g,c,f⟩:h);rw[d]at c;cases c;exact⟨_,k,g,i,f⟩) j I.bare
def Inv.call{g':Array yaE}{d':Drawn}(I:Inv X pins σ H s)(u:Un (mY X.stack) ch H H' s.heap h')(t:ki H' h')(l:tU g')
  (h:∀b∈ch,(b∈X.ex\/X.s₀.heap.objs.size<=b)/\b≠X.env.locals/\(∀x c,X.env.cells.lookup x=↥c->c≠b)/\∀p∈X.pn++pins,p.1≠b) :
  Inv X pins σ H' { s with heap:=h',gens:=g',drawn:=d',toks:=t' }:=by
 ext(⟨m,⟨o,C,D,g,r⟩,_⟩:id I.loc)(⟨w,d⟩:u.any g I.free λz=>(h _ z).2.1 rfl);exact I.step (ch:=ch) h (λb o d q a e n=>u.keep b o e n (λz=>(c0.mp (I.kJ b z)).elim d q) a) (λb o _ _ a e n=>u.any e n a) (λb o a e n=>u.free b o e n a) (λb o a e=>u.there b o e a) u.nJ u.mW (λB k=>by
  ext(⟨y,v,j,f,i⟩:k);rw[g]at f;cases f;exact⟨_,v,j,d,i⟩) t l
def Inv.turned{it:Addr}(I:Inv X pins σ H s)(k:∀b o,b≠it->s.heap.get? b=↥o->h'.get? b=↥o)(hn:H it=none)(d:it≠X.env.locals)
  (l:it∈X.ex\/X.s₀.heap.objs.size<=it) (j:∀x c,X.env.cells.lookup x=↥c->c≠it) (i:∀p∈X.pn++pins,p.1≠it):Inv X pins σ H { s with heap:=h',toks:=t' }:=by
 have w:∀b u,H b=↥u->b≠it:=λb u e z=>by rw[z,hn]at e;cases e
 refine I.step (g':=s.gens) (d':=s.drawn) (ch:=[it]) (λb h=>?_) (λb o _ _ a e _=>k b o (λz=>a (by simp[z])) e) (λb o _ _ a e _=>⟨o.slots,k b o (λz=>a (by simp[z])) e⟩) (λ_ _ _ _ n=>n)
  (λb o a e=>⟨o,k b o (λz=>a (by simp[z])) e⟩) (λ_ _ e=>e) (λ_ _ _ e=>e) (λm g=>?_) (λb u e=>?_) I.bare
 ·have e:b=it:=⇑h
  subst e;exact⟨l,d,j,i⟩
 ·ext(⟨o,q,t,f,r⟩:g);exact⟨o,q,t,k _ o (acW d) f,r⟩
 ·exact(I.cI b u e).lK λv=>k b v (w b u e)
def Inv.tok(I:Inv X pins σ H s)(t:Nat):Inv X pins σ H { s with toks:=t }:=I.un (h':=s.heap) (t':=t) Un.refl I.cI
theorem Inv.kept{t':Nat}(I:Inv X pins σ H s)(k:∀b u,s.heap.get? b=↥u->h'.get? b=↥u):Inv X pins σ H { s with heap:=h',toks:=t' }:=I.un (Un.kept k) (I.cI.kept k)
theorem Inv.laid{a:Addr}{o:HO}{t':Nat}(I:Inv X pins σ H s)(k:∀b u,s.heap.get? b=↥u->h'.get? b=↥u)(c:s.heap.objs.size<=a)(new:cN (upd H a o) h' a o):
  Inv X pins σ (upd H a o) { s with heap:=h',toks:=t' }:=I.un (Un.laid k c (I.cI.fresh c)) (I.cI.laid k c new)
theorem Inv.write{x:Addr}{o:HO}{t':Nat}(I:Inv X pins σ H s)(c:Mut (H x))(k:∀b u,b≠x->s.heap.get? b=↥u->h'.get? b=↥u)(a:∃u,h'.get? x=↥u)
  (new:cN (upd H x o) h' x o):Inv X pins σ (upd H x o) { s with heap:=h',toks:=t' }:=I.un (Un.write c k a) (I.cI.write k new)
def Inv.j6{a:au}(I:Inv X pins σ H s)(h:∀p∈a,s.heap.get? p.1=↥p.2/\H p.1=none/\p.1≠X.env.locals/\p.1∉X.fs/\∀v,p.2.data≠.cell v):Inv X a σ H s :=
 ⟨I.ok,I.os,I.bare,I.base,I.loc,I.cell,I.free,I.gc,λp b=>(dz.mp b).elim (λz=>I.pin p (aa4 _ z)) (h p),I.cI,I.len⟩
def vT{N:aq}(c:N.Nodup){i j:Nat}{x:Str}(a:N[i]?=↥x)(b:N[j]?=↥x):i=j:=by
 obtain⟨e,e1⟩:=bi.mp a;obtain⟨d,e2⟩:=bi.mp b;exact(adE c).mp (e1.trans e2.symm)
def Bi{M:Model}{i:Nat}{x:Str}{v:V}{u:Value}(I:Inv X pins σ H s)(hN:X.N.Nodup)(C:X.N[i]?=↥x)(g:Loc X.env.scope x)(r:RelV v u)
  (h:∀O,Inv X pins (σ.set i ↥v) H O->(∃a,iS a s.heap O.heap/\(a=X.env.locals\/X.env.cells.lookup x=↥a))->Q () O) (hf:X.fn x=true\/X.env.scope.names.lookup x=↥.local:=by first|exact .inl rfl|exact .inr rfl|assumption):wpAny M A (storeName X.env x u) Q E s:=by
 ext(⟨m,W,Z⟩:id I.loc);have FO:(X.env.scope.kind==.class||(X.env.scope.kind==.module&&X.env.locals != X.env.globals))=false:=by rw[I.ok.kind];rfl
 have UP:i<σ.length:=[I.len]\(bi.mp C).1
 have KO:=I.KO;have tracked:∀{a:Addr} {h':Heap},(∃o,s.heap.get? a=↥o/\H a=none)->iS a s.heap h'->ki H h':=λ{a h'} ha f b ob e=>by
  ext(⟨_,_,UU⟩:ha);exact(I.cI b ob e).lK λF q=>(f.2 b (by rintro rfl;rw[UU]at e;cases e)).trans q
 ext((t|t):g)
 ·refine wpAny_storeName_local t W (λh' xy f=>?_) FO;ext(⟨oL,_,_,UK,_⟩:id W);refine h _ ⟨I.ok,I.os,I.bare,⟨λb o e n B g=>?_,λb o e n B g=>?_,I.base.free,λb o e g=>?_,I.base.nJ,I.base.mW⟩,⟨_,xy,λj y J e1 e2 e3=>?_⟩,λy c e=>?_,I.free,I.gc,λp U=>?_,tracked ⟨oL,UK,I.free⟩ f,⇑I.len⟩ ⟨_,f,.inl rfl⟩
  ·exact(f.2 b (aaw (aam (aan e) I.ok.above))).trans (I.base.keep b o e n B g)
  ·ext(⟨L,e1⟩:I.base.slot b o e n B g);exact⟨L,(f.2 b (aaw (aam (aan e) I.ok.above))).trans e1⟩
  ·ext(⟨S,e1⟩:I.base.there b o e g);exact⟨S,(f.2 b (aaw (aam (aan e) I.ok.above))).trans e1⟩
  ·by_cases w:j=i
   ·subst w;rw[C]at e1;cases e1;rw[eo UP]at e2;cases e2;exact⟨u,r,.inl ⟨t,by simp⟩⟩
   ·rw[cb (ip w)]at e2;ext(⟨K,P,q⟩:Z j y J e1 e2 e3);refine⟨K,P,?_⟩;ext((⟨k,e⟩|⟨k,c,e,z⟩):q)
    ·refine .inl ⟨k,?_⟩;have:y≠x:=λe=>w (vT hN e1 (e▸C));simp[this,e]
    ·exact .inr ⟨k,c,e,z.sameBut f (KO y c e)⟩
  ·ext(⟨F,z⟩:I.cell y c e);exact⟨F,z.sameBut f (KO y c e)⟩
  ·ext(⟨e,n,ne,T,d⟩:I.pin p U);exact⟨(f.2 p.1 ne).trans e,n,ne,T,d⟩
 ·have R:X.fn x=true:=by
   ext((z|z):hf)
   ·exact z
   ·rw[z]at t;cases t
  ext(⟨c,l⟩:I.ok.has x (.inl t))(⟨F,z⟩:I.cell x c l);refine wpAny_storeName_cell I.ok.kind t l z (λh' CO f=>?_);ext(⟨Y,Xi,Z6⟩:id z);refine h { s with heap:=h' } ⟨I.ok,I.os,I.bare,⟨λb o e n B g=>?_,λb o e n B g=>?_,I.base.free,λb o e g=>?_,I.base.nJ,I.base.mW⟩,⟨m,W.sameBut f (acW (KO x c l)),λj y J e1 e2 e3=>?_⟩,λy G e=>?_,I.free,I.gc,λp U=>?_,tracked ⟨Y,Xi,I.gc x c l⟩ f,⇑I.len⟩ ⟨c,f,.inr l⟩
  ·exact(f.2 b (aaw (aam (aan e) (I.ok.MT x c R l)))).trans (I.base.keep b o e n B g)
  ·ext(⟨L,e1⟩:I.base.slot b o e n B g);exact⟨L,(f.2 b (aaw (aam (aan e) (I.ok.MT x c R l)))).trans e1⟩
  ·ext(⟨S,e1⟩:I.base.there b o e g);exact⟨S,(f.2 b (aaw (aam (aan e) (I.ok.MT x c R l)))).trans e1⟩
  ·by_cases w:j=i
   ·subst w;rw[C]at e1;cases e1;rw[eo UP]at e2;cases e2;exact⟨u,r,.inr ⟨.inl t,c,l,CO⟩⟩
   ·rw[cb (ip w)]at e2;ext(⟨K,P,q⟩:Z j y J e1 e2 e3);refine⟨K,P,?_⟩;ext((q|⟨k,G,e,z'⟩):q)
    ·exact .inl q
    ·refine .inr ⟨k,G,e,z'.sameBut f ?_⟩;rintro rfl;exact w (vT hN e1 (I.ok.inj _ _ _ e l▸C))
  ·by_cases D:G=c
   ·subst D;exact⟨_,CO⟩
   ·ext(⟨w2,z2⟩:I.cell y G e);exact⟨w2,z2.sameBut f D⟩
  ·ext(⟨e,n,ne,T,d⟩:I.pin p U);refine⟨(f.2 p.1 ?_).trans e,n,ne,T,d⟩;intro q;rw[q,Xi]at e;have q':Y=p.2:=aaI e;exact d F ([-q']\Z6)
def iq{M:Model}{i:Nat}{x:Str}{v:V}{u:Value}(I:Inv X pins σ H s)(d:X.N.Nodup)(c:X.N[i]?=↥x)(b:Loc X.env.scope x)(r:RelV v u)
  (h:∀a,Inv X pins (σ.set i ↥v) H a->Q () a) (hf:X.fn x=true\/X.env.scope.names.lookup x=↥.local:=by first|exact .inl rfl|exact .inr rfl|assumption):wpAny M A (storeName X.env x u) Q E s :=
 Bi I d c b r (λa e _=>h a e) hf
def Inv.AS{s':am}(I:Inv X pins σ H s)(g:s'.os=s.os)(u:Un (mY X.stack) ch H H' s.heap s'.heap)(i:ki H' s'.heap)(h:tU s'.gens)
  (j:∀b∈ch,(b∈X.ex\/X.s₀.heap.objs.size<=b)/\b≠X.env.locals/\(∀x c,X.env.cells.lookup x=↥c->c≠b)/\∀p∈X.pn++pins,p.1≠b):Inv X pins σ H' s':=by
 ext(⟨h',a,d,t',f⟩:s');have e:f=s.os:=g;subst e;exact I.call (g':=a) (t':=t') (d':=d) u i h j
end
abbrev XK:=Value->Option Addr->Hp->Prop
abbrev St:=List (Option V)
abbrev VK:=V->Hp->Prop
abbrev TE:=St->Hp->VK->Prop
abbrev TT:=St->Hp->(Bool->Hp->Prop)->Prop
abbrev TA:=St->Hp->(ah->Hp->Prop)->Prop
structure Ends where
 nx:St->Hp->Prop
 rt:VK
 bk:St->Hp->Prop:=λ_ _=>False
 ct:St->Hp->Prop:=λ_ _=>False
abbrev TS:=Ends->St->Hp->Prop
def EP(X:Cx)(pins:au)(b:St)(Q:VK)(u:Value)(s':am):Prop:=∃v a,Inv X pins b a s'/\RelV v u/\Q v a
def TP(X:Cx)(pins:au)(c:St)(Q:Bool->Hp->Prop)(b:Bool)(s':am):Prop:=∃a,Inv X pins c a s'/\Q b a
def AP(X:Cx)(pins:au)(c:St)(Q:ah->Hp->Prop)(d:aw)(s':am):Prop:=∃a b,Inv X pins c b s'/\Vals a d/\Q a b
def SP(X:Cx)(pins:au)(D:Ends)(f:Flow)(s':am):Prop :=
 match f with
 |.next=>∃a b,Inv X pins a b s'/\D.nx a b
 |.brk=>∃a b,Inv X pins a b s'/\D.bk a b
 |.cont=>∃a b,Inv X pins a b s'/\D.ct a b
 |.ret u=>∃v a b,Inv X pins a b s'/\RelV v u/\D.rt v b
def PE(X:Cx)(e:Expr)(t:TE):Prop :=
 ∀(pins:au) (s:am) (a:St) (H:Hp) (Q:VK),Inv X pins a H s->t a H Q->⇑0 (eval e X.env) (EP X pins a Q) X.xe s
def PT(X:Cx)(e:Expr)(t:TT):Prop :=
 ∀(pins:au) (s:am) (a:St) (H:Hp) (Q:Bool->Hp->Prop),Inv X pins a H s->t a H Q->⇑0 (Rv e X.env (eval e X.env)) (TP X pins a Q) X.xe s
def PW(X:Cx)(e:Expr)(t:TT):Prop :=
 ∀(whole:Sem Value) (pins:au) (s:am) (a:St) (H:Hp) (Q:Bool->Hp->Prop),Inv X pins a H s->t a H Q->⇑0 (Rv e X.env whole) (TP X pins a Q) X.xe s
def PW.pt{X:Cx}{e:Expr}{t:TT}(h:PW X e t):PT X e t:=h _
def PA(X:Cx)(es:aj)(t:TA):Prop :=
 ∀(pos:Pos) (pins:au) (s:am) (a:St) (H:Hp) (Q:ah->Hp->Prop),Inv X pins a H s->t a H Q->⇑0 (yaf (nU pos (cj es X.env))) (AP X pins a Q) X.xe s
def PS(X:Cx)(st:Stmt)(t:TS):Prop :=
 ∀(pins:au) (s:am) (a:St) (H:Hp) (D:Ends),Inv X pins a H s->t D a H->⇑0 (exec st X.env) (SP X pins D) X.xe s
def gS(X:Cx)(st:aQ)(t:TS):Prop :=
 ∀(pins:au) (s:am) (a:St) (H:Hp) (D:Ends),Inv X pins a H s->t D a H->⇑0 (execs st X.env) (SP X pins D) X.xe s
def dD{b:Type}{t:Sem b}{Q c:b->am->Prop}{M:Model}{s:am}(h:wpAny M A t Q E s)(d:∀a s,Q a s->c a s):wpAny M A t c E s:=aaX h d λ_ _ x=>x
end L2
namespace L2
open PySem PySem.Spec PyProof.Rows
variable {E Q:Value->am->Prop}{pos:Pos}{σ:L2.St}
section
variable {X:Cx}
def mw(i:Nat):TE:=λσ H Q=>∃v,σ[i]?=↥↥v/\Q v H
def tC(v:V):TE:=λ_ H Q=>Q v H
def iP{i:Nat}{x:Str}(o:X.N[i]?=↥x)(g:MY X.env.scope x)(hd:(x==⇑9)=false:=by decide)(f:(x==("__classdict__" : Str))=false:=by decide):PE X (.Name x pos) (mw i):=by
 intro pins s σ H Q I h;ext(⟨v,e,h⟩:h)(⟨m,j,n⟩:I.loc)(⟨u,r,l⟩:n i x v o e g);have fin:EP X pins σ Q u s:=⟨v,H,I,r,h⟩
 ext((⟨b,k⟩|⟨b,c,d,a⟩):l)
 ·exact yaL (YV I.ok.kind b j k fin) hd
 ·ext((b|b):b)
  ·exact yaL (yab I.ok.kind b d a fin) hd
  ·exact yaL (wpAny_loadName_free I.ok.kind b d a fin f) hd
def Oe{i j pos}:PE X (.Constant ↑i j pos) (tC ↑i):=λ_ _ _ H _ I h=>wpAny_Constant_int ⟨.int i,H,I.tok _,⟨_,rfl⟩,h⟩
def L4{b j pos}:PE X (.Constant (.bool b) j pos) (tC (.bl b)):=λ_ _ _ H _ I h=>Constant_bool ⟨.bl b,H,I,rfl,h⟩
def El{j pos}:PE X (.Constant .none j pos) (tC .bX):=λ_ _ _ H _ I h=>Constant_none ⟨.bX,H,I,rfl,h⟩
def o_{x j pos}:PE X (.Constant (.str x) j pos) (tC (.str x)):=λ_ _ _ H _ I h=>Calls.Constant_str ⟨.str x,H,I.tok _,⟨_,rfl⟩,h⟩
def Gl(X:Cx)(x:Str):Prop:=X.env.kindOf x=↥.globalImplicit
def tR{pins:au}{s:am}{H:Hp}{x:Str}{u:Value}(I:Inv X pins σ H s)(b:Gl X x)(a:X.mg x=↥u)(h:Q u s)
  (hd:(x==⇑9)=false:=by decide):⇑0 (eval (.Name x pos) X.env) Q E s :=
 acH I.ok.kind b (adn ([I.ok.glob]\I.mod.glob.keeps I.bk) a h) hd
def fB{pins:au}{s:am}{H:Hp}{x:Str}{u:Value}(I:Inv X pins σ H s)(c:Gl X x)(b:X.mg x=none)(a:j_ x=↥u)(h:Q u s)
  (hn:x ≠ "__name__":=by decide) (hd:(x==⇑9)=false:=by decide):⇑0 (eval (.Name x pos) X.env) Q E s:=by
 ext(⟨f,e,d⟩:I.mod.blt);exact acH I.ok.kind c (Calls.loadGlobal_builtin ([I.ok.glob]\I.mod.glob.keeps I.bk) b ([I.ok.blt]\e.keeps I.bk) ((d x hn).trans a) h) hd
def zR{x:Str}{v:V}{u:Value}(b:Gl X x)(a:X.mg x=↥u)(r:RelV v u)(hd:(x==⇑9)=false:=by decide):PE X (.Name x pos) (tC v) :=
 λ_ _ _ H _ I h=>tR I b a ⟨v,H,I,r,h⟩ hd
def zT{x:Str}{v:V}{u:Value}(c:Gl X x)(b:X.mg x=none)(a:j_ x=↥u)(r:RelV v u)(hn:x ≠ "__name__":=by decide)(hd:(x==⇑9)=false:=by decide):PE X (.Name x pos) (tC v) :=
 λ_ _ _ H _ I h=>fB I c b a ⟨v,H,I,r,h⟩ hn hd
variable {a b:Expr}{ta tb:TE}{pos:Pos}
def PC(X:Cx)(op:CmpOp)(a b:Expr)(t:TE):Prop :=
 ∀(pins:au) (s:am) (σ:St) (H:Hp) (Q:VK),Inv X pins σ H s->t σ H Q ->
  ⇑0 (eval a X.env) (λv d=>⇑0 (eval b X.env) (λu c=>⇑0 (kq op v u) (EP X pins σ Q) X.xe c) X.xe d) X.xe s
def EH(b:Expr){op:CmpOp}(h:op≠.In)(c:op≠.NotIn):lv op b=false:=by
 have e1:(op==CmpOp.In)=false:=by cases op<;>first|rfl|exact absurd rfl h
 have e2:(op==ya4)=false:=by cases op<;>first|rfl|exact absurd rfl c
 cases b<;>simp[lv,e1,e2]
def Sy(ta:TE):TE:=λσ H Q=>ta σ H λx c=>Q (.bl (!decide (x=.bX))) c
def RelV.ED{x:V}{v:Value}(r:RelV x v):(v==ft)=decide (x=.bX):=by
 cases x with
 |bX=>cases r;rfl
 |bl _=>cases r;rfl
 |int _=>ext(⟨t,rfl⟩:r);rfl
 |str _=>ext(⟨t,rfl⟩:r);rfl
 |XM _=>ext(⟨t,rfl⟩:r);rfl
 |Xx _=>ext(⟨t,rfl⟩:r);rfl
 |ref _=>cases r;rfl
 |ty _=>cases r;rfl
def Jl{j pos'}(c:PE X a ta):PC X .IsNot a (.Constant .none j pos') (Sy ta):=by
 intro pins s σ H Q I h;refine dD (c pins s σ H _ I h) λv g d=>?_;ext(⟨x,f,e,r1,q1⟩:d);exact Constant_none (isnot_none_gen ⟨.bl _,f,e,by rw[r1.ED];rfl,q1⟩)
def tB(t:TE):TT:=λσ H Q=>t σ H λx d=>∃c,x=.bl c/\Q c d
def N6{op:CmpOp}{t:TE}(h:PC X op a b t)(e:lv op b=false:=by first|exact EH _ ⇑4 ⇑4|rfl):PT X (.Compare a [op] [b] pos) (tB t):=by
 intro pins s σ H Q I hw;refine VT (dD (h pins s σ H _ I hw) λv m e=>dD e λu l f=>dD f λc k g=>?_) e;ext(⟨x,j,i,r1,q1⟩:g)(⟨d,rfl,q⟩:q1);cases r1;exact abU ⟨j,i,q⟩
def s_{e:Expr}{t:TE}(h:PE X e t)(he:∀whole,Rv e X.env whole=(do let v <- whole;standAt e.pos;holding [v] (truthy v)):=by intro _;rfl):PT X e (tB t):=by
 intro pins s σ H Q I hw;refine isTrue_plain (dD (h pins s σ H _ I hw) λv i c=>?_) (he _);ext(⟨x,g,f,r1,q1⟩:c)(⟨d,rfl,q⟩:q1);cases r1;exact abU ⟨g,f,q⟩
variable {tA WH:TT}{rest:aj}
def SH(t u:TT):TT:=λσ H Q=>t σ H λc d=>if c=true then u σ d Q else Q false d
def tOr(t u:TT):TT:=λσ H Q=>t σ H λc d=>if c=true then Q true d else u σ d Q
def Yk(t:TT):TT:=λσ H Q=>t σ H λc d=>Q (!c) d
def zK(d:PT X a tA):PW X (.BoolOp .And [a] pos) tA:=by
 intro f pins s σ H Q I h;refine isTrue_and (dD (d pins s σ H Q I h) λc g e=>?_);cases c with
 |true=>exact isTrue_and_nil e
 |false=>exact e
def D2(d:PT X a tA):PW X (.BoolOp .Or [a] pos) tA:=by
 intro f pins s σ H Q I h;refine isTrue_or (dD (d pins s σ H Q I h) λc g e=>?_);cases c with
 |false=>exact isTrue_or_nil e
 |true=>exact e
def D3(j:PT X a tA)(i:PW X (.BoolOp .And (b::rest) pos) WH):PW X (.BoolOp .And (a::b::rest) pos) (SH tA WH):=by
 intro f pins s σ H Q I h;refine isTrue_and (dD (j pins s σ H _ I h) λc g ⟨e,d,q1⟩=>?_);cases c with
 |true=>exact i f pins g σ e Q d q1
 |false=>exact⟨e,d,q1⟩
def LK(j:PT X a tA)(i:PW X (.BoolOp .Or (b::rest) pos) WH):PW X (.BoolOp .Or (a::b::rest) pos) (tOr tA WH):=by
 intro f pins s σ H Q I h;refine isTrue_or (dD (j pins s σ H _ I h) λc g ⟨e,d,q1⟩=>?_);cases c with
 |true=>exact⟨e,d,q1⟩
 |false=>exact i f pins g σ e Q d q1
def tf(d:PT X a tA):PT X (.UnaryOp .Not a pos) (Yk tA):=by
 intro pins s σ H Q I h;exact isTrue_not (d pins s σ H (λc e=>Q (!c) e) I h)
def Lw(ta tb:TE):TE:=λσ H Q=>ta σ H λx d=>∃c,x=.bl c/\if c=true then tb σ d Q else Q (.bl false) d
def Sv(ta tb:TE):TE:=λσ H Q=>ta σ H λx d=>∃c,x=.bl c/\if c=true then Q (.bl true) d else tb σ d Q
def Sw(ta:TE):TE:=λσ H Q=>ta σ H λx d=>∃c,x=.bl c/\Q (.bl (!c)) d
def Ek{op}{t:TE}(h:PE X a t):PE X (.BoolOp op [a] pos) t:=λpins s σ H Q I hw=>BoolOp_one (h pins s σ H Q I hw)
def Of(i:PE X a ta)(g:PE X (.BoolOp .And (b::rest) pos) tb):PE X (.BoolOp .And (a::b::rest) pos) (Lw ta tb):=by
 intro pins s σ H Q I h;refine BoolOp_and (dD (i pins s σ H _ I h) λv f j=>?_);ext(⟨x,e,d,r1,q1⟩:j)(⟨c,rfl,q1⟩:q1);cases r1;refine abU ?_;cases c with
 |true=>exact g pins f σ e Q d q1
 |false=>exact⟨.bl false,e,d,rfl,q1⟩
def Tv(i:PE X a ta)(g:PE X (.BoolOp .Or (b::rest) pos) tb):PE X (.BoolOp .Or (a::b::rest) pos) (Sv ta tb):=by
 intro pins s σ H Q I h;refine BoolOp_or (dD (i pins s σ H _ I h) λv f j=>?_);ext(⟨x,e,d,r1,q1⟩:j)(⟨c,rfl,q1⟩:q1);cases r1;refine abU ?_;cases c with
 |false=>exact g pins f σ e Q d q1
 |true=>exact⟨.bl true,e,d,rfl,q1⟩
def Od(d:PE X a ta):PE X (.UnaryOp .Not a pos) (Sw ta):=by
 intro pins s σ H Q I h;refine UnaryOp_ (dD (d pins s σ H _ I h) λv i e=>?_);ext(⟨x,g,f,r1,q1⟩:e)(⟨c,rfl,q1⟩:q1);cases r1;exact not_of (abU ⟨.bl (!c),g,f,rfl,q1⟩)
end
end L2
namespace L2
open PySem PySem.Spec PyProof.Rows
def eA(K:av)(H:Hp)(a:Addr)(xs:ah):Prop :=
 Rd H a (.lst xs) \/
  ∃(o:Obj) (b:aZ) (n:Nat),K.lookup a=↥o/\o.cls=.type "list" /\ o.dict=none/\o.data=.seq b n/\b.size<=sizeLine/\Vals xs b.toList
def a_(K:av)(H:Hp)(a:Addr)(xs:ah):Prop :=
 Rd H a (.tup xs) \/
  ∃(o:Obj) (b:aZ) (n:Nat),K.lookup a=↥o/\o.cls=.type "tuple" /\ o.data=.seq b n/\b.size<=sizeLine/\Vals xs b.toList
meta def abD:Value->Option V
 |.none=>↥.bX
 |.bool b=>↥(.bl b)
 |.int i _=>↥↑i
 |.str x _=>↥(.str x)
 |.bytes b _=>↥(.XM b)
 |.float b _=>↥(.Xx b)
 |.ref a=>↥(.ref a)
 |.type n=>↥(.ty n)
 |_=>none
def RelV.abs{x:V}{u:Value}(r:RelV x u):abD u=↥x:=by
 cases x with
 |bX=>cases r;rfl
 |bl _=>cases r;rfl
 |int _=>ext(⟨t,rfl⟩:r);rfl
 |str _=>ext(⟨t,rfl⟩:r);rfl
 |XM _=>ext(⟨t,rfl⟩:r);rfl
 |Xx _=>ext(⟨t,rfl⟩:r);rfl
 |ref _=>cases r;rfl
 |ty _=>cases r;rfl
def RelV.inj{x y:V}{u:Value}(r:RelV x u)(q:RelV y u):x=y:=aaI (r.abs.symm.trans q.abs)
theorem Vals.inj:∀{xs a:ah} {b:aw},Vals xs b->Vals a b->xs=a
 |_,_,_,.nil,.nil=>rfl
 |_,_,_,.cons r t,.cons r' t'=>by rw[r.inj r',Vals.inj t t']
variable {K:av}
section
variable {X:Cx}{pins:au}{σ:St}{H:Hp}{s:am}{a:Addr}{xs ys:ah}
def eA.of(h:H a=↥(.lst xs)):eA K H a xs:=.inl (.inl h)
def a_.of(h:H a=↥(.tup xs)):a_ K H a xs:=.inl (.inl h)
def Inv.list(I:Inv X pins σ H s)(h:eA X.K H a xs):∃b:aw,Vals xs b/\PlainL s.heap a b.toArray/\xs.length<=sizeLine:=by
 ext((h|⟨o,b,n,d,f,hd,c,g,r⟩):h)
 ·ext(⟨z,b,n,r,e⟩:h.ok I.cI);exact⟨b,r,⟨_,n,e,rfl,rfl,rfl⟩,z⟩
 ·refine⟨b.toList,r,⟨o,n,I.CK a o d,f,hd,⇑c⟩,?_⟩;have e:=r.length;simp only[zao]at e;left
def Inv.tuple(I:Inv X pins σ H s)(h:a_ X.K H a xs):∃b:aw,Vals xs b/\IsTup s.heap a b.toArray/\xs.length<=sizeLine:=by
 ext((h|⟨o,b,n,d,f,c,g,r⟩):h)
 ·ext(⟨z,b,r,p⟩:h.ok I.cI);exact⟨b,r,p,z⟩
 ·refine⟨b.toList,r,⟨o,I.CK a o d,f,n,⇑c⟩,?_⟩;have e:=r.length;simp only[zao]at e;left
def Inv.lQ(I:Inv X pins σ H s)(h:eA X.K H a xs)(h':eA X.K H a ys):xs=ys:=by
 ext(⟨i,r,⟨o,n,e,_,_,d⟩,_⟩:I.list h)(⟨b,g,⟨j,k,c,_,_,f⟩,_⟩:I.list h');rw[e]at c;cases c;rw[d]at f;injection f with d1 _;have:i=b:=⇑(congrArg yaI d1)
 subst this;exact r.inj g
def Inv.rb(I:Inv X pins σ H s)(h:a_ X.K H a xs)(h':a_ X.K H a ys):xs=ys:=by
 ext(⟨i,r,⟨o,e,_,n,d⟩,_⟩:I.tuple h)(⟨b,g,⟨j,c,_,k,f⟩,_⟩:I.tuple h');rw[e]at c;cases c;rw[d]at f;injection f with d1 _;have:i=b:=⇑(congrArg yaI d1)
 subst this;exact r.inj g
end
noncomputable abbrev Cx.oS(X:Cx)(E:aB):Cx:={ X with xe:=E }
abbrev Cx.ya(X:Cx):Cx:=X.oS λ_ _=>False
theorem Cx.Ok.oS{X:Cx}(ok:X.Ok)(E:aB):(X.oS E).Ok :=
 ⟨ok.mod,ok.kind,ok.glob,ok.blt,ok.above,ok.inj,ok.has,ok.MT,ok.hd,ok.frames,ok.NB,ok.VH,ok.bs,ok.G7,ok.vS,ok.yx,ok.kR,ok.CT⟩
variable {E:Value->am->Prop}{X:Cx}
def Cx.Ok.iK(ok:(X.oS E).Ok):X.Ok :=
 ⟨ok.mod,ok.kind,ok.glob,ok.blt,ok.above,ok.inj,ok.has,ok.MT,ok.hd,ok.frames,ok.NB,ok.VH,ok.bs,ok.G7,ok.vS,ok.yx,ok.kR,ok.CT⟩
section
variable {X:Cx}{pins:au}{σ:St}{H:Hp}{s:am}{E:aB}
theorem Inv.oS(I:Inv X pins σ H s)(E:aB):Inv (X.oS E) pins σ H s:=⟨I.ok.oS E,I.os,I.bare,I.base,I.loc,I.cell,I.free,I.gc,I.pin,I.cI,I.len⟩
theorem Inv.iK(I:Inv (X.oS E) pins σ H s):Inv X pins σ H s:=⟨I.ok.iK,I.os,I.bare,I.base,I.loc,I.cell,I.free,I.gc,I.pin,I.cI,I.len⟩
theorem SP.iK{D:Ends}{f:Flow}{s':am}(h:SP (X.oS E) pins D f s'):SP X pins D f s':=by
 cases f with
 |next=>ext(⟨a,b,I,q⟩:h);exact⟨a,b,I.iK,q⟩
 |brk=>ext(⟨a,b,I,q⟩:h);exact⟨a,b,I.iK,q⟩
 |cont=>ext(⟨a,b,I,q⟩:h);exact⟨a,b,I.iK,q⟩
 |ret u=>ext(⟨v,a,b,I,r,q⟩:h);exact⟨v,a,b,I.iK,r,q⟩
theorem gS.ya{st:aQ}{t:TS}(h:gS X.ya st t):gS X st t:=λpins s σ H D I hw =>
 aaX (h pins s σ H D (I.oS _) hw) (λ_ _ q=>q.iK) λ_ _ z=>ml z
end
variable {σ:L2.St}
section
variable {X:Cx}{st:Stmt}{rest:aQ}{t u:TS}{e:Expr}{te:TE}{pos:Pos}
def Sz:TS:=λD σ H=>D.nx σ H
def Yh(t u:TS):TS:=λD σ H=>t { D with nx:=u D } σ H
def tj:gS X [] Sz:=λ_ _ σ H _ I h=>ac8 ⟨σ,H,I,h⟩
def cG(d:PS X st t)(c:gS X rest u):gS X (st::rest) (Yh t u):=by
 intro pins s σ H D I h;refine ya8 (dD (d pins s σ H { D with nx:=u D } I h) λf b q=>?_);cases f with
 |next =>
  ext(⟨a,i,g,q⟩:q);exact c pins b a i D g q
 |ret v=>exact q
 |brk=>exact q
 |cont=>exact q
def gA(a:PS X st t):gS X [st] t:=by
 intro pins s σ H D I h;refine ya8 (dD (a pins s σ H D I h) λf b q=>?_);cases f with
 |next=>exact ac8 q
 |ret v=>exact q
 |brk=>exact q
 |cont=>exact q
def Inv.quiet{pins:au}{H:Hp}{s:am}(I:Inv X pins σ H s):interactive X.env=false:=by simp[interactive,I.ok.kind]
def SD(te:TE):TS:=λD σ H=>te σ H λ_ a=>D.nx σ a
def lN(he:PE X e te)(hs:mR e none pos.line X.env=pure false:=by rfl):PS X (.Expr e pos) (SD te):=by
 intro pins s σ H D I h;exact wpAny_Expr_any (dD (he pins s σ H _ I h) λv c ⟨x,b,a,r1,q1⟩=>⟨σ,b,a,q1⟩) I.quiet hs
def Yi(te:TE):TS:=λD σ H=>te σ H D.rt
def mL(he:PE X e te):PS X (.Return ↥e pos) (Yi te):=by
 intro pins s σ H D I h;exact wpAny_Return_some (dD (he pins s σ H _ I h) λv c ⟨x,b,a,r1,q1⟩=>⟨x,σ,b,a,r1,q1⟩)
def Yo(c:TT)(t u:TS):TS:=λD σ H=>c σ H λb a=>if b=true then t D σ a else u D σ a
def vI{c:Expr}{a b:aQ}{f:TT}(k:PT X c f)(m:gS X a t)(l:gS X b u):PS X (.If c a b pos) (Yo f t u):=by
 intro pins s σ H D I h;refine wpAny_If (dD (k pins s σ H _ I h) λd g ⟨j,i,q1⟩=>?_);cases d with
 |true=>exact m pins g σ j D i q1
 |false=>exact l pins g σ j D i q1
def Ny:TS:=λ_ _ _=>False
end
abbrev TG:=V->St->Hp->(St->Hp->Prop)->Prop
abbrev HH:=ah->St->Hp->(St->Hp->Prop)->Prop
def PG(X:Cx)(target:Expr)(t:TG):Prop :=
 ∀(pins:au) (s:am) (σ:St) (H:Hp) (v:V) (u:Value) (Q:St->Hp->Prop),Inv X pins σ H s->RelV v u->t v σ H Q ->
  ⇑0 (Aj target X.env u) (λ_ c=>∃a b,Inv X pins a b c/\Q a b) X.xe s
def Rh(X:Cx)(d:aj)(t:HH):Prop :=
 ∀(pins:au) (s:am) (σ:St) (H:Hp) (vs:ah) (b:aw) (Q:St->Hp->Prop),Inv X pins σ H s->Vals vs b->t vs σ H Q ->
  ⇑0 (SL ((hG d X.env).map (·.2)) b) (λ_ e=>∃a c,Inv X pins a c e/\Q a c) X.xe s
abbrev XW:=V->V->Hp->VK->Prop
def Wt(X:Cx)(op:ny)(t:XW):Prop :=
 ∀(pins:au) (s:am) (σ:St) (H:Hp) (x y:V) (v u:Value) (Q:VK),Inv X pins σ H s->RelV x v->RelV y u->t x y H Q ->
  ⇑0 (inplaceOp op v u) (EP X pins σ Q) X.xe s
variable {es:aj}{pos':Pos}{te:TE}{tg:Expr}
section
variable {X:Cx}{pos:Pos}
def pU(i:Nat):TG:=λv σ H Q=>Q (σ.set i ↥v) H
def tw{i:Nat}{x:Str}(c:X.N.Nodup)(b:X.N[i]?=↥x)(a:Loc X.env.scope x)(hf:X.fn x=true\/X.env.scope.names.lookup x=↥.local:=by first|exact .inl rfl|exact .inr rfl|assumption):PG X (.Name x pos) (pU i):=by
 intro pins s σ H v u Q I r h;exact wpAny_assign_Name (iq I c b a r (λe d=>⟨_,H,d,h⟩) hf)
def PV:HH:=λa σ H Q=>a=[]/\Q σ H
def F6(t:TG)(u:HH):HH:=λb σ H Q=>∃v r,b=v::r/\t v σ H λa c=>u r a c Q
def zP:Rh X [] PV:=by
 intro pins s σ H a b Q I r h;ext(⟨e,h⟩:h);subst e;cases r;exact yaT ⟨σ,H,I,h⟩
def vL{e:Expr}{t:TG}{u:HH}(f:PG X e t)(d:Rh X es u)
  (hs:(hG (e::es) X.env).map (·.2)=Aj e X.env::(hG es X.env).map (·.2):=by rfl):Rh X (e::es) (F6 t u):=by
 intro pins s σ H k m Q I r h;ext(⟨v,l,e1,h⟩:h);subst e1;cases r with
 |cons r c =>
  rw[hs];refine Ai (dD (f pins s σ H _ _ _ I r h) λ_ b g=>?_);ext(⟨a,j,i,q1⟩:g);exact d pins b a j _ _ Q i c q1
def aaS(K:av)(n:Nat)(t:HH):TG:=λv σ H Q=>∃a b,v=.ref a/\a_ K H a b/\b.length=n/\t b σ H Q
def Eg{k:Nat}{t:HH}{n:Nat}(m:X.calm=true)(h:Rh X es t)
  (hn:(hG es X.env).length=n:=by rfl) (f:(hG es X.env).findIdx? (·.1)=none:=by rfl):PG X (.Tuple es k pos) (aaS X.K n t):=by
 intro pins s σ H v u Q I r hw;ext(⟨a,d,e1,j,l,hw⟩:hw);subst e1;cases r;ext(⟨x,c,i,w⟩:I.tuple j);refine assign_Tuple_tuple (I.ok.hd m) i (by simp[hn,<- l,c.length]) f λp g=>?_;have q:Inv X pins σ H { s with heap:=p }:=I.kept (t':=s.toks) λb o e=>g b o (aaw (aan e)) e;exact h pins _ σ H d _ Q q ⇑c hw
def SG(te:TE)(g:TG):TS:=λD σ H=>te σ H λx a=>g x σ a D.nx
def D9{e:Expr}{g:TG}(he:PE X e te)(b:PG X tg g)(hs:Ad [tg] e pos.line X.env=pure false:=by rfl)(hw:n7 [tg] e X.env=pure none:=by rfl)
  (c:(hG [tg] X.env).map (·.2)=[Aj tg X.env]:=by rfl):PS X (.Assign [tg] e pos) (SG te g):=by
 intro pins s σ H D I h;refine wpAny_Assign_stores (dD (he pins s σ H _ I h) λv a d=>?_) hs hw;ext(⟨x,i,f,r1,q1⟩:d);exact[c]\dD (b pins a σ i x v _ f r1 q1) λ_ j q=>q
def kM{i:Nat}{x:Str}{e:Expr}(c:X.N.Nodup)(b:X.N[i]?=↥x)(a:Loc X.env.scope x)(he:PE X e te)(hs:mR e ↥(.Name x pos') pos.line X.env=pure false:=by rfl)(hf:X.fn x=true\/X.env.scope.names.lookup x=↥.local:=by first|exact .inl rfl|exact .inr rfl|assumption):
  PS X (.Assign [.Name x pos'] e pos) (SG te (pU i)):=by
 intro pins s σ H D I h;refine wpAny_Assign_Name (dD (he pins s σ H _ I h) λv l d=>?_) hs;ext(⟨y,j,g,r1,q1⟩:d);exact iq g c b a r1 (λk f=>⟨_,j,f,q1⟩) hf
def Yj(i j:Nat)(b:TA):TS:=λD σ H=>b σ H λa c=>∃v w,a=[v,w]/\D.nx ((σ.set i ↥v).set j ↥w) c
def N7{i j:Nat}{x y:Str}{a b:Expr}{f:TA}{px d pt:Pos}{kt k2 Rt}(L:X.calm=true)(l:X.N.Nodup)(J:X.N[i]?=↥x)(G:X.N[j]?=↥y)(O:i≠j)
  (k:X.env.scope.names.lookup x=↥.local) (g:X.env.scope.names.lookup y=↥.local) (M:PA X [a,b] f)
  (hw:n7 [.Tuple [.Name x px,.Name y d] kt pt] (.Tuple [a,b] k2 Rt) X.env=pure ↥[x,y])
  (hs:Ad [.Tuple [.Name x px,.Name y d] kt pt] (.Tuple [a,b] k2 Rt) pos.line X.env=pure false:=by rfl) :
  PS X (.Assign [.Tuple [.Name x px,.Name y d] kt pt] (.Tuple [a,b] k2 Rt) pos) (Yj i j f):=by
 intro pins s σ H D I h;rw[exec_Assign_arm];refine aab (ad8 ?_);rw[hs];refine aab (aaf ?_);rw[zab ⇑4];refine aab (Tuple_ (dD (M _ pins s σ H _ I h) λu c P=>?_));ext(⟨U,r,T,r1,q1⟩:P)(⟨v,w,e1,q1⟩:q1);subst e1;obtain⟨u1,u2,rfl,z,F⟩:∃u1 u2,u=[u1,u2]/\RelV v u1/\RelV w u2:=by
  cases r1 with
  |cons p q =>
   cases q with
   |cons C B =>
    cases B;exact⟨_,_,rfl,p,C⟩
 refine abF ?_ (by show 2<=sizeLine;decide);have S:Inv X pins σ r { c with heap:=c.heap.push { cls:=.type "tuple",data:=.seq [u1,u2].toArray } }:=T.kept (t':=c.toks) λb o e=>aai _ e;rw[hw];refine aab (aaf ?_);show ⇑0 (do rule "assign.swapped-stores";let items <- unpackItems (.ref c.heap.objs.size) 2 none;SL [λv=>JJ X.env y v,λv=>JJ X.env x v] items.reverse;pure Flow.next) _ _ _;refine aab (acf (aab (yaN (items:=#[u1,u2]) (I.ok.hd L) (XX c.heap _) λm t=>?_)));ext(R:S.kept (h':=m) (t':=c.toks) λb o e=>t b o (aaw (aan e)) e);show wpAny _ _ (SL [λv=>JJ X.env y v,λv=>JJ X.env x v] [u2,u1] >>= λ_=>pure Flow.next) _ _ _;refine aab (Ai (wpAny_bindName (iq R l G (.inl g) F (λW Q=>?_) (.inr g))));refine Ai (wpAny_bindName (iq Q l J (.inl k) z (λV n=>yaT (aaf ?_)) (.inr k)));rw[List.set_comm _ _ (ip O)]at n;exact⟨_,r,n,q1⟩
def Yq(i:Nat)(te:TE)(a:XW):TS:=λD σ H=>∃x,σ[i]?=↥↥x/\te σ H λy c=>a x y c λz b=>D.nx (σ.set i ↥z) b
def D8{i:Nat}{x:Str}{e:Expr}{op:ny}{n:XW}(G:X.N.Nodup)(o:X.N[i]?=↥x)(g:Loc X.env.scope x)(he:PE X e te)(q:Wt X op n)(hf:X.fn x=true\/X.env.scope.names.lookup x=↥.local:=by first|exact .inl rfl|exact .inr rfl|assumption):
  PS X (.AugAssign (.Name x pos') op e pos) (Yq i te n):=by
 intro pins s σ H D I h;ext(⟨v,e1,h⟩:h)(⟨m,t,C⟩:I.loc);have WA:MY X.env.scope x:=by ext((k|k):g);exact .inl k;exact .inr (.inl k)
 ext(⟨u,r,l⟩:C i x v o e1 WA);refine wpAny_AugAssign_Name ?_;have go:⇑0 (eval e X.env) (λw f=>⇑0 (inplaceOp op u w) (λr d=>⇑0 (storeName X.env x r) (λ_=>SP X pins D .next) X.xe d) X.xe f) X.xe s:=by
  refine dD (he pins s σ H _ I h) λw p j=>?_;ext(⟨y,P,M,r1,q1⟩:j);refine dD (q pins p σ P v y u w _ M r r1 q1) λz S j=>?_;ext(⟨Q,O,L,r2,q2⟩:j);exact iq L G o g r2 (λR J=>⟨_,O,J,q2⟩) hf
 ext((⟨a,B⟩|⟨a,c,F,b⟩):l)
 ·exact YV I.ok.kind a t B go
 ·ext((a|a):a)
  ·exact yab I.ok.kind a F b go
  ·ext((k|k):g)
   ·have:X.env.scope.names.lookup x=↥.free:=a;rw[k]at this;cases this
   ·have:X.env.scope.names.lookup x=↥.free:=a;rw[k]at this;cases this
def ZD(f:Int->Int->Int):XW:=λx y H Q=>∃i j,x=.int i/\y=.int j/\Q ↑(f i j) H
def O7:Wt X .Add (ZD λi j=>i+j):=by
 intro pins s σ H x y v u Q I r1 r2 h;ext(⟨i,j,e1,e2,q⟩:h);subst e1;subst e2;ext(⟨t,rfl⟩:r1)(⟨a,rfl⟩:r2);exact iadd_int ⟨.int _,H,I.tok _,⟨_,rfl⟩,q⟩
def O5:Wt X .Sub (ZD λi j=>i - j):=by
 intro pins s σ H x y v u Q I r1 r2 h;ext(⟨i,j,e1,e2,q⟩:h);subst e1;subst e2;ext(⟨t,rfl⟩:r1)(⟨a,rfl⟩:r2);exact isub_int ⟨.int _,H,I.tok _,⟨_,rfl⟩,q⟩
end
section
variable {X:Cx}{pos:Pos}
def Nu(c:TT)(tb:TS):TS:=λD σ H=>∃W:Nat->St->Hp->Prop,(∃m,W m σ H)/\∀m σ H,W m σ H ->
 c σ H λb e=>if b=true then ∃N:St->Hp->Prop,(∀a f,N a f->∃d,d<m/\W d a f)/\tb { D with nx:=N,ct:=N,bk:=D.nx } σ e else D.nx σ e
def D4{c:Expr}{body:aQ}{o:TT}{tb:TS}(p:PassesOwn (model X.prog X.w) X.A X.env X.xe)(F:PT X c o)(G:gS X body tb):PS X (.While c body [] pos) (Nu o tb):=by
 intro pins s σ H D I h;ext(⟨W,⟨C,w0⟩,turn⟩:h);refine wpAny_While (codeAny_whileLoop (λn B=>∃e x,Inv X pins e x B/\W n e x) ?_ C ⟨σ,H,I,w0⟩);rintro n z ⟨d,u,J,w1⟩;refine acG p (dD (F pins z d u _ J (turn n d u w1)) λb y ⟨t,r,q2⟩=>?_);cases b with
 |true =>
  ext(⟨N,q,q2⟩:q2);rw[zac rfl];refine acG p (dD (G pins y d t _ r q2) λf L i=>?_);cases f with
  |next =>
   ext(⟨a,g,m,j⟩:i)(⟨k,l,w3⟩:q a g j);exact⟨k,l,a,g,m,w3⟩
  |cont =>
   ext(⟨a,g,m,j⟩:i)(⟨k,l,w3⟩:q a g j);exact⟨k,l,a,g,m,w3⟩
  |brk=>exact i
  |ret v=>exact i
 |false =>
  exact[zab zal]\ac8 ⟨d,t,r,q2⟩
end
structure It where
 go:Nat->Hp->Prop
 y8:Nat->Hp->V->Hp->Prop
 stop:Nat->Hp->Prop
def qq(X:Cx)(pins:au)(H:Hp)(b:Addr):Prop :=
 H b=none/\b≠X.env.locals/\b∉X.fs/\(b∈X.ex\/X.s₀.heap.objs.size<=b)/\(∀x c,X.env.cells.lookup x=↥c->c≠b)/\∀p∈X.pn++pins,p.1≠b
def Inv.Kf{pins:au}{H H':Hp}{s:am}{b:Addr}(I:Inv X pins σ H s)(a:s.heap.objs.size<=b)(hn:H' b=none):qq X pins H' b:=by
 refine⟨hn,aaH (aam I.lt a),I.Ox a,.inr (aav I.sz a),λx c e z=>?_,λp d z=>?_⟩
 ·ext(⟨v,q⟩:I.cell x c e);exact absurd (aam q.lt ([z]\a)) (abb _)
 ·exact absurd (aam (aan (I.pin p d).1) ([z]\a)) (abb _)
structure Turn(P:aG)(w:World)(K:av)(tg:Expr)(J:It)(fp:aX)(it:Addr)(tn:Nat->Heap->Prop):Prop where
 mem:it∈fp
 obj:∀i h,tn i h->∀b∈fp,∃o,h.get? b=↥o/\∀v,o.data≠.cell v
 keep:∀i h h',tn i h->(∀b∈fp,∀o,h.get? b=↥o->h'.get? b=↥o)->tn i h'
 item:∀(X:Cx),X.prog=P->X.w=w->X.K=K->X.calm=true->∀(i:Nat) (pins:au) (s:am) (σ:St) (H:Hp) (E:aB),Inv X pins σ H s->(∀b∈fp,qq X pins H b)->tn i s.heap->J.go i H ->
  wpAny (model P w) X.A (o1 (.ref it)) (λr s1=>∃u,r=↥u /\
   wpAny (model P w) X.A (v6 tg (.ref it) u) (λ_ s2=>∃x H',Inv X pins σ H' s2/\RelV x u/\J.y8 i H x H'/\tn (i+1) s2.heap/\∀b∈fp,H' b=none) E s1) E s
 done:∀(X:Cx),X.prog=P->X.w=w->X.K=K->X.calm=true->∀(i:Nat) (pins:au) (s:am) (σ:St) (H:Hp) (E:aB),Inv X pins σ H s->(∀b∈fp,qq X pins H b)->tn i s.heap->J.stop i H ->
  wpAny (model P w) X.A (o1 (.ref it)) (λr s1=>r=none/\Inv X pins σ H s1) E s
 self:∀(A:aF) (i:Nat) (s:am) (Q:aB) (E:aB),tn i s.heap->Q (.ref it) s->wpAny (model P w) A (rO (.ref it)) Q E s
abbrev TI:=St->Hp->(It->Hp->Prop)->Prop
def HI(X:Cx)(pins:au)(σ:St)(tg:Expr)(R:It->Hp->Prop)(c:Value)(s2:am):Prop :=
 ∃(it:Addr) (fp:aX) (a:Nat->Heap->Prop) (J:It) (H':Hp),c=.ref it/\Inv X pins σ H' s2/\Turn X.prog X.w X.K tg J fp it a/\a 0 s2.heap/\(∀b∈fp,qq X pins H' b)/\R J H'
def PI(X:Cx)(tg iter:Expr)(a:TI):Prop :=
 ∀(pins:au) (s:am) (σ:St) (H:Hp) (R:It->Hp->Prop),Inv X pins σ H s->a σ H R ->
  ⇑0 (eval iter X.env) (λv b=>⇑0 (rO v) (HI X pins σ tg R) X.xe b) X.xe s
def F1{M:Model}{A:aF}{s:am}{it:Addr}{u:Value}{o:Obj}{n:String}{vs:aZ}{Q:Unit->am->Prop}(b:s.heap.get? it=↥o)(c:o.cls=.type n)(hd:o.data=.fields vs)
    (hn:["enumerate","zip","dict_itemiterator","dict_reverseitemiterator","odict_iterator","itertools.zip_longest","itertools.pairwise"].contains n=false) (a:Q () s):wpAny M A (v6 tg (.ref it) u) Q E s:=by
  unfold v6;cases tg<;>first
    |exact aaf a
    | (cases u<;>first
        |exact aaf a
        | (refine aab (Re b ?_)
           rw[c,hd];show wpAny M A (if (["enumerate","zip","dict_itemiterator","dict_reverseitemiterator","odict_iterator","itertools.zip_longest","itertools.pairwise"].contains n&&vs[0]?==↥(vv _))=true then _ else _) Q E s;rw[zab (by intro h;rw[hn,zaL]at h;cases h)];exact aaf a))
meta def RZ(S:Hp->Addr->ah->Prop)(a:Addr):It :=
 ⟨λi H=>∃b x,S H a b/\b[i]?=↥x,λi H x c=>c=H/\∀b,S H a b->b[i]?=↥x,λi H=>∃b,S H a b/\b.length<=i⟩
abbrev Itl(K:av)(a:Addr):It:=RZ (eA K) a
abbrev Itt(K:av)(a:Addr):It:=RZ (a_ K) a
meta def CD(lo:Int)(n:Nat):It:=⟨λi _=>i<n,λi H x a=>a=H/\x=.int (lo+i),λi _=>n<=i⟩
variable {P:aG}{w:World}
def Bb(a it:Addr):Turn P w K tg (Itl K a) [it] it (λi h=>h.IsListIter it a i) where
 mem:=by simp
 obj:=λi h f b g=>by
  have e:b=it:=⇑g
  subst e;ext(⟨o,e,c,d⟩:f);exact⟨o,e,λv z=>by rw[d]at z;cases z⟩
 keep:=λi h m f k=>f.at λo e=>k it ⇑5 o e
 item:=by
  intro X t hw y G i pins s σ H E I l f r;subst t hw y;ext(⟨L,x,j,q⟩:r)(⟨U,n,p,O⟩:I.list j)(⟨u,R,N⟩:n.get q)(⟨F,D,S,C,B,A⟩:l it ⇑5);refine wpAny_pyNext_list_item f p.isList (x:=u) ⇑R λm J M=>?_;have V:Inv X pins σ H { s with heap:=m }:=I.turned (t':=s.toks) (λb o g e=>(M.2 b g).trans e) F D C B A;ext(⟨o,e,c,d⟩:id J);exact⟨u,rfl,F1 (s:={ s with heap:=m }) e c d ⇑4 ⟨x,H,V,N,⟨rfl,λW Q=>[I.lQ Q j]\q⟩,J,λb g=>(l b g).1⟩⟩
 done:=by
  intro X t hw y G i pins s σ H E I l f r;subst t hw y;ext(⟨L,j,q⟩:r)(⟨U,n,p,O⟩:I.list j)(⟨F,D,S,C,B,A⟩:l it ⇑5);have Y:=n.length;exact wpAny_pyNext_list_end (I.ok.hd G) f p.isList (by simp;left) λm T=>⟨rfl,I.turned (t':=s.toks) (λb o g e=>T b o g e) F D C B A⟩
 self:=λ_ _ _ _ _ f h=>wpAny_pyIter_listiter f h
def xJ(a it:Addr):Turn P w K tg (Itt K a) [it] it (λi h=>h.IsTupleIter it a i) where
 mem:=by simp
 obj:=λi h f b g=>by
  have e:b=it:=⇑g
  subst e;ext(⟨o,e,c,d⟩:f);exact⟨o,e,λv z=>by rw[d]at z;cases z⟩
 keep:=λi h m f k=>f.at λo e=>k it ⇑5 o e
 item:=by
  intro X t hw y J i pins s σ H E I l f r;subst t hw y;ext(⟨M,x,j,q⟩:r)(⟨G,n,p,Q⟩:I.tuple j)(⟨u,S,O⟩:n.get q)(⟨F,D,T,C,B,A⟩:l it ⇑5);refine wpAny_pyNext_tuple_item f (show s.heap.IsTuple a G.toArray from p) (x:=u) ⇑S λm L N=>?_;have V:Inv X pins σ H { s with heap:=m }:=I.turned (t':=s.toks) (λb o g e=>(N.2 b g).trans e) F D C B A;ext(⟨o,e,c,d⟩:id L);exact⟨u,rfl,F1 (s:={ s with heap:=m }) e c d ⇑4 ⟨x,H,V,O,⟨rfl,λW R=>[I.rb R j]\q⟩,L,λb g=>(l b g).1⟩⟩
 done:=by
  intro X t hw y J i pins s σ H E I l f r;subst t hw y;ext(⟨M,j,q⟩:r)(⟨G,n,p,Q⟩:I.tuple j)(⟨F,D,T,C,B,A⟩:l it ⇑5);have Y:=n.length;exact wpAny_pyNext_tuple_end (I.ok.hd J) f (show s.heap.IsTuple a G.toArray from p) (by simp;left) λm U=>⟨rfl,I.turned (t':=s.toks) (λb o g e=>U b o g e) F D C B A⟩
 self:=λ_ _ _ _ _ f h=>wpAny_pyIter_tupleiter f h
def xK(it:Addr)(lo:Int)(n:Nat):Turn P w K tg (CD lo n) [it] it (λi h=>IsRangeIter h it (lo+(i:Nat)*1) ((n:Int) - (i:Nat)) 1) where
 mem:=by simp
 obj:=λi h a b c=>by
  have e:b=it:=⇑c
  subst e;exact⟨_,a,λv z=>by
   have A:Data.fields _=Data.cell v:=z;cases A⟩
 keep:=λi h f a k=>k it ⇑5 _ a
 item:=by
  intro X l hw m j i pins s σ H E I d a g;subst l hw m;ext(⟨x,u,D,r,q,p⟩:d it ⇑5)(W:Walks.range (prog:=X.prog) (w:=X.w) (I.ok.hd j) it lo 1 n);refine W.item i s _ _ g a λv f tk C y B=>?_;ext(⟨t,rfl⟩:C);have G:Inv X pins σ H { s with heap:=f,toks:=tk }:=I.turned (λb o c e=>B b o ⇑c e) x u r q p;refine⟨_,rfl,F1 (s:={ s with heap:=f,toks:=tk }) (n:="range_iterator") y rfl rfl ⇑4 ⟨.int (lo+i),H,G,⟨t,?_⟩,⟨rfl,rfl⟩,y,λb c=>(d b c).1⟩⟩;rw[Int.mul_one]
 done:=by
  intro X l hw m j i pins s σ H E I d a g;subst l hw m;ext(⟨x,u,D,r,q,p⟩:d it ⇑5);exact wpAny_pyNext_range_end (I.ok.hd j) a (by have:n<=i:=g;left) λf F=>⟨rfl,I.turned (t':=s.toks) (λb o c e=>F b o c e) x u r q p⟩
 self:=λ_ _ _ _ _ a h=>wpAny_pyIter_rangeiter a h
end L2
namespace L2
open PySem PySem.Spec PyProof.Rows
variable {fp:aX}{h:Heap}{lo:Int}{pos:Pos}{ta:TA}{σ:L2.St}
section
variable {X:Cx}{tg:Expr}
def Uu(K:av)(tl:TE):TI:=λσ H R=>tl σ H λx b=>∃a,x=.ref a/\(∃c,eA K b a c)/\R (Itl K a) b
def ZJ(K:av)(tl:TE):TI:=λσ H R=>tl σ H λx b=>∃a,x=.ref a/\(∃c,a_ K b a c)/\R (Itt K a) b
def tu{l:Expr}{tl:TE}(g:PE X l tl):PI X tg l (Uu X.K tl):=by
 intro pins s σ H R I h;refine dD (g pins s σ H _ I h) λv c j=>?_;ext(⟨x,k,d,r1,q1⟩:j)(⟨a,e,⟨m,f⟩,q⟩:q1);subst e;cases r1;ext(⟨t,n,p,r⟩:d.list f);refine yaK p.isList ?_;refine⟨c.heap.objs.size,[c.heap.objs.size],_,_,k,rfl,d.kept (t':=c.toks) λb o e=>aai _ e,Bb a _,⟨_,aax _ rfl,rfl,rfl⟩,λb i=>?_,q⟩;have e:b=c.heap.objs.size:=⇑i
 subst e;exact d.Kf (aao _) (d.cI.fresh (aao _))
def x5{l:Expr}{tl:TE}(g:PE X l tl):PI X tg l (ZJ X.K tl):=by
 intro pins s σ H R I h;refine dD (g pins s σ H _ I h) λv c j=>?_;ext(⟨x,m,d,r1,q1⟩:j)(⟨a,e,⟨n,f⟩,q⟩:q1);subst e;cases r1;ext(⟨k,r,p,t⟩:d.tuple f);refine yau (show c.heap.IsTuple a k.toArray from p) ?_;refine⟨c.heap.objs.size,[c.heap.objs.size],_,_,m,rfl,d.kept (t':=c.toks) λb o e=>aai _ e,xJ a _,⟨_,aax _ rfl,rfl,rfl⟩,λb i=>?_,q⟩;have e:b=c.heap.objs.size:=⇑i
 subst e;exact d.Kf (aao _) (d.cI.fresh (aao _))
def vG{pins:au}{H:Hp}{s:am}{R:It->Hp->Prop}{E:aB}{a:Int}{t u v:Tok}{tk:Nat}(I:Inv X pins σ H s)(j:-(2 ^ 62)<=lo)(i:lo<2 ^ 62)(g:-(2 ^ 62)<=a)(f:a<2 ^ 62)
  (q:R (CD lo (a - lo).toNat) H):⇑0 (rO (.ref s.heap.objs.size)) (HI X pins σ tg R) E { s with heap:=s.heap.push { cls:=.type "range",data:=.fields #[.int lo t,.int a u,.int 1 v] },toks:=tk }:=by
 refine wpAny_pyIter_range (Mx ..) (small_one j i g f) ?_;have c:Inv X pins σ H { s with heap:=s.heap.push { cls:=.type "range",data:=.fields #[.int lo t,.int a u,.int 1 v] },toks:=tk }:=I.kept λb o e=>aai _ e;refine⟨(s.heap.push { cls:=.type "range",data:=.fields #[.int lo t,.int a u,.int 1 v] }).objs.size,[(s.heap.push { cls:=.type "range",data:=.fields #[.int lo t,.int a u,.int 1 v] }).objs.size],_,_,H,rfl,
  c.kept (t':=tk) λb o e=>aai _ e,xK _ lo (a - lo).toNat,?_,λb d=>?_,q⟩
 ·have e1:lo+((0:Nat):Int)*1=lo:=by simp
  have e2:(((a - lo).toNat:Nat):Int) - ((0:Nat):Int)=i6 lo a 1:=by rw[rangeSize_one];split<;>left
  show IsRangeIter _ _ (lo+((0:Nat):Int)*1) ((((a - lo).toNat:Nat):Int) - ((0:Nat):Int)) 1;exact[e1,e2]\aax _ rfl
 ·have e:b=(s.heap.push { cls:=.type "range",data:=.fields #[.int lo t,.int a u,.int 1 v] }).objs.size:=⇑d
  subst e;exact c.Kf (aao _) (c.cI.fresh (aao _))
def Ut(ta:TA):TI:=λσ H R=>ta σ H λa b=>∃j:Int,a=[.int j] /\ -(2 ^ 62)<=j/\j<2 ^ 62/\R (CD 0 j.toNat) b
def Us(ta:TA):TI:=λσ H R=>ta σ H λa b=>∃i j:Int,a=[.int i,.int j]/\(-(2 ^ 62)<=i/\i<2 ^ 62 /\ -(2 ^ 62)<=j/\j<2 ^ 62)/\R (CD i (j - i).toNat) b
def rC{a:Expr}{p:Pos}(d:Gl X "range")(c:X.mg "range" = none)(f:PA X [a] ta)(hs:cj [a] X.env=[(false,eval a X.env)]:=by rfl):PI X tg (.Call (.Name "range" p) [a] [] pos) (Ut ta):=by
 intro pins s σ H R I h;refine Call_ (fB I d c yaS (aa3 (dD (f pos pins s σ H _ I h) λl m g=>?_) hs rfl));ext(⟨k,n,i,r1,q1⟩:g)(⟨j,e,q1,q2,q⟩:q1);subst e;cases r1 with
 |cons r b =>
  cases b;ext(⟨t,rfl⟩:r);exact call_range_1 (vG i ⋯ ⋯ q1 q2 ⇑q)
def rB{a b:Expr}{p:Pos}(m:Gl X "range")(l:X.mg "range" = none)(n:PA X [a,b] ta)(hs:cj [a,b] X.env=[(false,eval a X.env),(false,eval b X.env)]:=by rfl)(d:cj [b] X.env=[(false,eval b X.env)]:=by rfl):
  PI X tg (.Call (.Name "range" p) [a,b] [] pos) (Us ta):=by
 intro pins s σ H R I h;refine Call_ (fB I m l yaS (aa3 (dD (n pos pins s σ H _ I h) λw y o=>?_) ⇑[hs,d] (by rw[d];rfl)));ext(⟨v,z,u,r1,q1⟩:o)(⟨i,j,e,⟨q1,q2,k,g⟩,q⟩:q1);subst e;cases r1 with
 |cons r c =>
  cases c with
  |cons f c =>
   cases c;ext(⟨t,rfl⟩:r)(⟨x,rfl⟩:f);exact call_range_2 (vG u q1 q2 k g q)
def Yp(e:TI)(g:TG)(tb:TS):TS:=λD σ H=>e σ H λJ j=>∃W:Nat->Nat->St->Hp->Prop,(∃m,W 0 m σ j)/\∀i m σ H,W i m σ H ->
 (J.stop i H/\D.nx σ H)\/(J.go i H/\∃N:St->Hp->Prop,(∀a b,N a b->∃d,d<m/\W (i+1) d a b)/\∀x b,J.y8 i H x b->g x σ b λc f=>tb { D with nx:=N,ct:=N,bk:=D.nx } c f)
meta def jy(fp:aX)(h:Heap):au:=fp.filterMap λb=>(h.get? b).map λo=>(b,o)
def iR{b:Addr}{o:Obj}(a:b∈fp)(e:h.get? b=↥o):(b,o)∈jy fp h:=wn.mpr ⟨b,a,by rw[e];rfl⟩
def rF{p:Addr×Obj}(a:p∈jy fp h):p.1∈fp/\h.get? p.1=↥p.2:=by
 ext(⟨b,c,e⟩:wn.mp a);cases q:h.get? b with
 |none=>rw[q]at e;cases e
 |some o =>
  rw[q]at e;have d:(b,o)=p:=aaI e;subst d;exact⟨c,q⟩
def Inv.pinned{pins:au}{H:Hp}{s:am}(I:Inv X pins σ H s)(hf:∀b∈fp,qq X pins H b)(g:∀b∈fp,∃o,s.heap.get? b=↥o/\∀v,o.data≠.cell v):Inv X (pins++jy fp s.heap) σ H s :=
 I.j6 λp f=>(dz.mp f).elim (λz=>I.pin p (aay _ z)) λz=>by
  ext(⟨a,e⟩:rF z)(⟨k,j,i,_⟩:hf p.1 a)(⟨o,c,d⟩:g p.1 a);rw[e]at c;cases c;exact⟨e,k,j,i,d⟩
def Inv.lF{pins a:au}{H:Hp}{s:am}(I:Inv X (pins++a) σ H s):Inv X pins σ H s:=I.j6 λp b=>I.pin p (aay _ (aa4 _ b))
def kN{iter:Expr}{body:aQ}{Q:TI}{g:TG}{tb:TS}(z:PassesOwn (model X.prog X.w) X.A X.env X.xe)(Y:X.calm=true)(hi:PI X tg iter Q)(hg:PG X tg g)(k:gS X body tb)
  (hs:∀x,nv iter X.env x=pure x:=by intro _;rfl):PS X (.For tg iter body [] pos) (Yp Q g tb):=by
 intro pins s σ H D I h;refine wpAny_For (dD (hi pins s σ H _ I h) λv s1 h1=>dD h1 λZw s2 h2=>?_) hs;ext(⟨it,fp,R,J,H2,e,I2,T,jY,Z,W,⟨m0,w0⟩,turn⟩:h2);subst e;have L:∀{H':Hp},(∀b∈fp,H' b=none)->∀b∈fp,qq X pins H' b:=λhn b k=>⟨hn b k,(Z b k).2⟩
 refine codeAny_forLoop_any (λn V=>∃i j H',Inv X pins j H' V/\R i V.heap/\(∀b∈fp,H' b=none)/\W i n j H') ?_ m0 ⟨0,σ,H2,I2,jY,λb k=>(Z b k).1,w0⟩;rintro n U ⟨i,c,C,I3,P,B,w3⟩;ext((⟨stop,qn⟩|⟨go,N,hN,step⟩):turn i n c C w3)
 ·refine acG z (dD (T.done X rfl rfl rfl Y i pins U c C X.xe I3 (L B) P stop) λr s4 t=>?_);ext(⟨G,I4⟩:t);subst G;exact ac8 ⟨c,C,I4,qn⟩
 ·refine acG z (dD (T.item X rfl rfl rfl Y i pins U c C X.xe I3 (L B) P go) λr s4 t=>?_);ext(⟨u,G,h4⟩:t);subst G;refine acG z (dD h4 λ_ S t=>?_);ext(⟨x,H5,I5,r5,y5,M,K⟩:t)(O:I5.pinned (L K) (T.obj _ _ M));refine acG z (dD (hg _ S c H5 x u _ O r5 (step x H5 y5)) λ_ s6 t=>?_);ext(⟨E,H6,I6,q6⟩:t);refine acG z (dD (k _ s6 E H6 _ I6 q6) λf F q=>?_);have again:∀{a:St} {p:Hp},Inv X (pins++jy fp S.heap) a p F->N a p->∃m,m<n/\∃i j H',Inv X pins j H' F/\R i F.heap/\(∀b∈fp,H' b=none)/\W i m j H':=λ{a p} l y=>by
   ext(⟨m',hm,w7⟩:hN a p y);refine⟨m',hm,i+1,a,p,l.lF,T.keep _ _ _ M λb k o e=>(l.pin (b,o) (aay _ (aay _ (iR k e)))).1,λb k=>?_,w7⟩;ext(⟨o,e,d⟩:T.obj _ _ M b k);exact(l.pin (b,o) (aay _ (aay _ (iR k e)))).2.1
  cases f with
  |next=>ext(⟨a,p,l,y⟩:q);exact again l y
  |cont=>ext(⟨a,p,l,y⟩:q);exact again l y
  |brk=>ext(⟨a,p,l,q⟩:q);exact⟨a,p,l.lF,q⟩
  |ret v=>ext(⟨x7,a,p,l,r7,q⟩:q);exact⟨x7,a,p,l.lF,r7,q⟩
end
def oy{S:Hp->Addr->ah->Prop}{a:Addr}{xs:ah}{g:TG}{tb:TS}{D:Ends}{H:Hp}(b:Nat->St->Hp->Prop)(s:b 0 σ H)(o:∀i σ H,i<=xs.length->b i σ H->S H a xs)
  (hs:∀i x σ H,xs[i]?=↥x->b i σ H->g x σ H λc j=>tb { D with nx:=b (i+1),ct:=b (i+1),bk:=D.nx } c j) (hd:∀σ H,b xs.length σ H->D.nx σ H) :
  ∃W:Nat->Nat->St->Hp->Prop,(∃m,W 0 m σ H)/\∀i m σ H,W i m σ H ->
   ((RZ S a).stop i H/\D.nx σ H)\/((RZ S a).go i H/\∃N:St->Hp->Prop,(∀d f,N d f->∃k,k<m/\W (i+1) k d f)/\∀x f,(RZ S a).y8 i H x f->g x σ f λc j=>tb { D with nx:=N,ct:=N,bk:=D.nx } c j):=by
 refine⟨λi m σ H=>m=xs.length - i/\i<=xs.length/\b i σ H,⟨xs.length,by simp,aa7 _,s⟩,?_⟩;rintro i m σ H ⟨rfl,r,p⟩;ext(q:o i σ H r p);by_cases l:i<xs.length
 ·refine .inr ⟨⟨xs,xs[i],q,by simp[l]⟩,b (i+1),λd f n=>⟨xs.length - (i+1),by left,rfl,l,n⟩,λx f y=>?_⟩;ext(⟨e,y⟩:y);subst e;exact hs i x σ _ (y xs q) p
 ·have e:i=xs.length:=by left
  subst e;exact .inl ⟨⟨xs,q,aao _⟩,hd σ H p⟩
def Ca{n:Nat}{g:TG}{tb:TS}{D:Ends}{H:Hp}(c:Nat->St->Hp->Prop)(o:c 0 σ H)
  (hs:∀i σ H,i<n->c i σ H->g ↑(lo+i) σ H λa j=>tb { D with nx:=c (i+1),ct:=c (i+1),bk:=D.nx } a j) (hd:∀σ H,c n σ H->D.nx σ H) :
  ∃W:Nat->Nat->St->Hp->Prop,(∃m,W 0 m σ H)/\∀i m σ H,W i m σ H ->
   ((CD lo n).stop i H/\D.nx σ H)\/((CD lo n).go i H/\∃N:St->Hp->Prop,(∀b d,N b d->∃k,k<m/\W (i+1) k b d)/\∀x d,(CD lo n).y8 i H x d->g x σ d λa j=>tb { D with nx:=N,ct:=N,bk:=D.nx } a j):=by
 refine⟨λi m σ H=>m=n - i/\i<=n/\c i σ H,⟨n,by simp,aa7 _,o⟩,?_⟩;rintro i m σ H ⟨rfl,q,p⟩;by_cases f:i<n
 ·refine .inr ⟨f,c (i+1),λb d l=>⟨n - (i+1),by left,rfl,f,l⟩,λx d y=>?_⟩;ext(⟨e,y⟩:y);subst e y;exact hs i σ _ f p
 ·have e:i=n:=by left
  subst e;exact .inl ⟨aao _,hd σ H p⟩
end L2
namespace L2
open PySem PySem.Spec PyProof.Rows
abbrev R2:=V->V->Hp->VK->Prop
def oO(X:Cx)(f:Value->Value->Sem Value)(r:R2):Prop :=
 ∀(pins:au) (s:am) (a:St) (H:Hp) (x y:V) (v u:Value) (Q:VK),Inv X pins a H s->RelV x v->RelV y u->r x y H Q ->
  ⇑0 (f v u) (EP X pins a Q) X.xe s
def UnR(X:Cx)(f:Value->Sem Value)(r:V->Hp->VK->Prop):Prop :=
 ∀(pins:au) (s:am) (a:St) (H:Hp) (x:V) (v:Value) (Q:VK),Inv X pins a H s->RelV x v->r x H Q ->
  ⇑0 (f v) (EP X pins a Q) X.xe s
def fJ(X:Cx)(f:Value)(r:ah->Hp->VK->Prop):Prop :=
 ∀(pins:au) (s:am) (a:St) (H:Hp) (xs:ah) (b:aw) (Q:VK),Inv X pins a H s->Vals xs b->r xs H Q ->
  ⇑0 (call f b) (EP X pins a Q) X.xe s
def Nw(r:R2)(b tb:TE):TE:=λa H Q=>b a H λx d=>tb a d λy c=>r x y c Q
def tUn(r:V->Hp->VK->Prop)(b:TE):TE:=λa H Q=>b a H λx c=>r x c Q
def rI(C:Int->Int->Prop)(g:Int->Int->V):R2:=λx y H Q=>∃i j,x=.int i/\y=.int j/\C i j/\Q (g i j) H
def Hy(g:Int->Int->V):R2:=λx y H Q=>∃i j,x=.int i/\y=.int j/\Q (g i j) H
def rU(g:Int->V):V->Hp->VK->Prop:=λx H Q=>∃i,x=.int i/\Q (g i) H
section
variable {X:Cx}{a b c:Expr}{ta tb tc:TE}{pos:Pos}
def Q4(o:PE X a ta)(n:PE X b tb){pins:au}{s:am}{d:St}{H:Hp}{R:V->V->Hp->Prop}(I:Inv X pins d H s)
  (h:ta d H λx l=>tb d l λy e=>R x y e) {Q:aB} {f:Value->Value->Sem Value}
  (hf:∀v u j x y e,Inv X pins d e j->RelV x v->RelV y u->R x y e->⇑0 (f v u) Q X.xe j) :
  ⇑0 (eval a X.env) (λv i=>⇑0 (eval b X.env) (λu g=>⇑0 (f v u) Q X.xe g) X.xe i) X.xe s:=by
 refine dD (o pins s d H _ I h) λv m k=>?_;ext(⟨x,l,q,r1,q1⟩:k);refine dD (n pins m d l _ q q1) λu j k=>?_;ext(⟨y,e,p,r2,q2⟩:k);exact hf v u j x y e p r1 r2 q2
def L3{op:ny}{r:R2}(i:oO X (wi op) r)(k:PE X a ta)(j:PE X b tb):PE X (.BinOp a op b pos) (Nw r ta tb):=by
 intro pins s d H Q I h;exact wpAny_BinOp (Q4 k j I h λv u e x y m l g f q=>i pins e d m x y v u Q l g f q)
def Tu{op:yai}{r:V->Hp->VK->Prop}(f:UnR X (unaryOp op) r)(g:PE X a ta):PE X (.UnaryOp op a pos) (tUn r ta):=by
 intro pins s d H Q I h;exact UnaryOp_ (dD (g pins s d H _ I h) λv e ⟨x,j,i,r1,q1⟩=>f pins e d j x v Q i r1 q1)
def Oq{f:Value->Value->Sem Value}{C:Int->Int->Prop}{g:Int->Int->Int}
  (rule:∀(i j:Int) (t u:Tok) (s:am) (Q:aB) (E:aB),C i j->Q (.int (g i j) s.toks) { s with toks:=s.toks+1 }->⇑0 (f (.int i t) (.int j u)) Q E s) :
  oO X f (rI C λi j=>.int (g i j)):=by
 intro pins s m H x y v u Q I k e h;ext(⟨i,j,rfl,rfl,l,q⟩:h)(⟨t,rfl⟩:k)(⟨d,rfl⟩:e);exact rule i j t d s _ _ l ⟨.int (g i j),H,I.tok _,⟨_,rfl⟩,q⟩
def Jr{f:Value->Value->Sem Value}{g:Int->Int->Bool}
  (rule:∀(i j:Int) (t u:Tok) (s:am) (Q:aB) (E:aB),Q (.bool (g i j)) s->⇑0 (f (.int i t) (.int j u)) Q E s) :
  oO X f (Hy λi j=>.bl (g i j)):=by
 intro pins s l H x y v u Q I k e h;ext(⟨i,j,rfl,rfl,q⟩:h)(⟨t,rfl⟩:k)(⟨d,rfl⟩:e);exact rule i j t d s _ _ ⟨.bl (g i j),H,I,rfl,q⟩
def unI{f:Value->Sem Value}{g:Int->Int}
  (rule:∀(i:Int) (t:Tok) (s:am) (Q:aB) (E:aB),Q (.int (g i) s.toks) { s with toks:=s.toks+1 }->⇑0 (f (.int i t)) Q E s) :
  UnR X f (rU λi=>.int (g i)):=by
 intro pins s e H x v Q I d h;ext(⟨i,rfl,q⟩:h)(⟨t,rfl⟩:d);exact rule i t s _ _ ⟨.int (g i),H,I.tok _,⟨_,rfl⟩,q⟩
def Nn:UnR X (unaryOp .USub) (rU λi=>.int (-i)):=unI λ_ _ _ _ _ q=>neg_int q
end
variable {us:aw}
section
variable {X:Cx}{a b c:Expr}{ta tb tc:TE}{pos:Pos}
def Tz:oO X (kq .Lt) (Hy λi j=>.bl (decide (i<j))):=Jr λ_ _ _ _ _ _ _ q=>lt_int q
def TB:oO X (kq .LtE) (Hy λi j=>.bl (decide (i<=j))):=Jr λ_ _ _ _ _ _ _ q=>le_int q
def TC:oO X (kq .Gt) (Hy λi j=>.bl (decide (j<i))):=Jr λ_ _ _ _ _ _ _ q=>gt_int q
def TF:oO X (kq .GtE) (Hy λi j=>.bl (decide (j<=i))):=Jr λ_ _ _ _ _ _ _ q=>ge_int q
def oO.or{f:Value->Value->Sem Value}{r i:R2}(h:oO X f r)(h':oO X f i):oO X f (λx y H Q=>r x y H Q\/i x y H Q):=by
 intro pins s d H x y v u Q I g e q;ext((q|q):q)
 ·exact h pins s d H x y v u Q I g e q
 ·exact h' pins s d H x y v u Q I g e q
def EF(b:Expr){op:CmpOp}(h:op≠.In:=by decide)(d:op≠.NotIn:=by decide):lv op b=false:=by
 have e1:(op==CmpOp.In)=false:=by cases op<;>first|rfl|exact absurd rfl h
 have e2:(op==ya4)=false:=by cases op<;>first|rfl|exact absurd rfl d
 cases b<;>simp[lv,e1,e2]
def zS{op:CmpOp}{r:R2}(i:oO X (kq op) r)(l:PE X a ta)(k:PE X b tb)(j:lv op b=false):PE X (.Compare a [op] [b] pos) (Nw r ta tb):=by
 intro pins s d H Q I h;exact wpAny_Compare1 (Q4 l k I h λv u e x y n m g f q=>i pins e d n x y v u Q m g f q) j
def Lv(t:TE):TT:=λd H Q=>t d H λx e=>∃k,x=.bl k/\Q k e
def zL{op:CmpOp}{r:R2}(l:oO X (kq op) r)(o:PE X a ta)(n:PE X b tb)(m:lv op b=false):PT X (.Compare a [op] [b] pos) (Lv (Nw r ta tb)):=by
 intro pins s d H Q I h;refine VT (dD (o pins s d H _ I h) λv g ⟨x,B,t,r1,q1⟩=>dD (n pins g d B _ t q1) λu f ⟨y,A,q,r2,q2⟩ =>
  dD (l pins f d A x y v u _ q r1 r2 q2) λc C ⟨z,w,p,i,k,e,j⟩=>?_) m
 subst e;cases i;exact abU ⟨w,p,j⟩
def yf:(sizeLine:Nat)<2 ^ 63:=by rw[i8];decide
def vals1{x:V}(r:Vals [x] us):∃u,us=[u]/\RelV x u:=by
 cases r with
 |cons r1 r2=>cases r2;exact⟨_,rfl,r1⟩
def vals2{x y:V}(r:Vals [x,y] us):∃u d,us=[u,d]/\RelV x u/\RelV y d:=by
 cases r with
 |cons r1 r2 =>
  cases r2 with
  |cons f e=>cases e;exact⟨_,_,rfl,r1,f⟩
def G3:fJ X (.builtin "abs") (λd H Q=>∃i,d=[.int i]/\Q ↑(if i<0 then -i else i) H):=by
 intro pins s e H d us Q I r h;ext(⟨i,rfl,q⟩:h)(⟨u,rfl,t,rfl⟩:vals1 r);exact call_abs_int λu tk=>⟨.int (if i<0 then -i else i),H,I.tok _,⟨_,rfl⟩,q⟩
def Cu(f:X.calm=true):fJ X (.builtin "max") (λe H Q=>∃i j,e=[.int i,.int j]/\Q ↑(if j>i then j else i) H):=by
 intro pins s g H e us Q I r h;ext(⟨i,j,rfl,q⟩:h)(⟨u,l,rfl,⟨t,rfl⟩,⟨m,rfl⟩⟩:vals2 r);refine max_two_ints (I.ok.hd f) λn tk k=>⟨_,H,I.kept k,?_,q⟩
 by_cases d:j>i
 ·exact[zac d,zac d]\⟨_,rfl⟩
 ·exact[zab d,zab d]\⟨_,rfl⟩
def Ct(f:X.calm=true):fJ X (.builtin "min") (λe H Q=>∃i j,e=[.int i,.int j]/\Q ↑(if j<i then j else i) H):=by
 intro pins s g H e us Q I r h;ext(⟨i,j,rfl,q⟩:h)(⟨u,l,rfl,⟨t,rfl⟩,⟨m,rfl⟩⟩:vals2 r);refine min_two_ints (I.ok.hd f) λn tk k=>⟨_,H,I.kept k,?_,q⟩
 by_cases d:j<i
 ·exact[zac d,zac d]\⟨_,rfl⟩
 ·exact[zab d,zab d]\⟨_,rfl⟩
end
end L2
namespace L2
open PySem PySem.Spec PyProof.Rows
def CB.some_of{v:V}{o:Option Value}(r:CB ↥v o):∃u,o=↥u/\RelV v u:=by
 cases o with
 |none=>exact(show False from r).elim
 |some u=>exact⟨u,rfl,r⟩
structure R4(K:av)(C:Addr):Prop where
 pg:PySem.W.plainGet K C Str.empty=true
 hd:PySem.W.hasDictIn K C=true
 po:PySem.W.plainOver K C=true
 sa:kP K (.ref C) "__setattr__" = ↥↥(.builtin "object.__setattr__")
end L2
namespace L2
open PySem PySem.Spec PyProof.Rows
structure gw(k:Nat)(A:aF):Prop where
 hd:A.handled=none
 dp:A.depth+3*k+5<recursionLimit
 un:A.units+16*k+200<cLine
variable {A:aF}
def gw.mono{j k:Nat}(r:gw k A)(h:j<=k):gw j A:=⟨r.hd,by have:=r.dp;left,by have:=r.un;left⟩
theorem gw.deeper{k:Nat}{A:aF}(r:gw (k+1) A)(env:Env):gw k (A.deeper env) :=
 ⟨r.hd,by have:=r.dp;show A.depth+1+3*k+5<_;left,by have:=r.un;show A.units+3+16*k+200<_;left⟩
theorem gw.depth{k:Nat}{A:aF}(r:gw k A):A.depth<recursionLimit:=by have:=r.dp;left
theorem gw.units{k:Nat}{A:aF}(r:gw k A):A.units+64<cLine:=by have:=r.un;left
def Nx:TA:=λ_ H Q=>Q [] H
def Dy(d:TE)(c:TA):TA:=λa H Q=>d a H λx f=>c a f λb e=>Q (x::b) e
section
variable {X:Cx}{e:Expr}{es:aj}{te:TE}{t:TA}{pos:Pos}
def cZ:PA X [] Nx:=λ_ _ _ _ H Q I h=>adu ⟨[],H,I,.nil,h⟩
def b0(f:PE X e te)(d:PA X es t)(hs:cj (e::es) X.env=(false,eval e X.env)::cj es X.env:=by rfl):PA X (e::es) (Dy te t):=by
 intro pos pins s a H Q I h;rw[hs];show wpAny _ _ (yaf ((false,eval e X.env)::nU pos (cj es X.env))) _ _ s;refine adb (dD (f pins s a H _ I h) λu c g=>?_);ext(⟨x,l,j,r1,q1⟩:g);exact dD (d pos pins c a l _ j q1) λm n ⟨b,k,i,r2,q2⟩=>⟨x::b,k,i,.cons r1 r2,q2⟩
def Yg(t:TA):TE:=λc H Q=>t c H λa b=>a.length<=sizeLine/\∀p,b p=none->Q (.ref p) (upd b p (.tup a))
def Ym(t:TA):TE:=λc H Q=>t c H λa b=>a.length<=sizeLine/\∀p,b p=none->Q (.ref p) (upd b p (.lst a))
def Ob{x1}(h:PA X es t):PE X (.Tuple es x1 pos) (Yg t):=by
 intro pins s f H Q I j;refine wpAny_Tuple_spliced (dD (h pos pins s f H _ I j) λi a ⟨g,d,c,r,z,q⟩=>⟨[-r.length]\z,?_⟩);have k:d a.heap.objs.size=none:=c.cI.fresh (aao _);refine⟨.ref a.heap.objs.size,upd d a.heap.objs.size (.tup g),c.laid (t':=a.toks) (λb u e=>aai _ e) (aao _) ?_,rfl,q _ k⟩;exact⟨z,i,r,⟨_,aax _ rfl,rfl,_,rfl⟩⟩
def tx(h:PA X es t):PE X (.List es pos) (Ym t):=by
 intro pins s f H Q I j;refine wpAny_List_spliced (dD (h pos pins s f H _ I j) λi a ⟨g,d,c,r,z,q⟩=>⟨[-r.length]\z,?_⟩);have k:d a.heap.objs.size=none:=c.cI.fresh (aao _);refine⟨.ref a.heap.objs.size,upd d a.heap.objs.size (.lst g),c.laid (t':=a.toks) (λb u e=>aai _ e) (aao _) ?_,rfl,q _ k⟩;exact⟨z,i,0,r,aax _ rfl⟩
end
abbrev Sp:=ah->Hp->VK->XK->Prop
abbrev CH:=List Env->Hp->am->XK->aB
structure Li(P:aG)(w:World)(K:av)(mg:aU)(base:Heap)(A:aF)(outer:List Env)(s:am)(H:Hp):Prop where
 frames:A.frames=↥outer
 mod:Mod K mg base
 bs:∀b o,base.get? b=↥o->s.heap.get? b=↥o/\H b=none
 G7:base.objs.size<=s.heap.objs.size
 kR:s.heap.FunFrames base outer
 CT:∀b∈mY outer,H b=none
 cI:ki H s.heap
 bare:tU s.gens
def CE(outer:List Env)(P:aG)(w:World)(H:Hp)(s:am)(Q:VK)(u:Value)(s':am):Prop :=
 ∃v a,s'.os=s.os/\tU s'.gens/\Un (mY outer) [] H a s.heap s'.heap/\ki a s'.heap/\RelV v u/\Q v a
def CR(CX:CH)(outer:List Env)(P:aG)(w:World)(H:Hp)(s:am)(Q:VK)(E:XK)(r:yaz)(s':am):Prop :=
 match r with
 |.ok (.ret u)=>CE outer P w H s Q u s'
 |.ok _=>False
 |.error e=>CX outer H s E e s'
structure fQ(P:aG)(w:World)(K:av)(mg:aU)(base:Heap)(CX:CH)(k:Nat)(f:Addr)(fd:hA)(ps:aq)(sp:Sp):Prop where
 len:∀vs H Q E,sp vs H Q E->vs.length=ps.length
 run:∀(A:aF) (outer:List Env) (s:am) (H:Hp) (args:Args) (us:aw) (vs:ah) (Q:VK) (E:XK),gw k A->Li P w K mg base A outer s H->UQ s fd args (ps.zip us)->Vals vs us->sp vs H Q E ->
  pp (model P w) A (.call (.ref f) args) (CR CX outer P w H s Q E) s
theorem fQ.mono{P:aG}{w:World}{K:av}{mg:aU}{base:Heap}{CX:CH}{j k:Nat}{f:Addr}{b:hA}{a:aq}{sp:Sp}(F:fQ P w K mg base CX j f b a sp)(h:j<=k):
  fQ P w K mg base CX k f b a sp:=⟨F.len,λA outer s H args d c Q E e=>F.run A outer s H args d c Q E (e.mono h)⟩
variable {Q:VK}
section
variable {X:Cx}{pins:au}{σ:St}{H:Hp}{s s':am}
def Inv.aa_(I:Inv X pins σ H s):Li X.prog X.w X.K X.mg X.base X.A X.stack s H :=
 ⟨I.ok.frames,I.ok.mod,I.bs,aav I.ok.G7 I.sz,I.stack,I.lJ,I.cI,I.bare⟩
def Inv.after{u:Value}(I:Inv X pins σ H s)(h:CE X.stack X.prog X.w H s Q u s'):EP X pins σ Q u s':=by
 ext(⟨v,i,a,bare,un,e,r,q⟩:h)(⟨c,g,d,t,f⟩:s');obtain rfl:f=s.os:=a;exact⟨v,i,I.call (h':=c) (g':=g) (d':=d) (t':=t) (ch:=[]) un e bare (λb z=>absurd z ⇑5),r,q⟩
end
def SE(sp:Sp)(gk:ah)(E:XK)(t:TA):TE:=λa H Q=>t a H λb c=>sp (b++gk) c Q E
def Binds(K:av)(c:hA)(b:aq)(ds:aw):Prop :=
 ∀(s:am) (a:aw),K.In s.heap->(a++ds).length=b.length->UQ s c ⟨a,[]⟩ (b.zip (a++ds))
variable {K:av}{N ps:aq}
def Binds.all{c:hA}(h:∀a:aw,a.length=ps.length->Ag c ⟨a,[]⟩=pure (ps.zip a)):Binds K c ps []:=λs a _ b=>by
 rw[zaw]at b ⊢;exact .of_eq (h a b)
def Passes(CX:CH)(X:Cx)(E:XK):Prop:=∀(pins:au) (a:St) (H:Hp) (s:am) (e:Value) (s':am),Inv X pins a H s->CX X.stack H s E e s'->X.xe e s'
variable {us:aw}{vs:ah}
section
variable {X:Cx}{CX:CH}{k:Nat}{f C:Addr}{fd:hA}{ps:aq}{sp:Sp}{gk:ah}{ds:aw}{E:XK}{x m:Str}{p pos apos:Pos}{e o:Expr}{es:aj}{ta:TE}{t:TA}
def NY{pins:au}{b:St}{H:Hp}{s:am}(F:fQ X.prog X.w X.K X.mg X.base CX k f fd ps sp)(g:gw k X.A)(j:Binds X.K fd ps ds)(hd:Vals gk ds)(d:Passes CX X E)
  (I:Inv X pins b H s) (r:Vals vs us) (h:sp (vs++gk) H Q E):⇑0 (call (.ref f) us) (EP X pins b Q) X.xe s:=by
 have r2:Vals (vs++gk) (us++ds):=r.append hd;have i:(us++ds).length=ps.length:=[-r2.length]\F.len _ _ _ _ h
 refine wpAny_call (ade (F.run X.A X.stack s H ⟨us,[]⟩ (us++ds) (vs++gk) Q E g I.aa_ (j s us I.CK i) r2 h) λr c a=>?_);cases r with
 |error e=>exact d pins b H s e c I a
 |ok l =>
  cases l with
  |ret u=>exact I.after a
  |next=>exact ml a
  |brk=>exact ml a
  |cont=>exact ml a
def tE(F:fQ X.prog X.w X.K X.mg X.base CX k f fd ps sp)(d:gw k X.A)(j:Gl X x)(g:X.mg x=↥(.ref f))(i:hO X.K (.ref f)=true)(l:Binds X.K fd ps ds)(hd:Vals gk ds)(c:Passes CX X E)
  (n:PA X (e::es) t) (u:(x==⇑9)=false:=by decide) (he:cj (e::es) X.env=(false,eval e X.env)::cj es X.env:=by rfl) (hpl:(nU pos (cj es X.env)).any (·.1)=false:=by rfl) :
  PE X (.Call (.Name x p) (e::es) [] pos) (SE sp gk E t):=by
 intro pins s b H Q I h;refine ab1 (tR I j g ?_ u);refine PySem.W.callWith_K (h₀:=X.base) I.ok.mod.Zr i (dD (n pos pins s b H _ I h) λus v ⟨vs,y,a,r,q⟩=>⟨a.CK,?_⟩) he hpl;exact NY F d l hd c a r q
end
structure e_(N P:aq)(sc:Scope):Prop where
 kind:sc.kind=.function
 co:sc.isCoroutine=false
 gen:sc.isGenerator=false
 nd:N.Nodup
 pre:N.take P.length=P
 par:∀x∈P,sc.names.lookup x=↥.local\/sc.names.lookup x=↥.cell
 Oy:∀y∈sc.names,y.2≠.free
theorem sg{kindOf:Str->Option nR}{x:Str}:∀{binds:List (Str×Value)} {m:aU},(∀v,(x,v)∉binds)->bindL kindOf binds m x=m x
 |[],_,_=>rfl
 | (n,v)::r,m,h=>by
  unfold bindL;rw[sg λw hw=>h w (zaU _ hw)];split
  ·have:x≠n:=by rintro rfl;exact h v aag
   simp[this]
  ·rfl
theorem sj{kindOf:Str->Option nR}{x:Str}:∀{binds:List (Str×Value)} {m:aU},(∀v,(x,v)∉binds)->bindC kindOf binds m x=m x
 |[],_,_=>rfl
 | (n,v)::r,m,h=>by
  unfold bindC;rw[sj λw hw=>h w (zaU _ hw)];split
  ·rfl
  ·have:x≠n:=by rintro rfl;exact h v aag
   simp[this]
theorem si{kindOf:Str->Option nR}{x:Str}{v:Value}:∀{P:aq} {vs:aw} {i:Nat} {m:aU},P.Nodup->P[i]?=↥x->vs[i]?=↥v->kindOf x=↥.local ->
  bindL kindOf (P.zip vs) m x=↥v
 |[],_,_,_,_,h,_,_=>by simp at h
 |_::_,[],_,_,_,_,h,_=>by simp at h
 |p::P,w::vs,0,m,nd,h1,h2,hk=>by
  simp at h1 h2;subst h1;subst h2;show bindL kindOf ((p,w)::P.zip vs) m p=_;unfold bindL;rw[sg λv a=>(gj.mp nd).1 (Db a).1,zac hk];simp
 |p::P,w::vs,i+1,m,nd,h1,h2,hk=>by
  show bindL kindOf ((p,w)::P.zip vs) m x=_;unfold bindL;exact si (i:=i) (gj.mp nd).2 ⇑h1 ⇑h2 hk
theorem sr{kindOf:Str->Option nR}{x:Str}{v:Value}:∀{P:aq} {vs:aw} {i:Nat} {m:aU},P.Nodup->P[i]?=↥x->vs[i]?=↥v->kindOf x≠↥.local ->
  bindC kindOf (P.zip vs) m x=↥v
 |[],_,_,_,_,h,_,_=>by simp at h
 |_::_,[],_,_,_,_,h,_=>by simp at h
 |p::P,w::vs,0,m,nd,h1,h2,hk=>by
  simp at h1 h2;subst h1;subst h2;show bindC kindOf ((p,w)::P.zip vs) m p=_;unfold bindC;rw[sj λv a=>(gj.mp nd).1 (Db a).1,zab hk];simp
 |p::P,w::vs,i+1,m,nd,h1,h2,hk=>by
  show bindC kindOf ((p,w)::P.zip vs) m x=_;unfold bindC;exact sr (i:=i) (gj.mp nd).2 ⇑h1 ⇑h2 hk
meta def start(N:aq)(vs:ah):St:=vs.map some++ap (N.length - vs.length) none
meta def jr(CX:CH)(P:aG)(w:World)(K:av)(mg:aU)(base:Heap)(N:aq)(qual:Str)(scope:Scope)(f:Addr)(a:Value)(A:aF)(outer:List Env)(s:am)(H:Hp)(E:XK):Cx where
 prog:=P
 w:=w
 K:=K
 mg:=mg
 base:=base
 A:=A.deeper (FP qual scope s.heap.objs.size f a)
 N:=N
 s₀:=s
 H₀:=H
 env:=FP qual scope s.heap.objs.size f a
 outer:=outer
 stack:=FP qual scope s.heap.objs.size f a::outer
 ex:=[]
 calm:=true
 fn:=λ_=>true
 pn:=[]
 xe:=λe c=>wpAny (model P w) (A.deeper (FP qual scope s.heap.objs.size f a)) (leaving (FP qual scope s.heap.objs.size f a) e) (λ_ b=>CX outer H s E e b) (λd b=>CX outer H s E d b) c
def wZ{sc:Scope}{n:Nat}{x:Str}(h:sc.names.lookup x=↥.cell):∃c,(cellsFrom n sc.names []).lookup x=↥c:=by
 ext(q:FS sc.names n [] (.inl h));exact oq.mp q
variable {P:aG}{base:Heap}{f:Addr}{mg:Str->Option Value}{qual:Str}{scope:Scope}{w:World}
def BV{CX:CH}{t:Value}{outer:List Env}{s C:am}{H:Hp}{E:XK}  
  (S:e_ N ps scope) (hd:A.handled=none) (e0:Li P w K mg base A outer s H) (L:vs.length=ps.length) (r:Vals vs us)
  (x:InCallC s s.heap.objs.size (bindL (FP qual scope s.heap.objs.size f t).kindOf (ps.zip us) λ_=>none) (cellsFrom (s.heap.objs.size+1) scope.names []) (bindC (FP qual scope s.heap.objs.size f t).kindOf (ps.zip us) λ_=>none) C) :
  Inv (jr CX P w K mg base N qual scope f t A outer s H E) [] (start N vs) H C:=by
 have I:ps.length<=N.length:=by have:=aa5 l7 S.pre;rw[zar]at this;left
 ext(⟨o,tk,rfl,F⟩:x.done);have B:∀b:Addr,b∉(jr CX P w K mg base N qual scope f t A outer s H E).ex:=λb z=>absurd (show b∈([]:aX) from z) ⇑5;refine⟨⟨e0.mod,S.kind,rfl,rfl,aao _,λy z c o d=>?_,λy g=>?_,λy c _ h=>?_,λ_=>hd,Around.frames_deeper e0.frames,.inr ⟨rfl,rfl⟩,λb z=>absurd z (B b),e0.bs,e0.G7,λb _ _=>B b,λb z=>absurd z (B b),e0.kR,e0.CT⟩,
  rfl,e0.bare,Un.kept F,⟨_,x.toInCall.ns,λi y v o d M=>?_⟩,λy c h=>⟨_,x.cell y c h⟩,e0.cI.fresh (aao _),λy c h=>?_,λp l=>absurd (show p∈([]:au) from l) ⇑5,e0.cI.kept F,?_⟩
 ·exact name_of_addr x.apart (acd o) (acd d)
 ·have g:scope.names.lookup y=↥.cell\/scope.names.lookup y=↥.free:=g;ext((g|g):g)
  ·exact wZ g
  ·exact absurd rfl (S.Oy _ (acd g))
 ·exact abq (x.above y c (acd h))
 ·have m:i<vs.length:=by
   unfold start at d;by_cases m:i<vs.length
   ·exact m
   ·rw[d6 ⇑m]at d;rw[hY]at d;split at d<;>cases d
  have J:vs[i]?=↥v:=by
   unfold start at d;rw[d7 ⇑m,bv]at d;cases e:vs[i]? with
   |none=>rw[e]at d;cases d
   |some a=>rw[e]at d;cases d;rfl
  ext(⟨u,D,G⟩:r.get J);have l:ps[i]?=↥y:=by
   exact[-S.pre,List.getElem?_take_of_lt ⋯]\o
  have j:ps.Nodup:=[-S.pre]\S.nd.sublist (ad_ _ _)
  refine⟨u,G,?_⟩;rcases S.par y (aa6 l)with k|k
  ·exact .inl ⟨k,si j l D k⟩
  ·ext(⟨c,e⟩:wZ (n:=s.heap.objs.size+1) k);refine .inr ⟨.inl k,c,e,?_⟩;ext(q:x.cell y c e);rw[sr j l D (by show scope.names.lookup y≠_;rw[k];decide)]at q;exact q
 ·exact e0.cI.fresh (abq (x.above y c (acd h)))
 ·unfold start;show _=N.length;rw[zaf,zaa,zaP];left
def MB{CX:CH}{k:Nat}{name:Str}{params:Arguments}{body:aQ}{C B g z c ct M:Value}{D L:Option Addr}
  {Et:Array (Option Value)} {sp:Sp} (O:K.lookup f=↥⟨M,L,.func (hP name qual params body scope C B g z D c ct),Et⟩) (F:r4 K c qual=true) (S:e_ N ps scope)
  (len:∀vs H Q E,sp vs H Q E->vs.length=ps.length)
  (G:∀(A:aF) (outer:List Env) (s:am) (H:Hp) (vs:ah) (Q:VK) (E:XK),gw k (A.deeper (FP qual scope s.heap.objs.size f c))->sp vs H Q E ->
   ∃t,gS (jr CX P w K mg base N qual scope f c A outer s H E) body t/\t { nx:=λ_ H'=>Q .bX H',rt:=Q } (start N vs) H) :
  fQ P w K mg base CX (k+1) f (hP name qual params body scope C B g z D c ct) ps sp:=by
 refine⟨len,λA outer s H args us vs Q E l e0 Z r m=>?_⟩;ext(X:len _ _ _ _ m);have KX:K.In s.heap:=e0.mod.Zr.keeps λb o e=>(e0.bs b o e).1;have j:s.heap.NoLimit:=e0.mod.nolimit.keeps λb o e=>(e0.bs b o e).1;have UO:∀y∈ps.zip us,scope.names.lookup y.1=↥.local\/(scope.names.lookup y.1=↥.cell/\((cellsFrom (s.heap.objs.size+1) scope.names []).lookup y.1).isSome=true):=λ⟨n,v⟩ R=>by
  ext((q|q):S.par n (Db R).1)
  ·exact .inl q
  ·exact .inr ⟨q,FS _ _ _ (.inl q)⟩
 refine codeAny_call_function l.depth (KX _ _ O) rfl S.co S.gen rfl (PySem.W.codeRec_of KX F) (Z _ _ _ _ ?_);refine wpAny_newFunctionEnv_cells S.kind UO λenv Y p x=>?_;subst Y;refine⟨j.keeps x.toInCall.keep,codeAny_func ?_⟩;ext(⟨t,T,U⟩:G A outer s H vs Q E (l.deeper _) m);have I:Inv (jr CX P w K mg base N qual scope f c A outer s H E) [] (start N vs) H p:=BV S l.hd e0 X r x;refine aaX (T [] p (start N vs) H _ I U) (λfl h d=>?_) λe h d=>d;have fin:∀{a:St} {H':Hp} {v:V} {u:Value},Inv (jr CX P w K mg base N qual scope f c A outer s H E) [] a H' h->RelV v u->Q v H'->CE outer P w H s Q u h :=
  λ{a H' v u} J i q=>⟨v,H',J.os,J.bare,J.base,J.cI,i,q⟩
 cases fl with
 |ret u =>
  ext(⟨v,a,H',J,i,q⟩:d);exact fin J i q
 |next =>
  ext(⟨a,H',J,q⟩:d);exact fin (v:=V.bX) (u:=ft) J rfl q
 |brk =>
  ext(⟨_,_,_,q⟩:d);exact ml q
 |cont =>
  ext(⟨_,_,_,q⟩:d);exact ml q
end L2
namespace L2
open PySem PySem.Spec PyProof.Rows
section
variable {X:Cx}{x:Str}{p pos:Pos}{e:Expr}{es:aj}{t:TA}{id T:String}{r:ah->Hp->VK->Prop}
def SF(r:ah->Hp->VK->Prop)(t:TA):TE:=λa H Q=>t a H λb c=>r b c Q
def cU(j:fJ X (.builtin id) r)(i:Gl X x)(g:X.mg x=none)(f:j_ x=↥(.builtin id))(k:PA X (e::es) t)(hn:x ≠ "__name__":=by decide)(l:(x==⇑9)=false:=by decide)
  (he:cj (e::es) X.env=(false,eval e X.env)::cj es X.env:=by rfl) (hpl:(nU pos (cj es X.env)).any (·.1)=false:=by rfl):PE X (.Call (.Name x p) (e::es) [] pos) (SF r t):=by
 intro pins s a H Q I h;refine ab1 (fB I i g f ?_ hn l);exact tz (dD (k pos pins s a H _ I h) λc d ⟨b,n,m,r1,q1⟩=>j pins d a n b c Q m r1 q1) he hpl
def rE(j:fJ X (.type T) r)(i:Gl X x)(g:X.mg x=none)(f:j_ x=↥(.type T))(k:PA X (e::es) t)(hn:x ≠ "__name__":=by decide)(l:(x==⇑9)=false:=by decide)
  (he:cj (e::es) X.env=(false,eval e X.env)::cj es X.env:=by rfl) (hpl:(nU pos (cj es X.env)).any (·.1)=false:=by rfl):PE X (.Call (.Name x p) (e::es) [] pos) (SF r t):=by
 intro pins s a H Q I h;refine ab1 (fB I i g f ?_ hn l);exact aa3 (dD (k pos pins s a H _ I h) λc d ⟨b,n,m,r1,q1⟩=>j pins d a n b c Q m r1 q1) he hpl
end
end L2
namespace HT
open PySem PyProof.Rows
meta def lexLt:ae->ae->Bool
 |[],[]=>false
 |[],_::_=>true
 |_::_,[]=>false
 |x::xs,y::ys=>if x=y then lexLt xs ys else decide (x<y)
def dR(x y:Int)(xs a:ae):lexLt (x::xs) (y::a)=if x=y then lexLt xs a else decide (x<y):=rfl
def kA:lexLt [] []=false:=rfl
def cK(x:Int)(xs:ae):lexLt (x::xs) []=false:=rfl
def Gn(A:aF)(s:am)(a:Int)(t:Tok)(c:Int)(u:Tok):∃e,SM A s (.int a t) (.int c u) e/\(e=true ↔ a=c) :=
 ⟨(a==c),Ix a t c u,by simp⟩
section
variable {prog:aG}{w:World}{A:aF}{E:aB}{s:am}
def KW{t b:Addr}{vs ws:aw}{Q:aB}(p:IsTup s.heap t vs.toArray)(q:IsTup s.heap b ws.toArray)(k:vs≠[])
  (u:ws=[]->Q (.ref t) s) (r:ws≠[]->Q (.ref s.heap.objs.size) { s with heap:=s.heap.push { cls:=.type "tuple",data:=.seq (vs++ws).toArray } })
  (hsz:vs.length+ws.length<=sizeLine):⇑1 (wi .Add (.ref t) (.ref b)) Q E s:=by
 ext(⟨⟨g,m,data,i⟩,f,l,n,hd⟩:id p)(⟨⟨v,o,data2,h⟩,d,c,j,a⟩:id q);simp only at l hd c a;subst l hd c a;have e:vs.toArray++ws.toArray=(vs++ws).toArray:=by simp
 by_cases hw:ws=[]
 ·exact W0 ⟨_,f,rfl⟩ ⟨_,d,rfl⟩ GT R7 adx ado (adf _ _)
   (tuple_addW1 t b vs.toArray ws.toArray n j m o i h ⇑k (by simp[hw])) ⟨f,d,u hw⟩
 ·refine W0 ⟨_,f,rfl⟩ ⟨_,d,rfl⟩ GT R7 adx ado (adf _ _)
   (tuple_addW2 t b vs.toArray ws.toArray n j m o i h ⇑k ⇑hw ([zad,zad]\hsz)) ⟨f,d,?_⟩
  exact[e]\r hw
meta def uM(n d:Nat):Option Int->Nat
 |none=>d
 |some v=>if v<0 then(v+(n:Int)).toNat else min v.toNat n
def DS(n d:Nat):uM n d none=d:=rfl
end
end HT
namespace L2
open PySem PySem.Spec PyProof.Rows
abbrev TO:=St->Hp->(Option Int->Hp->Prop)->Prop
def PO(X:Cx)(e:Option Expr)(t:TO):Prop :=
 ∀(pins:au) (s:am) (a:St) (H:Hp) (Q:Option Int->Hp->Prop),Inv X pins a H s->t a H Q ->
  ⇑0 (evalPart e X.env) (λu c=>∃o b,Inv X pins a b c/\IsPart u o/\Q o b) X.xe s
def Iy:TO:=λ_ H Q=>Q none H
def Su(t:TE):TO:=λa H Q=>t a H λx b=>∃i,x=.int i/\Q ↥i b
def intsAre_of{ns:ae}:∀{a:aw},Vals (ns.map V.int) a->h9 a ns:=by
 induction ns with
 |nil=>intro a r;rw[zbK]at r;cases r;exact .nil
 |cons n ns b =>
  intro a r;rw[zam]at r;cases r with
  |cons r1 r2 =>
   ext(⟨t,e⟩:r1);subst e;exact .cons n t (b r2)
section
variable {X:Cx}{e:Expr}{te:TE}{lo hi:Option Expr}{tl th:TO}{pos p2:Pos}
def tq:PO X none Iy:=by
 intro pins s a H Q I h;exact[evalPart_none]\aaf ⟨none,H,I,.none,h⟩
def tm(h:PE X e te):PO X ↥e (Su te):=by
 intro pins s a H Q I hw;rw[evalPart_some];refine dD (h pins s a H _ I hw) λu f b=>?_;ext(⟨x,d,c,r1,q1⟩:b)(⟨i,rfl,q⟩:q1)(⟨t,rfl⟩:r1);exact⟨↥i,d,c,.int i t,q⟩
def SlR(X:Cx)(r:V->Option Int->Option Int->Hp->VK->Prop):Prop :=
 ∀(pins:au) (s:am) (a:St) (H:Hp) (x:V) (v c b:Value) (lo hi:Option Int) (d:Addr) (Q:VK),Inv X pins a H s->RelV x v->s.heap.IsSliceOf d c b .none->IsPart c lo->IsPart b hi->r x lo hi H Q ->
  ∃T id,yaO (.type T) "__getitem__" = pure ↥(.builtin id)/\s.TypeIs v T/\⇑0 (getItem v (.ref d)) (EP X pins a Q) X.xe s
def tSl(r:V->Option Int->Option Int->Hp->VK->Prop)(te:TE)(tl th:TO):TE:=λa H Q=>te a H λx d=>tl a d λl c=>th a c λu b=>r x l u b Q
def vM{r:V->Option Int->Option Int->Hp->VK->Prop}(y:SlR X r)(he:PE X e te)(z:PO X lo tl)(p:PO X hi th):PE X (.Subscript e (.Slice lo hi none p2) pos) (tSl r te tl th):=by
 intro pins s c H Q I h;refine Subscript_ (dD (he pins s c H _ I h) λv k g=>?_);ext(⟨x,K,G,r1,q1⟩:g);refine wpAny_Slice (dD (z pins k c K _ G q1) λf j ⟨l,J,F,o,q2⟩=>dD (p pins j c J _ F q2) λd a g=>?_);ext(⟨u,i,E,n,m⟩:g);rw[evalPart_none];refine aaf ?_;have D:Inv X pins c i { a with heap:=a.heap.push { cls:=.type "slice",data:=.fields #[f,d,.none] } }:=E.kept (t':=a.toks) λb L q=>aai _ q;ext(⟨T,id,C,t,B⟩:y pins { a with heap:=a.heap.push { cls:=.type "slice",data:=.fields #[f,d,.none] } } c i x v f d l u a.heap.objs.size Q D r1 (yaD ..) o n m);show ⇑0 (subscriptTail e (.Slice lo hi none p2) v (.ref a.heap.objs.size)) (EP X pins c Q) X.xe { a with heap:=a.heap.push { cls:=.type "slice",data:=.fields #[f,d,.none] } };exact tail_any (ops:=[.ref a.heap.objs.size,v]) t C B (by with_unfolding_all rfl)
def Cn(xs:ah)(lo hi:Option Int):ah:=(xs.drop (HT.uM xs.length 0 lo)).take (HT.uM xs.length xs.length hi - HT.uM xs.length 0 lo)
def wL(xs:ah)(lo hi:Option Int):(Cn xs lo hi).length<=xs.length:=by
 unfold Cn;rw[zar,zbp];left
def Tc(K:av):R2:=λx y H Q=>∃a b d c,x=.ref a/\y=.ref b/\a_ K H a d/\a_ K H b c/\d≠[]/\d.length+c.length<=sizeLine /\
 (c=[]->Q (.ref a) H)/\(c≠[]->∀p,H p=none->Q (.ref p) (upd H p (.tup (d++c))))
def Vals.tI{xs:ah}{a:aw}(r:Vals xs a):a=[] ↔ xs=[]:=by
 cases r with
 |nil=>simp
 |cons _ _=>simp
def Jp:oO X (wi .Add) (Tc X.K):=by
 intro pins s n H x y v u Q I i g h;ext(⟨a,b,f,d,rfl,rfl,m,l,k,c,q1,q2⟩:h);cases i;cases g;ext(⟨t,r1,j,_⟩:I.tuple m)(⟨r,r2,p2,_⟩:I.tuple l);refine HT.KW j p2 (λz=>k (r1.tI.mp z)) (λz=>⟨.ref a,H,I,rfl,q1 (r2.tI.mp z)⟩) (λz=>?_) ([-r1.length,-r2.length]\c);refine⟨.ref s.heap.objs.size,_,I.laid (t':=s.toks) (o:=.tup (f++d)) (λb p q=>aai _ q) (aao _) ?_,rfl,q2 (λw=>z (r2.tI.mpr w)) _ (I.cI.fresh (aao _))⟩;exact⟨[zaf]\c,_,r1.append r2,XX _ _⟩
end
end L2
namespace L2
open PySem PySem.Spec PyProof.Rows
meta def Fp(n:Nat)(i:Int):Option Nat:=if 0<=i then(if i<n then ↥i.toNat else none)else if -(n:Int)<=i then ↥(i+n).toNat else none
def RX{a:Type}(xs:List a)(i:Int):Option a:=(Fp xs.length i).bind λj=>xs[j]?
def JK{n:Nat}{i:Int}{j:Nat}(h:Fp n i=↥j):seqIndex? i n=↥j/\j<n /\ -(n:Int)<=i/\i<n:=by
 unfold Fp at h;by_cases b:0<=i
 ·rw[zac b]at h;by_cases a:i<n
  ·rw[zac a]at h;have e:i.toNat=j:=aaI h;exact⟨by rw[seqIndex_of b a,e],by left,by left,a⟩
  ·rw[zab a]at h;cases h
 ·rw[zab b]at h;by_cases a:-(n:Int)<=i
  ·rw[zac a]at h;have e:(i+n).toNat=j:=aaI h;exact⟨by rw[seqIndex_neg ⋯ a,e],by left,a,by left⟩
  ·rw[zab a]at h;cases h
def AW{a:Type}{xs:List a}{i:Int}{v:a}(h:RX xs i=↥v):∃j,seqIndex? i xs.length=↥j/\xs[j]?=↥v/\j<xs.length /\ -(xs.length:Int)<=i/\i<xs.length:=by
 unfold RX at h;cases e:Fp xs.length i with
 |none=>rw[e]at h;cases h
 |some j =>
  rw[e]at h;ext(⟨f,d,c,b⟩:JK e);exact⟨j,f,h,d,c,b⟩
def oN(b:Expr):Prop:=∀o i,subscripted b false o i=operate [o,i] (getItem o i)
def Lh(X:Cx)(r:R2):Prop :=
 ∀(value slice:Expr) (pins:au) (s:am) (a:St) (H:Hp) (x y:V) (v u:Value) (Q:VK),Inv X pins a H s->RelV x v->RelV y u->r x y H Q ->
  subscripted slice false v u=operate [v,u] (getItem v u)->⇑0 (subscriptTail value slice v u) (EP X pins a Q) X.xe s
def MtR(X:Cx)(id:String)(r:V->ah->Hp->VK->Prop):Prop :=
 ∀(pins:au) (s:am) (a:St) (H:Hp) (x:V) (xs:ah) (v:Value) (b:aw) (Q:VK),Inv X pins a H s->RelV x v->Vals xs b->r x xs H Q ->
  ⇑0 (call (.builtin id) (v::b)) (EP X pins a Q) X.xe s
section
variable {X:Cx}{a b:Expr}{ta tb:TE}{pos:Pos}
def Lh.or{r f:R2}(h:Lh X r)(h':Lh X f):Lh X (λx y H Q=>r x y H Q\/f x y H Q):=by
 intro value slice pins s c H x y v u Q I e d q g;ext((q|q):q)
 ·exact h value slice pins s c H x y v u Q I e d q g
 ·exact h' value slice pins s c H x y v u Q I e d q g
def Em{r:R2}(g:Lh X r)(j:PE X a ta)(i:PE X b tb)(hs:oN b):PE X (.Subscript a b pos) (Nw r ta tb):=by
 intro pins s c H Q I h;exact Subscript_ (Q4 j i I h λv u d x y l k f e q=>g a b pins d c l x y v u Q k f e q (hs _ _))
def Y0(K:av):R2:=λx y H Q=>∃p c i v,x=.ref p/\y=.int i/\eA K H p c/\RX c i=↥v/\Q v H
def N3(K:av):R2:=λx y H Q=>∃p c i v,x=.ref p/\y=.int i/\a_ K H p c/\RX c i=↥v/\Q v H
def JH:Lh X (Y0 X.K):=by
 intro value slice pins s f H x y v u Q I o n h g;ext(⟨p,L,i,z,rfl,rfl,B,D,q⟩:h);cases o;ext(⟨t,rfl⟩:n)(⟨J,r,d,M⟩:I.list B)(⟨j,c,G,O,F,E⟩:AW D)(⟨w,l,A⟩:r.get G);have C:=r.length;have N:=yf;have fin:EP X pins f Q w s:=⟨z,H,I,A,q⟩
 by_cases k:0<=i
 ·have e:i.toNat=j:=by
   rw[seqIndex_of k E]at c;exact aaI c
  exact item_listR d.isList k ⋯ (by rw[e];simpa using l) fin g
 ·have e:(i+(J.toArray.size:Int)).toNat=j:=by
   rw[seqIndex_neg ⋯ F]at c;exact[zad,-C]\aaI c
  exact acR (x:=w) d.isList.typeIs Es.lookup
   (wpAny_getItem_list_neg (Q:=λr m=>r=w/\EP X pins f Q r m) d.isList ⋯ (by rw[zad]<;>omega) ⋯ (by rw[e];simpa using l) ⟨rfl,fin⟩) g
def OT:Lh X (N3 X.K):=by
 intro value slice pins s c H x y v u Q I g f h l;ext(⟨p,D,i,z,rfl,rfl,m,o,q⟩:h);cases g;ext(⟨t,rfl⟩:f)(⟨M,r,d,E⟩:I.tuple m)(⟨j,B,A,L,J,G⟩:AW o)(⟨w,C,k⟩:r.get A);have n:=r.length;have F:=yf;have fin:EP X pins c Q w s:=⟨z,H,I,k,q⟩
 exact acR (x:=w) d.typeIs slot_tuple_getitem.lookup
  (getItem_tuple (j:=j) (Q:=λr e=>r=w/\EP X pins c Q r e) d ⋯ ⋯ ([zad,-n]\B) ⇑C ⟨rfl,fin⟩) l
def sR(lo c:Option Int)(n:Nat):(oC lo c none n).1=((HT.uM n 0 lo:Nat):Int)/\(oC lo c none n).2.1=((HT.uM n n c:Nat):Int)/\(oC lo c none n).2.2=1:=by
 refine⟨?_,?_,rfl⟩
 ·cases lo with
  |none=>simp[oC,HT.uM]
  |some i =>
   simp only[oC,HT.uM,TN,show(1:Int)>0 by decide,if_true];by_cases h:i<0
   ·simp only[h,if_true]<;>left
   ·simp only[h,if_false]<;>left
 ·cases c with
  |none=>simp[oC,HT.uM]
  |some i =>
   simp only[oC,HT.uM,TN,show(1:Int)>0 by decide,if_true];by_cases h:i<0
   ·simp only[h,if_true]<;>left
   ·simp only[h,if_false]<;>left
def qA(c:aw)(lo d:Option Int):slicePick c.toArray lo d none=((c.drop (HT.uM c.length 0 lo)).take (HT.uM c.length c.length d - HT.uM c.length 0 lo)).toArray:=by
 ext(⟨g,f,e⟩:sR lo d c.toArray.size);unfold slicePick;rw[g,f,e];simp only[sliceRange_one,pick_run,zad]<;>rfl
def YY(K:av):V->Option Int->Option Int->Hp->VK->Prop:=λx d e H Q=>∃a c,x=.ref a/\eA K H a c/\∀p,H p=none->Q (.ref p) (upd H p (.lst (Cn c d e)))
def sS:SlR X (YY X.K):=by
 intro pins s n H x v t p d e u Q I g m j i h;ext(⟨a,c,rfl,l,q⟩:h);cases g;ext(⟨y,r,f,k⟩:I.list l);have hlen:=r.length;refine⟨"list",_,Es.lookup,f.isList.typeIs,?_⟩;refine Rq f.isList m j i .none ⇑5 ?_ (by rw[zad]<;>omega);rw[qA,<- hlen];refine⟨.ref s.heap.objs.size,_,I.laid (t':=s.toks) (o:=.lst (Cn c d e)) (λb w q=>aai _ q) (aao _) ?_,rfl,q _ (I.cI.fresh (aao _))⟩;exact⟨aav (wL c d e) k,_,0,(r.drop (HT.uM c.length 0 d)).take (HT.uM c.length c.length e - HT.uM c.length 0 d),aax _ rfl⟩
meta def rV:V->Bool
 |.bX=>true
 |.bl _=>true
 |.int _=>true
 |.str _=>true
 |_=>false
meta def eqV:V->V->Bool
 |.bX,.bX=>true
 |.bl a,.bl b=>a==b
 |.bl a,.int b=>(if a then 1 else 0)==b
 |.int a,.bl b=>a==(if b then 1 else 0)
 |.int a,.int b=>a==b
 |.str a,.str b=>a==b
 |_,_=>false
def Ur(x:V)(xs:ah):Bool:=xs.any λy=>eqV y x
def rIn(K:av)(neg:Bool):R2:=λx y H Q=>∃p c,y=.ref p/\(eA K H p c\/a_ K H p c)/\rV x=true/\c.all rV=true/\Q (.bl (if neg then !Ur x c else Ur x c)) H
def uz:fJ X (.builtin "len") (λg H Q=>∃p c,g=[.ref p]/\(eA X.K H p c\/a_ X.K H p c)/\Q ↑c.length H):=by
 intro pins s l H g m Q I r h;ext(⟨p,c,rfl,d,q⟩:h)(⟨u,rfl,i⟩:vals1 r);cases i;have n:=yf;ext((d|d):d)
 ·ext(⟨k,e,f,j⟩:I.list d);have hlen:=e.length;exact Calls.call_len_list f.isList (by simp only[zad]<;>omega) ⟨.int c.length,H,I.tok _,⟨s.toks+1,by rw[zad,hlen]⟩,q⟩
 ·ext(⟨k,e,f,j⟩:I.tuple d);have hlen:=e.length;exact len_tuple f (by simp only[zad]<;>omega) ⟨.int c.length,H,I.tok _,⟨s.toks+1,by rw[zad,hlen]⟩,q⟩
def uy:fJ X (.type "list") (λw H Q=>∃p d,w=[.ref p]/\(eA X.K H p d\/a_ X.K H p d)/\∀l,H l=none->Q (.ref l) (upd H l (.lst d))):=by
 intro pins s y H w A Q I r h;ext(⟨p,d,rfl,k,q⟩:h)(⟨u,rfl,z⟩:vals1 r);cases z;have fin:∀(c:aw),Vals d c->d.length<=sizeLine->∀(h':Heap) (g:Nat),(∀b x,s.heap.get? b=↥x->h'.get? b=↥x) ->
   h'.get? s.heap.objs.size=some { cls:=.type "list",dict:=none,data:=.seq c.toArray g,slots:=#[] }->EP X pins y Q (.ref s.heap.objs.size) { s with heap:=h' }:=λc f j h' g i e =>
  ⟨.ref s.heap.objs.size,_,I.laid (t':=s.toks) i (aao _) (show cN _ h' _ (.lst d) from⟨j,c,g,f,e⟩),rfl,q _ (I.cI.fresh (aao _))⟩
 ext((k|k):k)
 ·ext(⟨c,f,m,j⟩:I.list k);have hlen:=f.length;ext(⟨o,t,v,n,hd⟩:m.isList);exact call_list_seq p (.inl rfl) t v hd (λh' g i e=>fin c f j h' g i e) (by simp only[zad]<;>omega)
 ·ext(⟨c,f,m,j⟩:I.tuple k);have hlen:=f.length;ext(⟨o,t,v,n,hd⟩:m);exact call_list_seq p (.inr rfl) t v hd (λh' g i e=>fin c f j h' g i e) (by simp only[zad]<;>omega)
def qT:fJ X (.type "tuple") (λm H Q=>∃p c,m=[.ref p]/\((eA X.K H p c/\∀l,H l=none->Q (.ref l) (upd H l (.tup c)))\/(a_ X.K H p c/\Q (.ref p) H))):=by
 intro pins s k H m y Q I r h;ext(⟨p,c,rfl,h⟩:h)(⟨u,rfl,v⟩:vals1 r);cases v;ext((⟨i,q⟩|⟨i,q⟩):h)
 ·ext(⟨j,f,g,n⟩:I.list i);have hlen:=f.length;refine call_tuple_list g.isList (λd w=>?_) (by simp only[zad]<;>omega);have t:Inv X pins k H { s with heap:=d }:=I.kept (t':=s.toks) w;have x:Inv X pins k (upd H d.objs.size (.tup c)) { s with heap:=d.push { cls:=.type "tuple",data:=.seq j.toArray } } :=
   t.laid (t':=s.toks) (λb o e=>aai _ e) (aao _) (show cN _ _ _ (.tup c) from⟨n,j,f,XX _ _⟩)
  exact⟨.ref d.objs.size,_,x,rfl,q _ (t.cI.fresh (aao _))⟩
 ·ext(⟨j,f,g,n⟩:I.tuple i);exact call_tuple_same g ⟨.ref p,H,I,rfl,q⟩
def Yd(K:av)(T:String)(x:V)(H:Hp):Prop:=match x with
 |.ref p=>T = "list" /\ ∃c,eA K H p c
 |_=>False
def Np{pins:au}{h:St}{H:Hp}{s:am}{T:String}{x:V}{v:Value}(I:Inv X pins h H s)(r:RelV x v)(d:Yd X.K T x H):
  s.TypeIs v T/\∀a,v=.ref a->∃g,s.heap.get? a=↥g/\g.dict=none:=by
 cases x with
 |ref p =>
  cases r;ext(⟨rfl,j,i⟩:d)(⟨k,_,f,_⟩:I.list i);refine⟨f.isList.typeIs,λa e=>?_⟩;cases e;ext(⟨o,n,e,c,hd,_⟩:f);exact⟨o,e,hd⟩
 |_=>exact ml d
def tBM(K:av)(T:String)(r:V->ah->Hp->VK->Prop)(to:TE)(t:TA):TE:=λc H Q=>to c H λx d=>Yd K T x d/\t c d λe f=>r x e f Q
variable {o e:Expr}{es:aj}{to:TE}{t:TA}{name:Str}{apos cpos:Pos}{T id:String}{r:V->ah->Hp->VK->Prop}
def En(n:PlainAttrs T)(slot:Slot T name id)(d:typeOf (.builtin id)=pure (.type "method_descriptor"))(q:MtR X id r)(p:PE X o to)(u:PA X (e::es) t)
  (E:attributeBase o name X.env (eval o X.env)=eval o X.env:=by rfl)
  (hfew:((nU cpos (cj (e::es) X.env)).all (λx=>!x.1)&&(backToKw cpos (keywordEach [] X.env)).all (λx=>x.1.isSome)
   && decide ((e::es).length+([]:List wh).length+(if ([]:List wh).isEmpty then 0 else 1)<30))=true:=by rfl)
  (hline:(apos.endLine==cpos.line)=true:=by rfl) (hs:cj (e::es) X.env=(false,eval e X.env)::cj es X.env:=by rfl) (A:(nU cpos (cj es X.env)).any (·.1)=false:=by rfl) :
  PE X (.Call (.Attribute o name apos) (e::es) [] cpos) (tBM X.K T r to t):=by
 intro pins s c H Q I h;refine wpAny_Call_method_late E hfew hline rfl (dD (p pins s c H _ I h) λv m z=>?_);ext(⟨x,D,g,r1,k,q1⟩:z)(⟨y,w⟩:Np g r1 k);refine⟨T,id,n,slot,d,y,w,?_⟩;ext(f:u cpos pins m c D _ g q1);rw[hs]at f ⊢;refine KT (by show(false||(nU cpos (cj es X.env)).any (·.1))=false;rw[A]<;>rfl) (adX ?_);exact dD f λj l ⟨i,C,B,r2,q2⟩=>q pins l c C x i v j Q B r1 r2 q2
/- xs.append(e),list.index on a module's tuple .. are MtR facts of 06m -/
end
end L2
namespace L2
open PySem PySem.Spec PyProof.Rows
def MtM(X:Cx)(id:String)(r:V->ah->Hp->VK->Prop):Prop :=
 ∀(pins:au) (s:am) (a:St) (H:Hp) (x:V) (xs:ah) (v:Value) (b:aw) (Q:VK),Inv X pins a H s->RelV x v->Vals xs b->r x xs H Q ->
  ⇑0 (call (.builtin id) (v::b)) (EP X pins a Q) X.xe s
def Vals.one:∀{x:V} {a:aw},Vals [x] a->∃u,a=[u]/\RelV x u
 |_,_,.cons r .nil=>⟨_,rfl,r⟩
theorem Vals.rep{xs:ah}{a:aw}(h:Vals xs a):∀k:Nat,Vals (ap k xs).flatten (ap k a).flatten
 |0=>.nil
 |k+1=>by
  exact[zaA,zaA,zaS,zaS]\Vals.append h (Vals.rep h k)
theorem foldl_rep(b:aw):∀(k:Nat) (a:aw),
  Vc (λd c=>d++c) a.toArray (ap k b.toArray)=(a++(ap k b).flatten).toArray
 |0,a=>by simp
 |k+1,a=>by
  have e:a.toArray++b.toArray=(a++b).toArray:=by simp
  have e2:(a++b)++(ap k b).flatten=a++(ap (k+1) b).flatten:=by
   rw[zaA,zaS,zai]
  rw[<- e2,<- foldl_rep b k (a++b),<- e,zaA,Z8]
variable {aP:aw}{t':Nat}
section
variable {X:Cx}{pins:au}{σ:St}{H:Hp}{s:am}{l b:Addr}{xs ys zs:ah}
def Inv.mQ{its':aw}{n:Nat}{f:aZ->aZ}(I:Inv X pins σ H s)(g:H l=↥(.lst xs))
  (e:s.heap.get? l=some { cls:=.type "list",data:=.seq aP.toArray n }) (hf:f aP.toArray=its'.toArray) (a:Vals ys its') (hz:ys.length<=sizeLine) :
  Inv X pins σ (upd H l (.lst ys)) { s with heap:=s.heap.update l (ej f),toks:=t' }:=by
 ext(q:NE e f);rw[hf]at q;refine I.write (x:=l) ([g]\trivial) (λh u d c=>(abY s.heap (ej f) (acW d)).trans c) ⟨_,q⟩ ?_;exact⟨hz,its',_,a,q⟩
def Inv.OJ(I:Inv X pins σ H s)(a:Vals ys aP)(hz:ys.length<=sizeLine):
  Inv X pins σ (upd H s.heap.objs.size (.lst ys)) { s with heap:=s.heap.push { cls:=.type "list",data:=.seq aP.toArray },toks:=t' } :=
 I.laid (λ_ _ q=>aai _ q) (aao _) ⟨hz,aP,0,a,aax _ rfl⟩
theorem Inv.fresh(I:Inv X pins σ H s):H s.heap.objs.size=none:=I.cI.fresh (aao _)
def Inv.BG(I:Inv X pins σ H s)(a:H l=↥(.lst xs)):xs.length<=sizeLine/\∃(aP:aw) (n:Nat),Vals xs aP/\xs.length=aP.length/\s.heap.get? l=some { cls:=.type "list",data:=.seq aP.toArray n }:=by
 ext(⟨z,aP,n,r,e⟩:I.cI l _ a);exact⟨z,aP,n,r,r.length,e⟩
def vR{n:Nat}(h:n<=sizeLine):ky n=false:=by
 unfold ky;exact adY ⋯
end
section
variable {X:Cx}
def zI:V->ah->Hp->VK->Prop:=λx b H Q=>∃l a y,x=.ref l/\b=[y]/\H l=↥(.lst a)/\a.length<sizeLine/\Q .bX (upd H l (.lst (a++[y])))
def rH:MtM X "list.append" zI:=by
 intro pins s f H x i v j Q I b c h;ext(⟨l,g,y,rfl,rfl,a,k,q⟩:h);cases b;ext(⟨u,rfl,d⟩:c.one)(⟨z,aP,n,r,m,e⟩:I.BG a);refine adZ F.slot_list_append ⟨_,e,rfl⟩ F.entry_list_append (F.args_list_append_2 _ _) (SZ l aP.toArray n u (by rw[zad];left)) ⟨e,?_⟩;refine⟨.bX,_,I.mQ (its':=aP++[u]) a e ⇑5 (r.append (.cons d .nil)) ?_,rfl,q⟩;rw[zaf,zaC];left
def I0:V->ah->Hp->VK->Prop:=λx d H Q=>∃l b c a,x=.ref l/\d=[.ref b]/\H l=↥(.lst c)/\H b=↥(.lst a)/\c.length+a.length<=sizeLine/\Q .bX (upd H l (.lst (c++a)))
def BC:MtM X "list.extend" I0:=by
 intro pins s o H x y v A Q I f g h;ext(⟨l,b,w,p,rfl,rfl,d,k,B,q⟩:h);cases f;ext(⟨u,rfl,i⟩:g.one);cases i;ext(⟨z,aP,n,r,C,e⟩:I.BG d)(⟨t,a,j,r2,D,e2⟩:I.BG k);have c:aP.toArray.size+a.toArray.size<=sizeLine:=by rw[zad,zad];left
 have m:¬ (!aP.toArray.isEmpty&&ky (aP.toArray.size+a.toArray.size))=true:=by
  exact[vR c,zat]\aad
 refine adZ F.slot_list_extend ⟨_,e,rfl⟩ F.entry_list_extend (F.args_list_extend_2 _ _)
  (AutoSeq1.list_extend_list_list_0 l aP.toArray n b a.toArray j m (by rw[zad];left) ⋯) ⟨e,e2,?_⟩
 refine⟨.bX,_,I.mQ (its':=aP++a) d e ⇑5 (r.append r2) ?_,rfl,q⟩;rw[zaf];left
def Y2:R2:=λx y H Q=>∃l b c a,x=.ref l/\y=.ref b/\H l=↥(.lst c)/\H b=↥(.lst a)/\c.length+a.length<=sizeLine/\∀p,H p=none->Q (.ref p) (upd H p (.lst (c++a)))
def Ey:oO X (wi .Add) Y2:=by
 intro pins s j H x y v u Q I d c h;ext(⟨l,b,o,k,rfl,rfl,f,g,t,q⟩:h);cases d;cases c;ext(⟨z,aP,n,r,w,e⟩:I.BG f)(⟨m,a,p,r2,A,e2⟩:I.BG g);refine PySem.P.add_list e e2 ?_ (by rw[zad,zad];left);have i:aP.toArray++a.toArray=(aP++a).toArray:=by simp
 exact[i]\⟨.ref _,_,I.OJ (t':=s.toks) (r.append r2) (by rw[zaf];left),rfl,q _ I.fresh⟩
def YZ:R2:=λx y H Q=>∃l k a,x=.ref l/\y=.int k/\H l=↥(.lst a) /\ -(2 ^ 63)<=k/\k<2 ^ 63/\a.length*k.toNat<=sizeLine /\
 ∀p,H p=none->Q (.ref p) (upd H p (.lst (ap k.toNat a).flatten))
def len_rep{a:Type}(xs:List a)(k:Nat):(ap k xs).flatten.length=k*xs.length:=by
 induction k with
 |zero=>simp
 |succ k b=>rw[zaA,zaS,zaf,b,Nat.succ_mul,zbr]
def Ol:oO X (wi .Mult) YZ:=by
 intro pins s G H x y v u Q I j i h;ext(⟨l,k,J,rfl,rfl,w,B,A,f,q⟩:h);cases j;ext(⟨t,rfl⟩:i)(⟨z,aP,n,r,p,e⟩:I.BG w);have hlen:aP.toArray.size*k.toNat<=sizeLine:=[zad,-p]\f
 have o:¬ aP.toArray.size*k.toNat>(2 ^ 63 - 1) / 8:=by
  have:(sizeLine:Nat)<=(2 ^ 63 - 1) / 8:=by decide
  left
 have d:¬ (!Builtin.List.listFitsIndex k)=true:=by
  exact[fitsIndex_both B A]\aad
 have E:¬ ky (aP.toArray.size*k.toNat)=true:=by
  exact[vR hlen]\aad
 have D:Vc (λc b=>c++b) #[] (ap (if aP.toArray.isEmpty=true then 0 else k.toNat) aP.toArray)=(ap k.toNat aP).flatten.toArray:=by
  have C:∀m:Nat,Vc (λc b=>c++b) #[] (ap m aP.toArray)=(ap m aP).flatten.toArray:=λm=>by
   have:=foldl_rep aP m [];rw[zaz]at this;exact this
  rw[C];cases aP with
  |nil=>simp
  |cons a K=>rw[zab ⇑5]
 refine wpAny_binaryOp_repeat_ref (T:="list") (U:="int") ⇑4 ⟨_,e,rfl⟩ (λg=>typeIs_int g k t) noFill_list_mul F.fills_int_mul ya2 repeat_list F.slot_int_index.lookup
  (adZ ya2 (typeIs_int s k t) F.entry_int_rmul (F.args_int_rmul_2 _ _) (int___rmul___int_list k t l aP.toArray n)
   ⟨e,rfl,⟨_,e,rfl⟩,adZ F.slot_list_mul ⟨_,e,rfl⟩ F.entry_list_mul (F.args_list_mul_2 _ _) (AutoListH.list___mul___list_int_3 l aP.toArray n k t d o E) ⟨e,?_⟩⟩)
 exact[D]\⟨.ref _,_,I.OJ (t':=s.toks) (r.rep k.toNat) ([len_rep,zbL]\f),rfl,q _ I.fresh⟩
end
end L2
namespace Att
open PySem PySem.W PySem.Calls PyProof.Rows
variable {h:Heap}
def nV{P:Params}:∀(ns:ae) (vs:aw),WellAll P h vs (ns.map WData.int)->h9 vs ns:=by
 intro ns;induction ns with
 |nil =>
  intro vs w;rw[zbK]at w;cases w;exact .nil
 |cons n ns c =>
  intro vs w;rw[zam]at w;cases w with
  |cons a b =>
   cases a;exact .cons _ _ (c _ b)
def Bo{l:OpenLaw}{n:Nat}(hn:l.most=↥n){P:Params}{args:List WData}{vals:aw}
  (i:l.row.toRowW.claim.pre args=true) (s:WellAll P h vals args) :
  ∃a f b,vals=[em a]/\args=[WData.list (b.map WData.int)]/\h.get? a=some { cls:=.type "list",data:=.seq f.toArray }/\h9 f b/\b.length<=n:=by
 have t:WShape.hasAll [] args [.list .int]=true:=(pre_splitW i).1;have g:l.pre.holds [] { args:=args }=true:=(pre_splitW i).2;ext(⟨d,r,rfl,p,o⟩:hasAllW_cons t)(rfl:hasAllW_nil o)(⟨v,rfl,m⟩:hasW_list p)(⟨b,rfl⟩:items_int m);have hlen:b.length<=n:=by
  unfold OpenLaw.pre at g;have e:(WTm.not (.lt (.lit ↑(n:Int)) (.len (.arg 0)))).holds [] { args:=[.list (b.map .int)] }=true:=by
   ext(e:(holds_andW g).1);rw[hn]at e;exact e
  ext(c:condW_of e (w_not (w_lt w_lit (w_len_list (w_arg rfl)))));rw[zaa]at c;refine Bc λq=>?_;have j:(n:Int)<((b.length:Nat):Int):=by left
  first
   | (rw[zaH j]at c;exact absurd c ⇑4)
   | (simp at c;left)
 cases s with
 |cons w1 w2 =>
  cases w2;cases w1 with
  |list k u=>exact⟨_,_,b,rfl,rfl,k,nV b _ u,hlen⟩
def Bx(l:OpenLaw)(args:List WData):l.row.toRowW.claim.post args (.bool true) args=true :=
 postW_of (r:=l.row.toRowW) (X:=(true==true))
  (show yaU [] (.bool true) .bool=true by first|rfl|decide|simp[yaU,WShape.arms,WShape.armsAll])
  (show(WTm.eq .res (.lit (.bool true))).value [] { args:=args,res:=↥(.bool true),after:=args }=↥(.bool (true==true)) from w_eq_bool (w_res rfl) w_lit) rfl
def xg{l:OpenLaw}{n:Nat}{q:aG}{loose:aq}{p:(aU)->Heap->Prop}{m:World->Heap->Prop}{d:DefRec}
  (hn:l.most=↥n) (I:d.params.defaults=[])
  (call:∀(w:World) (s₀ b:am) (mg j:aU) (fa:Addr) (o:Obj) (i g c:Value) (a:Addr) (vs:aw) (ns:ae),
   Ground q loose [] p w s₀ mg j b.heap->m w b.heap ->
   b.heap.get? fa=↥o->o.data=.func (docDef d.name d.params d.body d.scope i g c)->b.heap.CodeRec g d.name->mg d.name=↥(.ref fa) ->
   b.heap.get? a=some { cls:=.type "list",data:=.seq vs.toArray }->h9 vs ns->ns.length<=n->b.gens = #[] ->
   pp (model l.prog w) L1 (.call (.ref fa) ⟨[.ref a],[]⟩) (λr e=>r=.ok (.ret (.bool true))/\OldK b.heap e.heap/\e.os=b.os/\tU e.gens) b) :
  WalkO q loose p m l.row.toRowW d [] (λf vs=>Tk f vs):=by
 intro w s₀ b mg j G Y fa o i g c E t x hd s k hmg A args vals as K F u H z;obtain rfl:E=.none:=Dflts.none k I;obtain rfl:t=.none:=Dflts.noKw k;ext(⟨a,vs,ns,rfl,rfl,J,hints,hlen⟩:Bo hn K H);refine enter_call (ade (call w s₀ b mg j fa o i g c a vs ns G Y x (fd_plain hd) s hmg J hints hlen A) λr e v=>?_);ext(⟨rfl,D,C,B⟩:v);exact⟨.inl ⟨.bool true,.bool true,[],rfl,λ_=>rfl,.bool true,Bx l _,λ_=>⟨FM,λ_ y=>(nomatch y)⟩⟩,D,C,B⟩
end Att
namespace L2
open PySem PySem.Spec PyProof.Rows
theorem mq:∀{vs:aw} {ns:ae},h9 vs ns->Vals (ns.map V.int) vs
 |_,_,.nil=>.nil
 |_,_,.cons n t h=>.cons ⟨t,rfl⟩ (mq h)
def Le(H:Hp):Prop:=∀b,H b=none\/∃o a,H b=↥(.iH o (.lst a))
def Fd{P:aG}{w:World}{K:av}{mg t:aU}{CX:CH}{k:Nat}{fa a:Addr}{M:hA}{x:Str}{sp:Sp}{c:am}{vs:aw}{ns:ae}
  (KX:K.In c.heap) (O:c.heap.Ns cm mg) (f:c.heap.Ns yaR t) (A:∀x:Str,x ≠ "__name__" -> t x=j_ x) (D:c.heap.NoLimit) (Z:c.gens = #[])
  (l:c.heap.get? a=some { cls:=.type "list",data:=.seq vs.toArray }) (I:h9 vs ns) (G:ns.length<=sizeLine) (Y:gw k L1)
  (F:∀base:Heap,K.In base->base.Ns cm mg->fQ P w K mg base CX k fa M [x] sp) (U6:∀(s:am) (u:Value),UQ s M ⟨[u],[]⟩ [(x,u)])
  (S:∀H:Hp,Le H->eA K H a (ns.map V.int)->sp [.ref a] H (λv _=>v=.bl true) λ_ _ _=>False)
  (B:∀H e g,CX [] H c (λ_ _ _=>False) e g->False) :
  pp (model P w) L1 (.call (.ref fa) ⟨[.ref a],[]⟩) (λr g=>r=.ok (.ret (.bool true))/\OldK c.heap g.heap/\g.os=c.os/\tU g.gens) c:=by
 ext(E:mq I);have Zn:=I.length;have core:∀H:Hp,Le H->eA K H a (ns.map V.int)->ki H c.heap->(∀b,H b≠none->b=a)->(H a≠none->K.lookup a=none) ->
   pp (model P w) L1 (.call (.ref fa) ⟨[.ref a],[]⟩) (λr g=>r=.ok (.ret (.bool true))/\OldK c.heap g.heap/\g.os=c.os/\tU g.gens) c:=by
  intro H J hS N L hK;have Q:∀{b:Addr} {o:Obj},c.heap.get? b=↥o->H b=none->(tZ c.heap H).get? b=↥o:=λe n=>FK e n;have TM:∀{b:Addr} {o:Obj} {es:Array mX} {ep:Nat},c.heap.get? b=↥o->o.data=.dict es ep->H b=none:=λ{b o es ep} e d=>by
   cases q:H b with
   |none=>rfl
   |some u =>
    have C:b=a:=L b (by rw[q];simp);subst C;rw[l]at e;cases e;have d':Data.seq vs.toArray _=Data.dict es ep:=d;cases d'
  have p:∀{b:Addr} {m:aU},c.heap.Ns b m->(tZ c.heap H).Ns b m:=λ{b m} ⟨o,es,ep,e,d,r⟩=>⟨o,es,ep,Q e (TM e d),d,r⟩
  have j:K.In (tZ c.heap H):=λb o e=>Q (KX b o e) (by
   cases q:H b with
   |none=>rfl
   |some u =>
    have C:b=a:=L b (by rw[q];simp);subst C;rw[hK (by rw[q];simp)]at e;cases e)
  have hM:Mod K mg (tZ c.heap H):=⟨j,p O,⟨t,p f,A⟩,let ⟨mc,h1,h2⟩:=D;⟨mc,p h1,h2⟩⟩
  have e0:Li P w K mg (tZ c.heap H) L1 [] c H:=⟨rfl,hM,λb o e=>Js e,acX (B1 _ _),trivial,λb f=>absurd (show b∈([]:aX) from f) ⇑5,N,.of_eq Z⟩
  refine ade ((F _ j (p O)).run L1 [] c H ⟨[.ref a],[]⟩ [.ref a] [.ref a] _ _ Y e0 (U6 c (.ref a)) (.cons rfl .nil) (S H J hS)) λr g h=>?_;cases r with
  |error e=>exact(B H e g h).elim
  |ok fl =>
   cases fl with
   |next=>exact ml h
   |brk=>exact ml h
   |cont=>exact ml h
   |ret u =>
    ext(⟨v,H',W,bare,un,Z5,T,q⟩:h);have U:v=.bl true:=q;subst U;obtain rfl:u=lX true:=T;refine⟨rfl,OldK.of_keep λb o e=>?_,W,bare⟩;cases q:H b with
    |none=>exact un.keep b o e q (by intro z;exact absurd (show b∈([]:aX) from z) ⇑5) ⇑5
    |some u =>
     ext((z|⟨X,xs,z⟩):J b)
     ·rw[q]at z;cases z
     ·ext(R:un.mW b X _ z)(⟨e1,_⟩:N b _ z)(⟨e2,_⟩:Z5 b _ R);rw[e]at e1;cases e1;exact e2
 cases y:K.lookup a with
 |some o =>
  ext(e:KX a o y);rw[l]at e;cases e;refine core ⇑8 (λ_=>.inl rfl) (.inr ⟨_,vs.toArray,_,y,rfl,rfl,rfl,[zad,Zn]\G,⇑E⟩) (λb u z=>by have i:(none:Option HO)=↥u:=z;cases i) (λb z=>absurd rfl z) λz=>absurd rfl z
 |none =>
  refine core (λb=>if b=a then ↥(.iH { cls:=.type "list",data:=.seq vs.toArray } (.lst (ns.map V.int))) else none) (λb=>?_) (.inl (.inr ⟨{ cls:=.type "list",data:=.seq vs.toArray },abE rfl⟩)) (λb u z=>?_) (λb z=>?_) λ_=>y
  ·by_cases f:b=a
   ·exact .inr ⟨_,_,abE f⟩
   ·exact .inl (ad0 f)
  ·by_cases f:b=a
   ·ext(i:(abE f).symm.trans z);cases i;subst f;exact⟨l,[zaa]\G,vs,_,E,l⟩
   ·ext(i:(ad0 f).symm.trans z);cases i
  ·by_cases f:b=a
   ·exact f
   ·exact absurd (ad0 f) z
end L2
namespace L2
open PySem PySem.Spec PyProof.Rows
def Ia{l:x2}{n k:Nat}{q:aG}{loose:aq}{J:(aU)->Heap->Prop}{r:World->Heap->Prop}{d:DefRec}{K:Params->av}{CX:World->CH}{sp:World->Sp}{x:Str}
  (hn:l.most=↥n) (M:n<=sizeLine) (L:d.params.defaults=[]) (y:gw k L1)
  (B:∀(w:World) (h:Heap),r w h->(K w.params).In h)
  (F:∀(w:World) (mg:aU) (fa:Addr) (h:Heap),(K w.params).In h->h.Ns cm mg->mg d.name=↥(.ref fa) ->
   ∃j:hA,(∀(s:am) (u:Value),UQ s j ⟨[u],[]⟩ [(x,u)]) /\
    ∀base:Heap,(K w.params).In base->base.Ns cm mg->fQ l.prog w (K w.params) mg base (CX w) k fa j [x] (sp w))
  (t:∀(w:World) (H:Hp) (a:Addr) (ns:ae),ns.length<=n->Le H->eA (K w.params) H a (ns.map V.int)->sp w [.ref a] H (λv _=>v=.bl true) λ_ _ _=>False)
  (i:∀(w:World) (H:Hp) (s:am) (e:Value) (s':am),CX w [] H s (λ_ _ _=>False) e s'->False) :
  Xg q loose J r l.row.toRowW d [] (λf m=>Tk f m):=by
 refine Att.xg hn L λw p c mg Q fa o P S I a m ns G Y R hd O hmg N hints hlen z=>?_;ext(KX:B w _ Y)(⟨j,A,E⟩:F w mg fa _ KX G.T.g hmg);exact Fd KX G.T.g G.T.b G.T.builtins G.T.nolimit z N hints (aav hlen M) y E A (λH D C=>t w H a ns hlen D C) λH e s'=>i w H c e s'
end L2
namespace L2
open PySem PySem.Spec PyProof.Rows
meta def eJ(s:Stmt):Arguments:=match s with
 |.FunctionDef _ a _ _ _ _ _ _ _ _=>a
 |_=>{ posonlyargs:=[],args:=[],vararg:=none,kwonlyargs:=[],kw_defaults:=[],kwarg:=none,defaults:=[] }
meta def bC(s:Stmt):aQ:=match s with
 |.FunctionDef _ _ b _ _ _ _ _ _ _=>b
 |_=>[]
meta def aE(s:Stmt):Scope:=match s with
 |.FunctionDef _ _ _ _ _ _ a _ _ _=>a
 |_=>{ kind:=.function,names:=[],isGenerator:=false,isCoroutine:=false }
abbrev uR:CH:=λ_ _ _ _ _ _=>False
abbrev E0:XK:=λ_ _ _=>False
def L8{X:Cx}:Passes uR X E0:=λ_ _ _ _ _ _ _ h=>h.elim
structure CF(K:av)(x qual:Str)(st:Stmt)(f:Addr)(fd:hA):Prop where
 ex:∃(oc:Value) (od:Option Addr) (kV doc pm:Value) (an:Option Addr) (fN ct:Value) (Et:Array (Option Value)),
  fd=hP x qual (eJ st) (bC st) (aE st) .none kV doc pm an fN ct/\K.lookup f=↥⟨oc,od,.func fd,Et⟩/\r4 K fN qual=true
 kp:hO K (.ref f)=true
variable {f:Addr}{ps:aq}{qual:Str}{st:Stmt}
section
variable {P:aG}{w:World}{K:av}{mg:aU}{base:Heap}
def CF.ok{x:Str}{b:hA}{N:aq}{k:Nat}{sp:Sp}(F:CF K x qual st f b)(S:e_ N ps (aE st))(len:∀vs H Q E,sp vs H Q E->vs.length=ps.length)
  (d:∀(a:Value) (A:aF) (outer:List Env) (s:am) (H:Hp) (vs:ah) (Q:VK) (E:XK),gw k (A.deeper (FP qual (aE st) s.heap.objs.size f a))->sp vs H Q E ->
   ∃t,gS (jr uR P w K mg base N qual (aE st) f a A outer s H E).ya (bC st) t/\t { nx:=λ_ l=>Q .bX l,rt:=Q } (start N vs) H):fQ P w K mg base uR (k+1) f b ps sp:=by
 ext(⟨o,n,p,j,m,u,a,r,v,rfl,g,c⟩:F.ex);refine MB g c S len λA outer s H vs Q E i e=>?_;ext(⟨t,h,q⟩:d a A outer s H vs Q E i e);exact⟨t,h.ya,q⟩
def CF.binds{x:Str}{i:hA}(F:CF K x qual st f i)
  (h:∀(d a c:Value) (g:Option Addr) (e ct:Value) (b:aw),b.length=ps.length->Ag (hP x qual (eJ st) (bC st) (aE st) .none d a c g e ct) ⟨b,[]⟩=pure (ps.zip b)):Binds K i ps []:=by
 ext(⟨l,k,d,a,c,g,e,ct,n,rfl,m,j⟩:F.ex);exact .all (h d a c g e ct)
def PZ{x:Str}{i:Value}{h g:Option Addr}{j:Array (Option Value)}{e a d b ct:Value}(l:K.lookup f=↥⟨i,h,.func (hP x qual (eJ st) (bC st) (aE st) .none e a d g b ct),j⟩)
  (c:r4 K b qual=true) (k:hO K (.ref f)=true):CF K x qual st f (hP x qual (eJ st) (bC st) (aE st) .none e a d g b ct):=⟨⟨i,h,e,a,d,g,b,ct,j,rfl,l,c⟩,k⟩
end
def Mn{A:aF}{k:Nat}(a:gw k A):A.units+1<cLine:=aaV (aaC (by decide:1<=64) _) a.units
def JM{A B:Prop}(h:B):if false=true then A else B:=by
 exact[zab zal]\h
def Uj{A B:Prop}(h:A):if true=true then A else B:=by
 exact[zac rfl]\h
def aL(H H':Hp):Prop:=∀b o,H b=↥o->H' b=↥o
def aL.refl(H:Hp):aL H H:=λ_ _ h=>h
def aL.trans{H H1 H2:Hp}(a:aL H H1)(b:aL H1 H2):aL H H2:=λc o h=>b c o (a c o h)
variable {H':Hp}
def aL.free{H:Hp}(e:aL H H'){l:Addr}(h:H' l=yaA):H l=yaA:=by
 cases q:H l with
 |none=>rfl
 |some o =>
  rw[e l o q]at h;cases h
def aL.seq{K:av}{H:Hp}{a:Addr}{xs:ah}(e:aL H H')(h:eA K H a xs):eA K H' a xs:=by
 ext(((h|⟨o,h⟩)|h):h)
 ·exact .inl (.inl (e _ _ h))
 ·exact .inl (.inr ⟨o,e _ _ h⟩)
 ·exact .inr h
end L2
set_option autoImplicit false
set_option linter.all false
set_option Elab.async false
set_option maxRecDepth 100000
set_option maxHeartbeats 4000000
section
namespace DI
open PySem (Str Expr Stmt Scope NameKind)
inductive Fl where|ow|fz|al|sc
 deriving DecidableEq
inductive D where
 |bX|bl (b:Bool)|int (i:Int)|str (s:Str)
 |tup (ds:List D)
 |lst (f:Fl) (ds:List D)
 |cF (f:Fl) (ks:az) (vs:List D)
abbrev aM:=Option D
abbrev aa:=List D
mutual
meta def aJ(g:Fl->Fl):D->D
 |.tup a=>.tup (ao g a)
 |.lst f a=>.lst (g f) (ao g a)
 |.cF f e c=>.cF (g f) e (ao g c)
 |.bX=>.bX
 |.bl b=>.bl b
 |.int i=>.int i
 |.str s=>.str s
meta def ao(g:Fl->Fl):aa->aa
 |[]=>[]
 |d::a=>aJ g d::ao g a
end
theorem aN(g:Fl->Fl):∀a:aa,ao g a=a.map (aJ g)
 |[]=>rfl
 |d::a=>by rw[ao,aN g a];rfl
meta def bq:Fl->Fl|.ow=>.al|f=>f
meta def gW:Fl->Fl|.fz=>.al|f=>f
meta def aK:Fl->Fl|.sc=>.sc|_=>.fz
meta def qL:Fl->Bool|.sc=>true|_=>false
mutual
meta def aW(p:Fl->Bool):D->Bool
 |.tup a=>aR p a
 |.lst f a=>p f||aR p a
 |.cF f c b=>p f||aR p b
 |_=>false
meta def aR(p:Fl->Bool):aa->Bool
 |[]=>false
 |d::a=>aW p d||aR p a
end
meta def bS:Fl->Bool|.al=>true|_=>false
meta def cq:Fl->Bool|.ow=>true|_=>false
meta def anyF:Fl->Bool:=λ_=>true
mutual
meta def lr:D->D->Bool
 |.bX,.bX=>true
 |.bl a,.bl b=>a==b
 |.bl a,.int b=>(if a then 1 else 0)==b
 |.int a,.bl b=>a==(if b then 1 else 0)
 |.int a,.int b=>a==b
 |.str a,.str b=>a==b
 |.tup a,.tup b=>fM a b
 |.lst _ a,.lst _ b=>fM a b
 |_,_=>false
meta def fM:aa->aa->Bool
 |[],[]=>true
 |a::as,b::bs=>lr a b&&fM as bs
 |_,_=>false
end
meta def cg:Nat->D->Bool
 |_,.bX=>true
 |_,.bl _=>true
 |_,.int _=>true
 |_,.str _=>true
 |n+1,.tup ds=>ds.all (cg n)
 |n+1,.lst _ ds=>ds.all (cg n)
 |_,_=>false
abbrev O(a:Type):=Option (Except Nat a)
abbrev aD:=aa->O D
meta def ok{b:Type}(a:b):O b:=↥(.ok a)
meta def bd{d b:Type}(x:O d)(f:d->O b):O b:=match x with
 |some (.ok a)=>f a
 |some (.error c)=>↥(.error c)
 |none=>none
nonrec def W6{b:Type}{a:b}:((none:O b)=ok a)=False:=by simp[ok]
nonrec def Zb{c:Type}{a b:c}:(ok a=ok b)=(a=b):=by simp[ok]
nonrec def aa8{b:Type}{a:b}{c:Nat}:((↥(.error c):O b)=ok a)=False:=by simp[ok]
nonrec def Mk{c:Type}{p:Prop}[Decidable p]{a b:c}:((if p then ok a else none)=ok b)=(p/\a=b):=by
 by_cases h:p<;>simp[h]
nonrec def ZF{c:Type}{p:Prop}[Decidable p]{a b:c}:((if p then none else ok a)=ok b)=(¬ p/\a=b):=by
 by_cases h:p<;>simp[h]
def nG{b c:Type}(a:b)(f:b->O c):bd (ok a) f=f a:=rfl
def nk{b:Type}{a:b}{P:Prop}(h:(none:Option b)=↥a):P:=nomatch h
inductive Bd{α β:Type}(x:O α)(f:α->O β)(b:β):Prop where|mk (a:α) (h1:x=ok a) (h2:f a=ok b)
def aI{e d:Type}{x:O e}{f:e->O d}{b:d}(h:bd x f=ok b):Bd x f b:=by
 unfold bd at h
 match x,h with
 |some (.ok a),h=>exact⟨a,rfl,h⟩
 |some (.error c),h=>cases h
 |none,h=>cases h
inductive A3 where|add|sub|mul|fdiv|mod|pow|shl
 deriving DecidableEq
inductive CU where|eq|ne|lt|le|gt|ge
 deriving DecidableEq
inductive Ty where|int|bool|str|list|tuple
 deriving DecidableEq
inductive Bf where|len|abs|min2|max2|list1|tuple1|jv|all1|iN
 deriving DecidableEq
inductive Tg where|nm(i:Nat)|tp(is:aS)
 deriving DecidableEq
inductive IK where|nu|mI|seq|cJ(p:Nat)
 deriving DecidableEq
inductive GK where|i(z:Int)
 deriving DecidableEq
inductive CE where
 |bX|bl (b:Bool)|int (i:Int)|str (s:Str)|glo (x:Str) (i:Int)
 |v (i:Nat)
 |bin (op:A3) (a b:CE)
 |neg (a:CE)|not (a:CE)|and (es:List CE)|or (es:List CE)
 |cmp (op:CU) (a b:CE)
 |qM (a:CE) (t:Ty)
 |call (f:Nat) (es:List CE)
 |bf (f:Bf) (es:List CE)
 |ix (a b:CE)
 |mQ (a:CE)
 |tup (es:List CE)|lst (es:List CE)
 |cJ (p:Nat) (es:List CE)
 |comp (n:Nat) (t:Tg) (caps:aS) (ik:IK) (es bU:List CE) (elt:CE)
abbrev aA:=List CE
inductive CI where|nu(a:CE)|mI(a b:CE)|seq(a:CE)|L0(p:Nat)(es:aA)
inductive CS where
 |asg (t:Tg) (e:CE)|par (i j:Nat) (a b:CE)|ret (e:CE)|rs (c:Nat)|ex (e:CE)
 |mut (p i:Nat) (es:aA)|mu2 (p i:Nat) (k e:CE)|unp (is:aS) (e:CE)|app (i:Nat) (e:CE)|aug (i:Nat) (op:Bool) (e:CE)
 |ifs (c:CE) (a b:List CS)
 |Lm (c:CE) (b:List CS)
 |fr (t:Tg) (it:CI) (b:List CS)
abbrev ai:=List CS
abbrev aV:=List (aM)
abbrev aY:=Nat->aD
meta def big:Nat:=2 ^ 9000
def gG(i j:Int):Bool:=decide (i.natAbs<2 ^ 64)||decide (j.natAbs<2 ^ 64)||(decide (i.natAbs<big)&&decide (j.natAbs<big))
def AJ(j:Int):Bool:=decide (j≠0)&&decide (j.natAbs<big)
meta def vJ(i j:Int):Bool:=decide (0<=j)&&decide (j<=1000000)&&decide (i.natAbs<2 ^ 64)
meta def cB:Nat:=1000000
def qN{b:Type}{c:Prop}[inst:Decidable c]{v d:b}(h:(if c then ok v else none)=ok d):c/\v=d:=by
 cases inst with
 |isTrue a=>exact⟨a,UI (aaI h)⟩
 |isFalse a=>cases h
def Zd:A3->Int->Int->Bool
 |.mul,i,j=>gG i j
 |.fdiv,_,j=>AJ j
 |.mod,_,j=>decide (j≠0)
 |.pow,i,j=>vJ i j
 |.shl,i,j=>vJ i j
 |_,_,_=>true
meta def resB:A3->Int->Int->Int
 |.add,i,j=>i+j
 |.sub,i,j=>i - j
 |.mul,i,j=>i*j
 |.fdiv,i,j=>i.fdiv j
 |.mod,i,j=>i.fmod j
 |.pow,i,j=>i ^ j.toNat
 |.shl,i,j=>i*2 ^ j.toNat
def K0:A3->D->D->O D
 |.add,.lst f a,.lst g b=>if qL f=false/\qL g=false/\a.length+b.length<=cB then ok (.ow\(ao bq (a++b)))else none
 |.add,.tup a,.tup b=>if a.length+b.length<=cB then ok (.tup (ao bq (a++b)))else none
 |.mul,.lst f a,.int k=>if qL f=false/\a.length*k.toNat<=cB/\k<=cB /\ -cB<=k then ok (.ow\(ao bq (ap k.toNat a).flatten))else none
 |_,_,_=>none
def dh(op:A3)(x y:D):O D:=match x with
 |.int i=>match y with
  |.int j=>if Zd op i j=true then ok ↑(resB op i j) else none
  |_=>K0 op x y
 |_=>K0 op x y
def inD(x:D):aa->Bool
 |[]=>false
 |y::ys=>lr y x||inD x ys
meta def gf:D->Bool
 |.bX=>true|.bl _=>true|.int _=>true|.str _=>true|_=>false
meta def yi:D->Option (aa)
 |.tup a=>↥a
 |.lst _ a=>↥a
 |_=>none
def alD(n:Bool)(a b:D):O D:=if cg 40 a&&cg 40 b then ok (.bl (bif n then !lr a b else lr a b))else none
meta def RV(f:Int->Int->Bool)(a b:D):O D:=match a with
 |.int i=>match b with
  |.int j=>ok (.bl (f i j))
  |_=>none
 |_=>none
meta def EE:D->Bool
 |.bX=>true
 |_=>false
def nnD(n:Bool)(a b:D):O D:=match b with
 |.bX=>ok (.bl (bif n then !EE a else EE a))
 |_=>none
def ZE(n:Bool)(a b:D):O D:=match yi b with
 |some c=>if gf a&&c.all gf then ok (.bl (bif n then !inD a c else inD a c))else none
 |none=>none
def kZ:CU->D->D->O D
 |.eq,a,b=>alD false a b
 |.ne,a,b=>alD true a b
 |.lt,a,b=>RV (λi j=>decide (i<j)) a b
 |.le,a,b=>RV (λi j=>decide (i<=j)) a b
 |.gt,a,b=>RV (λi j=>decide (j<i)) a b
 |.ge,a,b=>RV (λi j=>decide (j<=i)) a b
meta def eF:Ty->D->Bool
 |.int,.int _=>true|.int,.bl _=>true
 |.bool,.bl _=>true
 |.str,.str _=>true
 |.list,.lst _ _=>true
 |.tuple,.tup _=>true
 |_,_=>false
meta def Fp(n:Nat)(i:Int):Option Nat:=if 0<=i then(if i<n then ↥i.toNat else none)else if -(n:Int)<=i then ↥(i+n).toNat else none
def xh(ds:aa)(i:Int):O D:=match(Fp ds.length i).bind λj=>ds[j]? with
 |some d=>ok (aJ bq d)
 |none=>none
def HC:D->D->O D
 |.tup ds,.int i=>xh ds i
 |.lst _ ds,.int i=>xh ds i
 |_,_=>none
meta def intsOf:aa->Option (ae)
 |[]=>↥[]
 |.int i::ds=>(intsOf ds).map (i :: ·)
 |_::_=>none
meta def jJ:aa->Option (List Bool)
 |[]=>↥[]
 |.bl i::ds=>(jJ ds).map (i :: ·)
 |_::_=>none
theorem dX:∀{ds:aa} {ns:ae},intsOf ds=↥ns->ds=ns.map D.int
 |[],ns,h=>by simp[intsOf]at h;subst h;rfl
 |d::ds,ns,h=>by
  cases d<;>simp[intsOf]at h;ext(⟨b,a,rfl⟩:h);rw[dX a];rfl
theorem xf:∀{ds:aa} {bs:List Bool},jJ ds=↥bs->ds=bs.map D.bl
 |[],bs,h=>by simp[jJ]at h;subst h;rfl
 |d::ds,bs,h=>by
  cases d<;>simp[jJ]at h;ext(⟨b,a,rfl⟩:h);rw[xf a];rfl
theorem bY:∀a:ae,intsOf (a.map D.int)=↥a
 |[]=>rfl
 |n::a=>by simp[intsOf,bY a]
theorem nc:∀bs:List Bool,jJ (bs.map D.bl)=↥bs
 |[]=>rfl
 |b::bs=>by simp[jJ,nc bs]
meta def sortI(ns:ae):ae:=ns.mergeSort (λa b=>decide (a<=b))
def vm(ds:aa):O D:=match intsOf ds with
 |some a=>if a.length<64 then ok (.ow\((sortI a).map D.int))else none
 |none=>none
def qU:Bf->aD
 |.len,xs=>match xs with
  |[.tup ds]=>ok ↑ds.length
  |[.lst _ ds]=>ok ↑ds.length
  |_=>none
 |.abs,xs=>match xs with
  |[.int i]=>ok ↑(if i<0 then -i else i)
  |_=>none
 |.min2,xs=>match xs with
  |[.int i,.int j]=>ok ↑(if j<i then j else i)
  |_=>none
 |.max2,xs=>match xs with
  |[.int i,.int j]=>ok ↑(if j>i then j else i)
  |_=>none
 |.list1,xs=>match xs with
  |[.lst _ ds]=>ok (.ow\(ao bq ds))
  |[.tup ds]=>ok (.ow\(ao bq ds))
  |_=>none
 |.tuple1,xs=>match xs with
  |[.lst _ ds]=>ok (.tup (ao bq ds))
  |_=>none
 |.jv,xs=>match xs with
  |[.lst _ ds]=>(match intsOf ds with
   |some a=>ok ↑a.sum
   |none=>none)
  |_=>none
 |.all1,xs=>match xs with
  |[.lst _ ds]=>(match jJ ds with
   |some bs=>ok (.bl (bs.all id))
   |none=>none)
  |_=>none
 |.iN,xs=>match xs with
  |[.tup ds]=>vm ds
  |_=>none
meta def uj(ns:ae):ae:=ns.foldl (λ(m:ae) (k:Int)=>if m.any (· == k)then m else m++[k]) []
def z4:D->O D
 |.tup b=>(match intsOf b with
  |some a=>if a.length<4000 then ok ↑(uj a).length else none
  |none=>none)
 |_=>none
meta def ig:D->O Bool
 |.bl b=>ok b
 |_=>none
meta def intD:D->O Int
 |.int i=>ok i
 |_=>none
meta def Eo:Option (aM)->Option (aa)
 |some ↥(.ow\ds)=>↥ds
 |_=>none
def Jm{o:Option (aM)}{ds:aa}(h:Eo o=↥ds):o=↥↥(.ow\ds):=by
 unfold Eo at h;split at h<;>cases h;rfl
def JR{d:D}{i:Int}(h:intD d=ok i):d=.int i:=by
 cases d<;>simp[intD]at h;rw[h]
meta def Jw:D->O D
 |.int i=>ok ↑(-i)
 |_=>none
meta def dJ:aS->aa->aV->O aV
 |[],[],ρ=>ok ρ
 |i::is,d::ds,ρ=>if i<ρ.length then dJ is ds (ρ.set i ↥d)else none
 |_,_,_=>none
def cn:Tg->D->aV->O aV
 |.nm i,d,ρ=>if i<ρ.length then ok (ρ.set i ↥d)else none
 |.tp is,.tup ds,ρ=>if aR cq ds then none else dJ is ds ρ
 |_,_,_=>none
def xW:D->O (aa)
 |.lst _ a=>ok (ao aK a)
 |_=>none
def eP(Φ:aY):IK->aa->O (aa)
 |.cJ p,xs=>bd (Φ p xs) xW
 |.nu,[.int n]=>if n<=cB /\ -cB<=n then ok ((eg n.toNat).map λ(k:Nat)=>D.int (k:Int))else none
 |.mI,[.int m,.int n]=>if n<=cB /\ -cB<=n/\m<=cB /\ -cB<=m then ok ((eg (n - m).toNat).map λ(k:Nat)=>D.int (m+(k:Int)))else none
 |.seq,[.tup ds]=>ok (ao aK ds)
 |.seq,[.lst _ ds]=>ok (ao aK ds)
 |_,_=>none
meta def ji(bind:D->O aV)(test:aV->O Bool)(el:aV->O D):aa->O (aa)
 |[]=>ok []
 |x::xs=>bd (bind x) λa=>bd (test a) λb=>if b then bd (el a) λy=>bd (ji bind test el xs) λc=>ok (y::c)else ji bind test el xs
def bL(n:Nat)(caps:aS)(ρ:aV):aV:=ap n none++caps.map λi=>(ρ[i]?.getD none).map (aJ aK)
def zB(o:Option (aM)):O D:=match o with
 |some ↥d=>ok (aJ bq d)
 |_=>none
def DF{o:Option (aM)}{d:D}(h:zB o=ok d):∃a,o=↥↥a/\d=aJ bq a:=by
 cases o with
 |none=>cases h
 |some z=>cases z with
  |none=>cases h
  |some z=>cases h;exact⟨z,rfl,rfl⟩
mutual
meta def bg(Φ:aY):CE->aV->O D
 |.bX,_=>ok .bX
 |.bl b,_=>ok (.bl b)
 |.int i,_=>ok ↑i
 |.str s,_=>ok (.str s)
 |.glo _ i,_=>ok ↑i
 |.v i,ρ=>zB ρ[i]?
 |.bin op a b,ρ=>bd (bg Φ a ρ) λx=>bd (bg Φ b ρ) λy=>dh op x y
 |.neg a,ρ=>bd (bg Φ a ρ) Jw
 |.not a,ρ=>bd (bd (bg Φ a ρ) ig) λb=>ok (.bl (!b))
 |.and es,ρ=>rW Φ es ρ
 |.or es,ρ=>Cc Φ es ρ
 |.cmp op a b,ρ=>bd (bg Φ a ρ) λx=>bd (bg Φ b ρ) λy=>kZ op x y
 |.qM a t,ρ=>bd (bg Φ a ρ) λx=>ok (.bl (eF t x))
 |.call f es,ρ=>bd (b6 Φ es ρ) λg=>bd (Φ f (ao aK g)) λr=>ok (aJ gW r)
 |.bf f es,ρ=>bd (b6 Φ es ρ) λg=>qU f g
 |.ix a b,ρ=>bd (bg Φ a ρ) λx=>bd (bg Φ b ρ) λy=>HC x y
 |.mQ a,ρ=>bd (bg Φ a ρ) λx=>z4 x
 |.cJ p es,ρ=>bd (b6 Φ es ρ) λg=>Φ p g
 |.tup es,ρ=>bd (b6 Φ es ρ) λg=>ok (.tup g)
 |.lst es,ρ=>bd (b6 Φ es ρ) λg=>ok (.ow\g)
 |.comp n t caps ik es bU elt,ρ=>bd (b6 Φ es ρ) λg=>bd (eP Φ ik g) λitems =>
   bd (ji (λd=>cn t d (bL n caps ρ)) (λh=>jh Φ bU h) (λh=>bg Φ elt h) items) λj=>if j.length<=cB then ok (.ow\(ao gW j))else none
meta def b6(Φ:aY):aA->aV->O (aa)
 |[],_=>ok []
 |e::es,ρ=>bd (bg Φ e ρ) λx=>bd (b6 Φ es ρ) λg=>ok (x::g)
meta def jh(Φ:aY):aA->aV->O Bool
 |[],_=>ok true
 |e::es,ρ=>bd (bd (bg Φ e ρ) ig) λb=>if b then jh Φ es ρ else ok false
meta def rW(Φ:aY):aA->aV->O D
 |[],_=>none
 |e::es,ρ=>bd (bd (bg Φ e ρ) ig) λc=>match es with
  |[]=>ok (.bl c)
  |_::_=>if c then rW Φ es ρ else ok (.bl false)
meta def Cc(Φ:aY):aA->aV->O D
 |[],_=>none
 |e::es,ρ=>bd (bd (bg Φ e ρ) ig) λc=>match es with
  |[]=>ok (.bl c)
  |_::_=>if c then ok (.bl true)else Cc Φ es ρ
end
def wB(Φ:aY)(e:CE)(ρ:aV):O Bool:=bd (bg Φ e ρ) ig
inductive Fo where|nx|rt(d:D)
meta def di{c d:Type}(n:Nat)(step:c->O (c ⊕ d))(a:c):O d:=match n with
 |0=>none
 |n+1=>bd (step a) λr=>match r with
  |.inl e=>di n step e
  |.inr b=>ok b
open Classical in
meta def fW{b c:Type}(step:b->O (b ⊕ c))(a:b):O c :=
 if h:∃n,di n step a≠none then di (Pg h) step a else none
theorem jC{d f:Type}(step:d->O (d ⊕ f)):∀(n m:Nat) (a:d),n<=m->di n step a≠none->di m step a=di n step a
 |0,_,_,_,h=>absurd rfl h
 |n+1,0,_,hl,_=>by left
 |n+1,m+1,a,hl,h=>by
  unfold di at h ⊢
  match e:step a with
  |none=>rw[e]at h;exact absurd rfl h
  |some (.error c)=>rfl
  |some (.ok (.inr b))=>rfl
  |some (.ok (.inl a')) =>
   rw[e]at h;exact jC step n m a' ⋯ h
def mj{b d:Type}{step:b->O (b ⊕ d)}{a:b}{n:Nat}{r:Except Nat d}(h:di n step a=↥r):fW step a=↥r:=by
 have c:∃n,di n step a≠none:=⟨n,by rw[h];simp⟩
 unfold fW;rw[dif_pos c];ext(e:Classical.choose_spec c);rcases yb4 n (Pg c)with hl|hl
 ·rw[jC step _ _ a hl (by rw[h];simp),h]
 ·rw[<- jC step _ _ a hl e,h]
def mO{b c:Type}{step:b->O (b ⊕ c)}{a:b}{r:Except Nat c}(h:fW step a=↥r):∃n,di n step a=↥r:=by
 unfold fW at h;split at h
 ·exact⟨_,h⟩
 ·cases h
def oT{c f:Type}{step:c->O (c ⊕ f)}{a e:c}(h:step a=ok (.inl e)):fW step a=fW step e:=by
 match d:fW step e with
 |some r =>
  ext(⟨n,b⟩:mO d);refine mj (n:=n+1) ?_;unfold di;exact[h]\b
 |none =>
  match g:fW step a with
  |none=>rfl
  |some r =>
   ext(⟨n,b⟩:mO g)
   match n,b with
   |n+1,b =>
    unfold di at b;rw[h]at b;rw[mj (n:=n) b]at d;cases d
def iJ{c d:Type}{step:c->O (c ⊕ d)}{a:c}{b:d}(h:step a=ok (.inr b)):fW step a=ok b :=
 mj (n:=1) (by unfold di;rw[h];rfl)
mutual
meta def gK:CE->aS
 |.v i=>[i]
 |.bin _ a b=>gK a++gK b
 |.neg a=>gK a
 |.not a=>gK a
 |.and c=>d_ c
 |.or c=>d_ c
 |.cmp _ a b=>gK a++gK b
 |.qM a _=>gK a
 |.call _ c=>d_ c
 |.bf _ c=>d_ c
 |.ix a b=>gK a++gK b
 |.mQ a=>gK a
 |.tup c=>d_ c
 |.lst c=>d_ c
 |.cJ _ c=>d_ c
 |.comp _ _ d _ c _ _=>d++d_ c
 |_=>[]
meta def d_:aA->aS
 |[]=>[]
 |e::c=>gK e++d_ c
end
def iH(is:aS)(ρ:aV):aV:=ρ.mapIdx λi d=>if i∈is then d.map (aJ aK)else d
def keep(e:CE)(d:D)(ρ:aV):D×aV:=if aW bS d then(aJ aK d,iH (gK e) ρ)else(d,ρ)
def kc(Φ:aY)(e:CE)(ρ:aV):O (D×aV):=match e with
 |.v i=>match ρ[i]? with
  |some ↥d=>if aW cq d then ok (d,ρ.set i none)else ok (d,ρ)
  |_=>none
 |_=>bd (bg Φ e ρ) λd=>ok (keep e d ρ)
def cD(Φ:aY)(it:CI)(ρ:aV):O (aa×aV):=match it with
 |.L0 p g=>bd (b6 Φ g ρ) λe=>bd (Φ p e) λd=>bd (xW d) λitems=>ok (items,if aR bS e then iH (d_ g) ρ else ρ)
 |.nu a=>bd (bg Φ a ρ) λx=>match x with
  |.int n=>if n<=cB /\ -cB<=n then ok ((eg n.toNat).map λ(k:Nat)=>D.int (k:Int),ρ)else none
  |_=>none
 |.mI a b=>bd (bg Φ a ρ) λx=>bd (bg Φ b ρ) λy=>match x,y with
  |.int m,.int n=>if n<=cB /\ -cB<=n/\m<=cB /\ -cB<=m then ok ((eg (n - m).toNat).map λ(k:Nat)=>D.int (m+(k:Int)),ρ)else none
  |_,_=>none
 |.seq a=>bd (bg Φ a ρ) λx=>match x with
  |.tup c=>ok (ao aK c,if aW bS x then iH (gK a) ρ else ρ)
  |.lst f c=>ok (ao aK c,if aW bS x then iH (gK a) ρ else ρ)
  |_=>none
def lT(es:aA)(xs:aa)(ρ:aV):aa×aV:=if aR bS xs then(ao aK xs,iH (d_ es) ρ)else(xs,ρ)
meta def tJ(Φ:aY)(p i:Nat)(r:aa×aV):O (Fo×aV):=match r.2[i]? with
 |some ↥d=>bd (Φ p (d::r.1)) λa=>ok (.nx,r.2.set i ↥a)
 |_=>none
def EL(Φ:aY)(p i:Nat)(ρ:aV)(kd d:D):O (Fo×aV):=match ρ[i]? with
 |some ↥x=>if aW anyF kd=false/\aW anyF d=false then bd (Φ p [x,kd,d]) λa=>ok (.nx,ρ.set i ↥a)else none
 |_=>none
def Ih(is:aS)(d:D)(ρ:aV):O aV:=match d with
 |.tup a=>dJ is a ρ
 |.lst _ a=>dJ is a ρ
 |_=>none
meta def dw(bind:D->aV->O aV)(body:aV->O (Fo×aV)):aa->aV->O (Fo×aV)
 |[],ρ=>ok (.nx,ρ)
 |d::ds,ρ=>bd (bind d ρ) λa=>bd (body a) λr=>match r with
  | (.nx,ρ2)=>dw bind body ds ρ2
  | (.rt d,ρ2)=>ok (.rt d,ρ2)
mutual
meta def ic(Φ:aY):CS->aV->O (Fo×aV)
 |.asg t e,f=>bd (kc Φ e f) λr=>bd (cn t r.1 r.2) λg=>ok (.nx,g)
 |.par i j a b,f=>bd (bg Φ a f) λx=>bd (bg Φ b f) λy=>if aW anyF x=false/\aW anyF y=false/\i<f.length/\j<f.length then ok (.nx,(f.set i ↥x).set j ↥y)else none
 |.ret e,f=>bd (kc Φ e f) λr=>ok (.rt r.1,r.2)
 |.rs c,_=>↥(.error c)
 |.ex e,f=>bd (bg Φ e f) λ_=>ok (.nx,f)
 |.mut p i es,f=>bd (b6 Φ es f) λl=>tJ Φ p i (lT es l f)
 |.mu2 p i k e,f=>bd (bg Φ k f) λm=>bd (bg Φ e (f.set i none)) λd=>EL Φ p i f m d
 |.unp is e,f=>bd (kc Φ e f) λr=>bd (Ih is r.1 r.2) λg=>ok (.nx,g)
 |.app i e,f=>bd (kc Φ e f) λr=>match Eo r.2[i]? with
  |some h=>if h.length<cB then ok (.nx,r.2.set i ↥(.ow\(h++[r.1])))else none
  |none=>none
 |.aug i op e,f=>bd (bd (bg Φ e f) intD) λb=>match f[i]? with
  |some ↥↑a=>ok (.nx,f.set i ↥↑(if op then a+b else a - b))
  |_=>none
 |.ifs c a b,f=>bd (wB Φ c f) λk=>if k then bF Φ a f else bF Φ b f
 |.Lm c b,f=>fW (λf=>bd (wB Φ c f) λk=>if k then bd (bF Φ b f) λr=>match r with
   | (.nx,g)=>ok (.inl g)
   | (.rt d,g)=>ok (.inr (.rt d,g))
  else ok (.inr (.nx,f))) f
 |.fr t it b,f=>bd (cD Φ it f) λr=>dw (λd f=>cn t d f) (λf=>bF Φ b f) r.1 r.2
meta def bF(Φ:aY):ai->aV->O (Fo×aV)
 |[],f=>ok (.nx,f)
 |s::ss,f=>bd (ic Φ s f) λr=>match r with
  | (.nx,g)=>bF Φ ss g
  |r=>ok r
end
meta def qG(Φ:aY)(n:Nat)(b:ai)(ds:aa):O D:=bd (bF Φ b (ds.map some++ap (n - ds.length) none)) λr=>match r.1 with
 |.nx=>ok .bX
 |.rt d=>ok d
meta def HS:aD
 |[.lst _ a,.lst _ b]=>ok (.ow\(gb (λx y=>.tup [x,y]) a b))
 |_=>none
end DI
end
section
namespace DI
open PySem PySem.Spec PyProof.Rows L2
abbrev bw:=aS
abbrev St:=L2.St
abbrev qv:=Addr->ah->Prop
inductive Nd where|l(xs:ah)|d(cs:az)(as:aX)(xs:ah)(ep:Nat)
abbrev k_:=bw->Addr->Nd->Fl->Prop
structure dk(T:qv)(as:aX)(cs:az):Prop where
 len:as.length=cs.length
 tup:∀(j:Nat) (a:Addr) (c:ae),as[j]?=↥a->cs[j]?=↥c->T a (c.map V.int)
variable {T T':qv}{as ch fp:aX}
def dk.imp{cs:az}(h:dk T as cs)(d:∀p b,T p b->T' p b):dk T' as cs:=⟨h.len,λj a c f e=>d _ _ (h.tup j a c f e)⟩
mutual
inductive Rep(T:qv)(N:k_):bw->V->D->Prop where
 |bX {q:bw}:Rep T N q .bX .bX
 |bl {q:bw} (b:Bool):Rep T N q (.bl b) (.bl b)
 |int {q:bw} (i:Int):Rep T N q ↑i ↑i
 |str {q:bw} (s:Str):Rep T N q (.str s) (.str s)
 |tup {q:bw} {p:Addr} {xs:ah} {ds:aa} (h:T p xs) (r:aH T N q 0 xs ds):Rep T N q (.ref p) (.tup ds)
 |lst {q:bw} {p:Addr} {xs:ah} {f:Fl} {ds:aa} (h:N q p (.l xs) f) (r:aH T N q 0 xs ds):Rep T N q (.ref p) (.lst f ds)
 |cF {q:bw} {p:Addr} {cs:az} {as:aX} {xs:ah} {ep:Nat} {f:Fl} {ds:aa} (h:N q p (.d cs as xs ep) f) (k:dk T as cs) (r:aH T N q 0 xs ds):Rep T N q (.ref p) (.cF f cs ds)
inductive aH(T:qv)(N:k_):bw->Nat->ah->aa->Prop where
 |nil {q:bw} {n:Nat}:aH T N q n [] []
 |cons {q:bw} {n:Nat} {v:V} {d:D} {vs:ah} {ds:aa} (h:Rep T N (n::q) v d) (t:aH T N q (n+1) vs ds):aH T N q n (v::vs) (d::ds)
end
variable {N N':k_}{ds ds' items:aa}
def Rep.C_{q:bw}{v:V}(h:Rep T N q v (.tup ds)):∃p c,v=.ref p/\T p c/\aH T N q 0 c ds:=by
 cases h with
 |tup a b=>exact⟨_,_,rfl,a,b⟩
variable {f:Fl}
def Rep.nI{q:bw}{v:V}(h:Rep T N q v (.lst f ds)):∃p c,v=.ref p/\N q p (.l c) f/\aH T N q 0 c ds:=by
 cases h with
 |lst a b=>exact⟨_,_,rfl,a,b⟩
mutual
theorem t7:∀d:D,aW (λ_=>false) d=false
 |.bX=>rfl
 |.bl _=>rfl
 |.int _=>rfl
 |.str _=>rfl
 |.tup ds=>iw ds
 |.lst _ ds=>iw ds
 |.cF _ _ ds=>iw ds
theorem iw:∀ds:aa,aR (λ_=>false) ds=false
 |[]=>rfl
 |d::ds=>by show(aW _ d||aR _ ds)=false;rw[t7 d,iw ds];rfl
end
def Oj{a b:Bool}(h:(a||b)=false):a=false/\b=false:=by cases a<;>cases b<;>first|exact⟨rfl,rfl⟩|cases h
variable {k' q':bw}{vs xs xs' ys:ah}
section
variable {T T':qv}{N N':k_}{g:Fl->Fl}{P:Fl->Bool}{C:bw->bw->Prop}{I:Nat->Nat->Prop}
mutual
theorem Rep.gen(j:∀p xs,T p xs->T' p xs)(a:I 0 0)(m:∀n n',I n n'->I (n+1) (n'+1))(o:∀k k' n n',C k k'->I n n'->C (n::k) (n'::k'))(l:∀k k' p xs f,C k k'->P f=false->N k p xs f->N' k' p xs (g f)):
  ∀{k:bw} {v:V} {d:D},Rep T N k v d->∀{k':bw},C k k'->aW P d=false->Rep T' N' k' v (aJ g d)
 |_,_,_,.bX,_,_,_=>.bX
 |_,_,_,.bl b,_,_,_=>.bl b
 |_,_,_,.int i,_,_,_=>.int i
 |_,_,_,.str s,_,_,_=>.str s
 |_,_,_,.tup h r,_,c,e=>.tup (j _ _ h) (aH.gen j a m o l r c a e)
 |_,_,_,.lst h r,_,c,e=>.lst (l _ _ _ _ _ c (Oj e).1 h) (aH.gen j a m o l r c a (Oj e).2)
 |_,_,_,.cF h k r,_,c,e=>.cF (l _ _ _ _ _ c (Oj e).1 h) (k.imp j) (aH.gen j a m o l r c a (Oj e).2)
theorem aH.gen(j:∀p xs,T p xs->T' p xs)(a:I 0 0)(m:∀n n',I n n'->I (n+1) (n'+1))(o:∀k k' n n',C k k'->I n n'->C (n::k) (n'::k'))(l:∀k k' p xs f,C k k'->P f=false->N k p xs f->N' k' p xs (g f)):
  ∀{k:bw} {n:Nat} {vs:ah} {ds:aa},aH T N k n vs ds->∀{k':bw} {n':Nat},C k k'->I n n'->aR P ds=false->aH T' N' k' n' vs (ao g ds)
 |_,_,_,_,.nil,_,_,_,_,_=>.nil
 |_,_,_,_,.cons h t,_,_,c,i,e=>.cons (Rep.gen j a m o l h (o _ _ _ _ c i) (Oj e).1) (aH.gen j a m o l t c (m _ _ i) (Oj e).2)
end
def Rep.map{q:bw}(b:∀p xs,T p xs->T' p xs)(i:∀c p xs f,N (c++q) p xs f->N' (c++q') p xs (g f)){k:bw}{v:V}{d:D}(h:Rep T N k v d)(c:bw)(e:k=c++q):Rep T' N' (c++q') v (aJ g d) :=
 Rep.gen (P:=λ_=>false) (C:=λk k'=>∃c,k=c++q/\k'=c++q') (I:=λn a=>n=a) b rfl (λ_ _ e=>by rw[e]) (λ_ _ n _ ⟨c,e1,e2⟩ e=>⟨n::c,by rw[e1];rfl,by rw[e2,<- e];rfl⟩) (λ_ _ p xs f ⟨c,e1,e2⟩ _ h=>by subst e1;subst e2;exact i c p xs f h) h ⟨c,e,rfl⟩ (t7 d)
def aH.map{q:bw}(b:∀p xs,T p xs->T' p xs)(d:∀c p xs f,N (c++q) p xs f->N' (c++q') p xs (g f)){k:bw}{n:Nat}(h:aH T N k n vs ds)(c:bw)(e:k=c++q):aH T' N' (c++q') n vs (ao g ds) :=
 aH.gen (P:=λ_=>false) (C:=λk k'=>∃c,k=c++q/\k'=c++q') (I:=λn a=>n=a) b rfl (λ_ _ e=>by rw[e]) (λ_ _ n _ ⟨c,e1,e2⟩ e=>⟨n::c,by rw[e1];rfl,by rw[e2,<- e];rfl⟩) (λ_ _ p xs f ⟨c,e1,e2⟩ _ h=>by subst e1;subst e2;exact d c p xs f h) h ⟨c,e,rfl⟩ rfl (iw ds)
def Rep.jA(a:∀p xs,T p xs->T' p xs)(b:∀k k' p xs f,N k p xs f->N' k' p xs (g f)){k:bw}{v:V}{d:D}(h:Rep T N k v d)(k':bw):Rep T' N' k' v (aJ g d) :=
 Rep.gen (P:=λ_=>false) (C:=λ_ _=>True) (I:=λ_ _=>True) a trivial (λ_ _ e=>e) (λ_ _ _ _ e _=>e) (λk k' p xs f _ _ h=>b k k' p xs f h) h trivial (t7 d)
def aH.jA(a:∀p xs,T p xs->T' p xs)(b:∀k k' p xs f,N k p xs f->N' k' p xs (g f)){k:bw}{n:Nat}(h:aH T N k n vs ds)(k':bw)(n':Nat):aH T' N' k' n' vs (ao g ds) :=
 aH.gen (P:=λ_=>false) (C:=λ_ _=>True) (I:=λ_ _=>True) a trivial (λ_ _ e=>e) (λ_ _ _ _ e _=>e) (λk k' p xs f _ _ h=>b k k' p xs f h) h trivial trivial (iw ds)
end
mutual
theorem eY:∀d:D,aJ id d=d
 |.bX=>rfl
 |.bl _=>rfl
 |.int _=>rfl
 |.str _=>rfl
 |.tup ds=>by rw[aJ,fh ds]
 |.lst f ds=>by rw[aJ,fh ds];rfl
 |.cF f a vs=>by rw[aJ,fh vs];rfl
theorem fh:∀ds:aa,ao id ds=ds
 |[]=>rfl
 |d::ds=>by rw[ao,eY d,fh ds]
end
section
variable {T T':qv}{N N':k_}
def Rep.imp{q:bw}(a:∀p xs,T p xs->T' p xs)(b:∀c p xs f,N (c++q) p xs f->N' (c++q') p xs f){v:V}{d:D}(h:Rep T N q v d):Rep T' N' q' v d:=by
 have:=Rep.map (g:=id) a b h [] rfl;rw[eY]at this;exact this
def aH.imp{q:bw}{n:Nat}(a:∀p xs,T p xs->T' p xs)(b:∀c p xs f,N (c++q) p xs f->N' (c++q') p xs f)(h:aH T N q n vs ds):aH T' N' q' n vs ds:=by
 have:=aH.map (g:=id) a b h [] rfl;rw[fh]at this;exact this
theorem aH.ind{k:bw}{P:Nat->ah->aa->Prop}(b:∀n,P n [] [])(a:∀n v vs d ds,Rep T N (n::k) v d->aH T N k (n+1) vs ds->P (n+1) vs ds->P n (v::vs) (d::ds)):∀{n:Nat} {vs:ah} {ds:aa},aH T N k n vs ds->P n vs ds
 |_,[],[],_=>b _
 |_,_::_,_::_,.cons h t=>a _ _ _ _ _ h t (aH.ind b a t)
theorem aH.length{k:bw}{n:Nat}{vs:ah}{ds:aa}(h:aH T N k n vs ds):vs.length=ds.length :=
 h.ind (P:=λ_ vs ds=>vs.length=ds.length) (λ_=>rfl) λ_ _ _ _ _ _ _ e=>aa5 Nat.succ e
def zN(n j:Nat):n+(j+1)=n+1+j:=by left
def aH.get{k:bw}{n j:Nat}{d:D}(h:aH T N k n vs ds):ds[j]?=↥d->∃v,vs[j]?=↥v/\Rep T N ((n+j)::k) v d :=
 h.ind (P:=λn vs ds=>∀j,ds[j]?=↥d->∃v,vs[j]?=↥v/\Rep T N ((n+j)::k) v d) (λ_ _ e=>nomatch e) (λn v vs b ds h t a j e=>by
  cases j with
  |zero=>cases e;exact⟨v,rfl,h⟩
  |succ j=>rw[zN n j];exact a j e) j
def aH.F3{k:bw}{n j:Nat}{v:V}(h:aH T N k n vs ds):vs[j]?=↥v->∃d,ds[j]?=↥d/\Rep T N ((n+j)::k) v d :=
 h.ind (P:=λn vs ds=>∀j,vs[j]?=↥v->∃d,ds[j]?=↥d/\Rep T N ((n+j)::k) v d) (λ_ _ e=>nomatch e) (λn b vs d ds h t a j e=>by
  cases j with
  |zero=>cases e;exact⟨d,rfl,h⟩
  |succ j=>rw[zN n j];exact a j e) j
def aH.uG{k:bw}(a:∀k k' p xs f,N k p xs f->N k' p xs f){n m l:Nat}{ws:ah}{es:aa}(h:aH T N k n vs ds)(u:aH T N k m ws es):aH T N k l (vs++ws) (ds++es) :=
 h.ind (P:=λ_ vs ds=>∀l,aH T N k l (vs++ws) (ds++es)) (λ_ l=>by
  have:=aH.jA (T':=T) (N':=N) (g:=id) ⇑10 a u;rw[fh]at this;exact this _ _) (λ_ _ _ _ _ h _ b l=>.cons (by
  have:=Rep.jA (T':=T) (N':=N) (g:=id) ⇑10 a h;rw[eY]at this;exact this _) (b _)) l
def aH.snoc{k:bw}{n:Nat}{v:V}{d:D}(h:aH T N k n vs ds):Rep T N ((n+ds.length)::k) v d->aH T N k n (vs++[v]) (ds++[d]) :=
 h.ind (P:=λn vs ds=>Rep T N ((n+ds.length)::k) v d->aH T N k n (vs++[v]) (ds++[d])) (λ_ r=>.cons r .nil) λn _ _ _ ds h _ a r=>.cons h (a (by rw[zae,zN n]at r;exact r))
end
def KL(K:av)(a:Addr)(xs:ah):Prop :=
 ∃(o:Obj) (b:aZ) (n:Nat),K.lookup a=↥o/\o.cls=.type "list" /\ o.dict=none/\o.data=.seq b n/\b.size<=sizeLine/\Vals xs b.toList
def DO(p:Addr)(cs:az)(as:aX)(xs:ah)(ep:Nat)(h:Heap):Prop :=
 ∃(zs:List (ae×Addr×Value)) (o:Obj) (es:Array mX),zs.map (·.1)=cs/\zs.map (·.2.1)=as/\Vals xs (zs.map (·.2.2))/\h.get? p=↥o/\o.ExactDict/\o.data=.dict es ep /\
  es.toList=zs.map (λz=>⟨reduceHash (ya5 (z.1.map hashInt)),.ref z.2.1,z.2.2⟩)/\cs.Nodup/\cs.length<=sizeLine/\(p==kw)=false
abbrev eN(H:Hp)(p:Addr)(n:Nd):Prop:=match n with
 |.l xs=>H p=↥(.lst xs)
 |.d b as xs a=>H p=↥(.ext (DO p b as xs a))
def eN.ne{H:Hp}{p:Addr}{n:Nd}(h:eN H p n):H p≠none:=by
 cases n with
 |l xs=>intro z;rw[show H p=↥(.lst xs) from h]at z;cases z
 |d b as xs a=>intro z;rw[show H p=↥(.ext (DO p b as xs a)) from h]at z;cases z
variable {H' H1 H2:Hp}
def eN.at{H:Hp}{p:Addr}{n:Nd}(e:∀o,H p=↥o->H' p=↥o)(h:eN H p n):eN H' p n:=by
 cases n with
 |l xs=>exact e _ h
 |d b as xs a=>exact e _ h
def eN.same{H:Hp}{p:Addr}{n:Nd}(e:aL H H')(h:eN H p n):eN H' p n:=h.at (e p)
theorem eN.some{H:Hp}{p:Addr}{n:Nd}(h:eN H p n):∃o,H p=↥o/\(∀xs,o≠.tup xs)/\(∀a u,o≠.iH a u):=by
 cases n with
 |l xs=>exact⟨_,h,λ_ z=>(nomatch z),λ_ _ z=>(nomatch z)⟩
 |d c as xs b=>exact⟨_,h,λ_ z=>(nomatch z),λ_ _ z=>(nomatch z)⟩
def nd(K:av)(R A:af)(a:Addr->Option bw)(H:Hp):k_:=λq p n f=>match f with
 |.ow=>eN H p n/\a p=↥q
 |.fz=>eN H p n/\R p
 |.al=>eN H p n/\A p
 |.sc=>match n with
  |.l xs=>(∃o,H p=↥(.iH o (.lst xs)))\/KL K p xs
  |.d _ _ _ _=>False
variable {A F G R' R1:Addr->Prop}{K:av}{τ τ' τt:Addr->Option bw}
def nd.DM{R:Addr->Prop}{H:Hp}{q:bw}{p:Addr}{n:Nd}(h:nd K R A τ H q p n .sc):∃xs,n=.l xs/\((∃o,H p=↥(.iH o (.lst xs)))\/KL K p xs):=by
 cases n with
 |l xs=>exact⟨xs,rfl,h⟩
 |d _ _ _ _=>exact h.elim
def nd.sq{R:Addr->Prop}{H:Hp}{q:bw}{p:Addr}(h:nd K R A τ H q p (.l xs) f):eA K H p xs:=by
 cases f with
 |ow=>exact eA.of h.1
 |fz=>exact eA.of h.1
 |al=>exact eA.of h.1
 |sc=>exact h.elim (λh=>.inl (.inr h)) .inr
theorem nd.lst{K:av}{R A:af}{τ:Addr->Option bw}{H:Hp}{q:bw}{p:Addr}{xs:ah}{f:Fl}(h:nd K R A τ H q p (.l xs) f)(hf:qL f=false):H p=↥(.lst xs):=by
 cases f with
 |ow=>exact h.1
 |fz=>exact h.1
 |al=>exact h.1
 |sc=>cases hf
variable {ep k1 k2 n1 t':Nat}
def nd.dat{R:Addr->Prop}{H:Hp}{q:bw}{p:Addr}{cs:az}(h:nd K R A τ H q p (.d cs as xs ep) f):H p=↥(.ext (DO p cs as xs ep)):=by
 cases f with
 |ow=>exact h.1
 |fz=>exact h.1
 |al=>exact h.1
 |sc=>exact h.elim
def Rd.same{H:Hp}{a:Addr}{u:HO}(e:aL H H')(h:Rd H a u):Rd H' a u:=h.elim (λh=>.inl (e _ _ h)) λ⟨o,h⟩=>.inr ⟨o,e _ _ h⟩
theorem a_.same{K:av}{H H':Hp}{a:Addr}{xs:ah}(e:aL H H')(h:a_ K H a xs):a_ K H' a xs:=h.elim (λh=>.inl (Rd.same e h)) .inr
theorem nd.same{K:av}{R A:af}{τ:Addr->Option bw}{H H':Hp}{q:bw}{p:Addr}{n:Nd}{f:Fl}(e:aL H H')(h:nd K R A τ H q p n f):nd K R A τ H' q p n f:=by
 cases f with
 |ow=>exact⟨h.1.same e,h.2⟩
 |fz=>exact⟨h.1.same e,h.2⟩
 |al=>exact⟨h.1.same e,h.2⟩
 |sc=>cases n with
  |l xs=>exact h.elim (λ⟨o,h⟩=>.inl ⟨o,e _ _ h⟩) .inr
  |d _ _ _ _=>exact h.elim
def aL.ne{H:Hp}(e:aL H H'){a:Addr}(h:H a≠none):H' a≠none:=by
 cases q:H a with
 |none=>exact absurd q h
 |some o=>rw[e a o q];simp
structure SI(X:Cx)(F R:af)(τ:Addr->Option bw)(ρ:aV)(σ:St)(H:Hp):Prop where
 len:ρ.length=σ.length
 rep:∀(i:Nat) (d:D),ρ[i]?=↥↥d->∃v,σ[i]?=↥↥v/\Rep (a_ X.K H) (nd X.K R ⇑7 τ H) [i] v d
 rt:∀p,R p->τ p=none
 rh:∀p,R p->H p≠none
 rf:∀p,R p->F p\/X.H₀ p=none
 th:∀p q,τ p=↥q->H p≠none
 t0:∀p q,τ p=↥q->X.H₀ p=none
 same:aL X.H₀ H
variable {X:Cx}{ρ:aV}{σ:L2.St}
def SI.go{R:Addr->Prop}{H:Hp}(S:SI X F R τ ρ σ H)(e:aL H H'):SI X F R τ ρ σ H' :=
 ⟨S.len,λi d h=>let ⟨v,h1,h2⟩:=S.rep i d h;⟨v,h1,h2.imp (λ_ _ h=>a_.same e h) λ_ _ _ _ h=>nd.same e h⟩,S.rt,λp h=>aL.ne e (S.rh p h),S.rf,λp q h=>aL.ne e (S.th p q h),S.t0,S.same.trans e⟩
def k9(G:af)(τ:Addr->Option bw)(fv:aS)(p:Addr):Prop:=G p/\∀c i,τ p=↥(c++[i])->i∈fv
variable {caps fv fv' is:aS}
def k9.mono{p:Addr}(h:k9 G τ fv p)(hs:∀i∈fv,i∈fv'):k9 G τ fv' p:=⟨h.1,λc i e=>hs i (h.2 c i e)⟩
def gP(X:Cx)(F:af)(p:Addr):Prop:=F p\/X.H₀ p=none
inductive ck(K:av)(G R:af)(τ:Addr->Option bw)(fv:aS)(H H':Hp)(v:V)(d:D):Prop where
 |mk (τt:Addr->Option bw) (h1:∀p q,τt p=↥q->H p=none) (h2:Rep (a_ K H') (nd K R (k9 G τ fv) τt H') [] v d)
inductive cW(K:av)(G R:af)(τ:Addr->Option bw)(fv:aS)(H H':Hp)(vs:ah)(ds:aa):Prop where
 |mk (τt:Addr->Option bw) (h1:∀p q,τt p=↥q->H p=none) (h2:aH (a_ K H') (nd K R (k9 G τ fv) τt H') [] 0 vs ds)
section
variable {K:av}{G R:af}{τ:Addr->Option bw}{fv fv':aS}{H H1 H2:Hp}{v:V}{d:D}{vs:ah}{ds:aa}
def ck.go(h:ck K G R τ fv H H1 v d)(e:aL H1 H2):ck K G R τ fv H H2 v d :=
 let ⟨τt,h1,h2⟩:=h;⟨τt,h1,h2.imp (λ_ _ h=>a_.same e h) λ_ _ _ _ h=>nd.same e h⟩
def nd.mono{A':Addr->Prop}{τ:Addr->Option bw}{q:bw}{p:Addr}{xs:Nd}(h:nd K R A τ H q p xs f)(hR:R p->R' p)(b:A p->A' p)(a:τ p=↥q->τ' p=↥q'):nd K R' A' τ' H q' p xs f:=by
 cases f with
 |ow=>exact⟨h.1,a h.2⟩
 |fz=>exact⟨h.1,hR h.2⟩
 |al=>exact⟨h.1,b h.2⟩
 |sc=>exact h
theorem ck.mono(h:ck K G R τ fv H H1 v d)(hs:∀i∈fv,i∈fv'):ck K G R τ fv' H H1 v d :=
 let ⟨τt,h1,h2⟩:=h;⟨τt,h1,h2.imp ⇑10 λ_ _ _ _ h=>h.mono id (λh=>h.mono hs) id⟩
theorem cW.mono(h:cW K G R τ fv H H1 vs ds)(hs:∀i∈fv,i∈fv'):cW K G R τ fv' H H1 vs ds :=
 let ⟨τt,h1,h2⟩:=h;⟨τt,h1,h2.imp ⇑10 λ_ _ _ _ h=>h.mono id (λh=>h.mono hs) id⟩
def ck.old{a:Hp}(h:ck K G R τ fv H H1 v d)(e:aL a H):ck K G R τ fv a H1 v d :=
 let ⟨τt,h1,h2⟩:=h;⟨τt,λp q z=>e.free (h1 p q z),h2⟩
theorem ck.int{i:Int}:ck K G R τ fv H H1 ↑i ↑i:=⟨λ_=>none,λ_ _ h=>by simp at h,.int i⟩
theorem ck.bl{b:Bool}:ck K G R τ fv H H1 (.bl b) (.bl b):=⟨λ_=>none,λ_ _ h=>by simp at h,.bl b⟩
theorem ck.str{s:Str}:ck K G R τ fv H H1 (.str s) (.str s):=⟨λ_=>none,λ_ _ h=>by simp at h,.str s⟩
theorem ck.bX:ck K G R τ fv H H1 .bX .bX:=⟨λ_=>none,λ_ _ h=>by simp at h,.bX⟩
def ck.isInt{i:Int}(h:ck K G R τ fv H H1 v ↑i):v=.int i:=by ext(⟨_,_,h⟩:h);cases h;rfl
def ck.BS{i:Bool}(h:ck K G R τ fv H H1 v (.bl i)):v=.bl i:=by ext(⟨_,_,h⟩:h);cases h;rfl
meta def sT:bw->bw
 |[]=>[]
 |[n]=>[n+1]
 |a::b::r=>a::sT (b::r)
def vo(c:bw)(n:Nat):sT (c++[n])=c++[n+1]:=by
 induction c with
 |nil=>rfl
 |cons a c e =>
  cases c with
  |nil=>rfl
  |cons b c=>show a::sT (b::c++[n])=_;rw[e];rfl
def aH.shift(b:∀c n p xs f,N (c++[n]) p xs f->N' (c++[n+1]) p xs f){n:Nat}{vs:ah}{ds:aa}(h:aH T N [] n vs ds):aH T N' [] (n+1) vs ds :=
 h.ind (P:=λn vs ds=>aH T N' [] (n+1) vs ds) (λ_=>.nil) λn _ _ _ _ h _ a=>.cons (h.imp (q:=[n]) (q':=[n+1]) ⇑10 λc p xs f h=>b c n p xs f h) a
theorem cW.nil:cW K G R τ fv H H1 [] []:=⟨λ_=>none,λ_ _ h=>by simp at h,.nil⟩
open Classical in
theorem cW.cons(e1:aL H H1)(e2:aL H1 H2)(h:ck K G R τ fv H H1 v d)(t:cW K G R τ fv H1 H2 vs ds):cW K G R τ fv H H2 (v::vs) (d::ds):=by
 ext(⟨a,o,l⟩:h)(⟨g,m,j⟩:t);refine⟨λp=>if H1 p=none then(g p).map sT else(a p).map (· ++ [0]),λp q i=>?_,.cons (l.imp (q':=[0]) (λ_ _ h=>a_.same e2 h) λc p xs f h=>?_) (aH.shift (λc n p xs f h=>?_) j)⟩
 ·by_cases b:H1 p=none
  ·exact e1.free b
  ·simp only[b,if_false]at i;cases q1:a p with
   |none=>rw[q1]at i;simp at i
   |some k=>exact o p k q1
 ·have e:nd K R (k9 G τ fv) a H2 (c++[]) p xs f:=nd.same e2 h;cases f with
  |ow =>
   have b:H1 p≠none:=h.1.ne;refine⟨e.1,?_⟩;simp only[b,if_false];rw[h.2];simp
  |fz=>exact e
  |al=>exact e
  |sc=>exact e
 ·cases f with
  |ow =>
   have b:H1 p=none:=m p _ h.2;refine⟨h.1,?_⟩;simp only[b,if_true];rw[h.2];simp[vo]
  |fz=>exact h
  |al=>exact h
  |sc=>exact h
end
inductive tD(X:Cx)(F:af)(Φ:aY)(c:CE)(σ:St)(H:Hp)(Q:VK):Prop where
 |mk (R:af) (τ:Addr->Option bw) (ρ:aV) (d:D) (h1:SI X F R τ ρ σ H) (h2:bg Φ c ρ=ok d) (h3:∀v H',aL H H'->ck X.K (gP X F) R τ (gK c) H H' v d->Q v H')
inductive ri(X:Cx)(F:af)(Φ:aY)(cs:aA)(σ:St)(H:Hp)(Q:ah->Hp->Prop):Prop where
 |mk (R:af) (τ:Addr->Option bw) (ρ:aV) (ds:aa) (h1:SI X F R τ ρ σ H) (h2:b6 Φ cs ρ=ok ds) (h3:∀vs H',aL H H'->cW X.K (gP X F) R τ (d_ cs) H H' vs ds->Q vs H')
inductive jX(X:Cx)(F:af)(Φ:aY)(c:CE)(σ:St)(H:Hp)(Q:Bool->Hp->Prop):Prop where
 |mk (R:af) (τ:Addr->Option bw) (ρ:aV) (b:Bool) (h1:SI X F R τ ρ σ H) (h2:wB Φ c ρ=ok b) (h3:∀H',aL H H'->Q b H')
def PE.imp{e:Expr}{t t':TE}(h:PE X e t)(a:∀σ H Q,t' σ H Q->t σ H Q):PE X e t':=λpins s σ H Q I hw=>h pins s σ H Q I (a σ H Q hw)
def PT.imp{e:Expr}{t t':TT}(h:PT X e t)(a:∀σ H Q,t' σ H Q->t σ H Q):PT X e t':=λpins s σ H Q I hw=>h pins s σ H Q I (a σ H Q hw)
def PW.imp{e:Expr}{t t':TT}(h:PW X e t)(b:∀σ H Q,t' σ H Q->t σ H Q):PW X e t':=λa pins s σ H Q I hw=>h a pins s σ H Q I (b σ H Q hw)
def PA.imp{es:aj}{t t':TA}(h:PA X es t)(b:∀σ H Q,t' σ H Q->t σ H Q):PA X es t':=λa pins s σ H Q I hw=>h a pins s σ H Q I (b σ H Q hw)
variable {st:Stmt}
def PS.imp{t t':TS}(h:PS X st t)(a:∀D σ H,t' D σ H->t D σ H):PS X st t':=λpins s σ H D I hw=>h pins s σ H D I (a D σ H hw)
def gS.imp{st:aQ}{t t':TS}(h:gS X st t)(a:∀D σ H,t' D σ H->t D σ H):gS X st t':=λpins s σ H D I hw=>h pins s σ H D I (a D σ H hw)
theorem p_:∀(as bs:aa),fM as bs=true ↔ as.length=bs.length/\∀(j:Nat) (a b:D),as[j]?=↥a->bs[j]?=↥b->lr a b=true
 |[],[]=>iff_of_true rfl ⟨rfl,λ_ _ _ h _=>nomatch h⟩
 |[],b::bs=>iff_of_false (λh=>lW (show false=true from h)) λh=>nomatch h.1
 |a::as,[]=>iff_of_false (λh=>lW (show false=true from h)) λh=>nomatch h.1
 |a::as,b::bs=>by
  show(lr a b&&fM as bs)=true ↔ _;rw[zag,p_ as bs];constructor
  ·rintro ⟨i,g,e⟩;refine⟨by simp[g],λj x y d c=>?_⟩;cases j with
   |zero=>simp at d c;subst d c;exact i
   |succ j=>exact e j x y ⇑d ⇑c
  ·rintro ⟨g,e⟩;exact⟨e 0 a b rfl rfl,⇑g,λj x y d c=>e (j+1) x y ⇑d ⇑c⟩
def VS(as bs:aa)(j:Nat):Bool:=match as[j]?,bs[j]? with
 |some a,↥b=>lr a b
 |_,_=>false
def kT(as bs:aa):((eg (min as.length bs.length)).all (VS as bs)&&as.length==bs.length)=fM as bs:=by
 rw[zbV,p_,zag,zaM,beq_iff_eq];constructor
 ·rintro ⟨g,e⟩;refine⟨e,λj a b c d=>?_⟩;have i:j<as.length:=by
   by_cases h:j<as.length
   ·exact h
   ·rw[dV ⋯]at c;cases c
  have:=g j (by rw[zcb];left);unfold VS at this;rw[c,d]at this;exact this
 ·rintro ⟨e,g⟩;refine⟨λj i=>?_,e⟩;rw[zcb]at i;unfold VS;have c:as[j]?=↥as[j]:=aaA ⋯;have d:bs[j]?=↥bs[j]:=aaA ⋯;exact[c,d]\g j _ _ c d
variable {d' d0 d1:D}{v':V}
section
variable {X:Cx}{pins:au}{σ:St}{H:Hp}{s:am}{N N':k_}
def lO{n:Nat}(h:cg n (.tup ds)=true):∃m,n=m+1/\∀d∈ds,cg m d=true:=by
 cases n with
 |zero=>cases h
 |succ m=>exact⟨m,rfl,hX.mp h⟩
def lP{n:Nat}(h:cg n (.lst f ds)=true):∃m,n=m+1/\∀d∈ds,cg m d=true:=by
 cases n with
 |zero=>cases h
 |succ m=>exact⟨m,rfl,hX.mp h⟩
def z5(I:Inv X pins σ H s){p:Addr}(h:eA X.K H p xs)(h':a_ X.K H p ys):False:=by
 ext(⟨c,_,b,_⟩:I.list h)(⟨a,_,pt,_⟩:I.tuple h');exact SeqAt.ne_of_list_tuple b.isList pt rfl
def DH(I:Inv X pins σ H s)(z:∀q p xs f,N q p (.l xs) f->eA X.K H p xs)(C:∀q p xs f,N' q p (.l xs) f->eA X.K H p xs):
  ∀(n:Nat) {k k':bw} {v:V} {d d':D},Rep (a_ X.K H) N k v d->Rep (a_ X.K H) N' k' v d'->cg n d=true->cg n d'=true->lr d d'=true:=by
 intro n;induction n with
 |zero =>
  intro k k' v d d' h c e g;cases h with
  |bX=>cases c;rfl
  |bl b=>cases c;exact ab0 b
  |int i=>cases c;exact ab0 i
  |str t=>cases c;exact ab0 t
  |tup _ _=>ext(⟨m,w,_⟩:lO e);left
  |lst _ _=>ext(⟨m,w,_⟩:lP e);left
  |cF _ _=>cases e
 |succ n E =>
  have u:∀{q q':bw} {xs:ah} {ds ds':aa},aH (a_ X.K H) N q 0 xs ds->aH (a_ X.K H) N' q' 0 xs ds'->(∀d∈ds,cg n d=true)->(∀d∈ds',cg n d=true)->fM ds ds'=true:=by
   intro q q' xs ds ds' r o e g;rw[p_];refine⟨by rw[<- r.length,<- o.length],λj a b y x=>?_⟩;ext(⟨M,J,r1⟩:r.get y)(⟨L,B,r2⟩:o.get x);rw[J]at B;cases B;exact E r1 r2 (e a (aa6 y)) (g b (aa6 x))
  intro k k' v d d' h c e g;cases h with
  |bX=>cases c;rfl
  |bl b=>cases c;exact ab0 b
  |int i=>cases c;exact ab0 i
  |str t=>cases c;exact ab0 t
  |tup h r =>
   ext(⟨m,w,e⟩:lO e);obtain rfl:n=m:=by left
   cases c with
   |tup c o =>
    ext(⟨m,w,g⟩:lO g);obtain rfl:n=m:=by left
    ext(rfl:I.rb h c);exact u r o e g
   |lst c o=>exact(z5 I (C _ _ _ _ c) h).elim
   |cF _ _=>cases g
  |lst h r =>
   ext(⟨m,w,e⟩:lP e);obtain rfl:n=m:=by left
   cases c with
   |tup c o=>exact(z5 I (z _ _ _ _ h) c).elim
   |lst c o =>
    ext(⟨m,w,g⟩:lP g);obtain rfl:n=m:=by left
    ext(rfl:I.lQ (z _ _ _ _ h) (C _ _ _ _ c));exact u r o e g
   |cF _ _=>cases g
  |cF _ _=>cases e
structure Alike(A:aF)(s:am)(u u':Value)(b:Bool):Prop where
 eq:SM A s u u' b
 rc:FQ A s u u' b
 ne:Md A s u u' (!b)
def vP{d:D}(h:cg 0 d=true):gf d=true:=by
 cases d<;>first|rfl|cases h
def Hf{A:aF}{k:bw}{v:V}{u g:Value}{d:D}(h:Rep T N k v d)(h':Rep T' N' k' v' d')(f:gf d=true)(e:gf d'=true)(r:RelV v u)(c:RelV v' g):Alike A s u g (lr d d'):=by
 cases h with
 |bX =>
  cases r;cases h' with
  |bX=>cases c;exact⟨wl _,SeqAt.RcAt.none_none,ybo⟩
  |bl b=>cases c;exact⟨SeqAt.EqAt.none_bool b,SeqAt.RcAt.none_bool b,ybr b⟩
  |int b=>ext(⟨t,rfl⟩:c);exact⟨SeqAt.EqAt.none_int b t,SeqAt.RcAt.none_int b t,ybq b t⟩
  |str b=>ext(⟨t,rfl⟩:c);exact⟨SeqAt.EqAt.none_str b t,SeqAt.RcAt.none_str b t,ybn b t⟩
  |_=>cases e
 |bl a =>
  cases r;cases h' with
  |bX=>cases c;exact⟨SeqAt.EqAt.bool_none a,SeqAt.RcAt.bool_none a,ybH a⟩
  |bl b=>cases c;exact⟨SeqAt.EqAt.bool_bool a b,SeqAt.RcAt.bool_bool a b,ybK a b⟩
  |int b=>ext(⟨t,rfl⟩:c);exact⟨SeqAt.EqAt.bool_int a b t,SeqAt.RcAt.bool_int a b t,ybJ a b t⟩
  |str b=>ext(⟨t,rfl⟩:c);exact⟨SeqAt.EqAt.bool_str a b t,SeqAt.RcAt.bool_str a b t,ybG a b t⟩
  |_=>cases e
 |int a =>
  ext(⟨t',rfl⟩:r);cases h' with
  |bX=>cases c;exact⟨SeqAt.EqAt.int_none a t',SeqAt.RcAt.int_none a t',ybB a t'⟩
  |bl b=>cases c;exact⟨SeqAt.EqAt.int_bool a t' b,SeqAt.RcAt.int_bool a t' b,ybE a t' b⟩
  |int b=>ext(⟨t,rfl⟩:c);exact⟨Ix a t' b t,SeqAt.RcAt.int_int a t' b t,ybD a t' b t⟩
  |str b=>ext(⟨t,rfl⟩:c);exact⟨SeqAt.EqAt.int_str a t' b t,SeqAt.RcAt.int_str a t' b t,ybA a t' b t⟩
  |_=>cases e
 |str a =>
  ext(⟨t',rfl⟩:r);cases h' with
  |bX=>cases c;exact⟨SeqAt.EqAt.str_none a t',SeqAt.RcAt.str_none a t',ybi a t'⟩
  |bl b=>cases c;exact⟨SeqAt.EqAt.str_bool a t' b,SeqAt.RcAt.str_bool a t' b,ybl a t' b⟩
  |int b=>ext(⟨t,rfl⟩:c);exact⟨SeqAt.EqAt.str_int a t' b t,SeqAt.RcAt.str_int a t' b t,ybk a t' b t⟩
  |str b=>ext(⟨t,rfl⟩:c);exact⟨SeqAt.EqAt.str_str a t' b t,SeqAt.RcAt.str_str a t' b t,ybh a t' b t⟩
  |_=>cases e
 |_=>cases f
def alike(I:Inv X pins σ H s)(hN:∀q p xs f,N q p (.l xs) f->eA X.K H p xs)(U:∀q p xs f,N' q p (.l xs) f->eA X.K H p xs):
    ∀(n:Nat) (A:aF) {k k':bw} {v v':V} {u Y:Value} {d d':D},Rep (a_ X.K H) N k v d->Rep (a_ X.K H) N' k' v' d'->cg n d=true->cg n d'=true->RelV v u->RelV v' Y->A.units+n<cLine ->
      Alike A s u Y (lr d d'):=by
  intro n;induction n with
  |zero=>exact λA k k' v v' u Y d d' h g L B r i hu=>Hf h g (vP L) (vP B) r i
  |succ n ih =>
    intro A k k' v v' u Y d d' h g L B r i hu;have c:A.units<cLine:=by left
    have ZT:A.in1.units+n<cLine:=by show A.units+1+n<cLine;left
    have P:∀{q q':bw} {xs xs':ah} {ds ds':aa} {o its':aw},aH (a_ X.K H) N q 0 xs ds->aH (a_ X.K H) N' q' 0 xs' ds'->(∀d∈ds,cg n d=true)->(∀d∈ds',cg n d=true)->Vals xs o->Vals xs' its' ->
        ∀(j:Nat) (h1:j<o.toArray.size) (h2:j<its'.toArray.size),SM A.in1 s o.toArray[j] its'.toArray[j] (VS ds ds' j):=by
      intro q q' xs xs' ds ds' o its' y x hd W C J j h1 h2;have E:ds.length=o.length:=by rw[<- y.length,C.length]
      have M:ds'.length=its'.length:=by rw[<- x.length,J.length]
      simp only[zad]at h1 h2;have ea:ds[j]?=↥ds[j]:=aaA ⋯;have eb:ds'[j]?=↥ds'[j]:=aaA ⋯;ext(⟨w1,g1,p1⟩:y.get ea)(⟨w2,g2,p2⟩:x.get eb)(⟨u1,k1,z1⟩:C.get g1)(⟨u2,k2,z2⟩:J.get g2);have:=(ih A.in1 p1 p2 (hd _ (aaU _)) (W _ (aaU _)) z1 z2 ZT).eq;unfold VS;rw[ea,eb];rw[ce h1]at k1;rw[ce h2]at k2;cases k1;cases k2;simpa using this
    cases hd:gf d with
    |true =>
      cases W:gf d' with
      |true=>exact Hf h g hd W r i
      |false =>
        cases g with
        |tup g rr =>
          cases i;ext(⟨o,_,pt,_⟩:I.tuple g);cases h with
          |bX=>cases r;exact⟨SeqAt.EqAt.none_tuple pt c,SeqAt.RcAt.none_tuple pt c,ybm pt c⟩
          |bl a=>cases r;exact⟨SeqAt.EqAt.bool_tuple a pt c,SeqAt.RcAt.bool_tuple a pt c,ybF a pt c⟩
          |int a=>ext(⟨t',rfl⟩:r);exact⟨SeqAt.EqAt.int_tuple a t' pt c,SeqAt.RcAt.int_tuple a t' pt c,ybz a t' pt c⟩
          |str a=>ext(⟨t',rfl⟩:r);exact⟨SeqAt.EqAt.str_tuple a t' pt c,SeqAt.RcAt.str_tuple a t' pt c,ybg a t' pt c⟩
          |_=>cases hd
        |lst g rr =>
          cases i;ext(⟨o,_,pt,_⟩:I.list (U _ _ _ _ g));have pt:=pt.isList;cases h with
          |bX=>cases r;exact⟨SeqAt.EqAt.none_list pt c,SeqAt.RcAt.none_list pt c,ybp pt c⟩
          |bl a=>cases r;exact⟨SeqAt.EqAt.bool_list a pt c,SeqAt.RcAt.bool_list a pt c,ybI a pt c⟩
          |int a=>ext(⟨t',rfl⟩:r);exact⟨SeqAt.EqAt.int_list a t' pt c,SeqAt.RcAt.int_list a t' pt c,ybC a t' pt c⟩
          |str a=>ext(⟨t',rfl⟩:r);exact⟨SeqAt.EqAt.str_list a t' pt c,SeqAt.RcAt.str_list a t' pt c,ybj a t' pt c⟩
          |_=>cases hd
        |_=>first | (cases W;done) | (cases B;done)
    |false =>
     cases h with
     | @tup _ p xs ds h y =>
      cases r;ext(⟨o,C,pt,_⟩:I.tuple h);have pt:s.heap.IsTuple p o.toArray:=pt;cases g with
      |cF _ _=>cases B
      |bX=>cases i;exact⟨SeqAt.EqAt.tuple_none pt c,SeqAt.RcAt.tuple_none pt c,ybc pt c⟩
      |bl b=>cases i;exact⟨SeqAt.EqAt.tuple_bool b pt c,SeqAt.RcAt.tuple_bool b pt c,ybf b pt c⟩
      |int b=>ext(⟨t,rfl⟩:i);exact⟨SeqAt.EqAt.tuple_int b t pt c,SeqAt.RcAt.tuple_int b t pt c,ybe b t pt c⟩
      |str b=>ext(⟨t,rfl⟩:i);exact⟨SeqAt.EqAt.tuple_str b t pt c,SeqAt.RcAt.tuple_str b t pt c,ybb b t pt c⟩
      |lst g rr=>cases i;ext(⟨its',_,e,_⟩:I.list (U _ _ _ _ g));exact⟨SeqAt.EqAt.tuple_list pt e.isList c,SeqAt.RcAt.tuple_list pt e.isList c,ybd pt e.isList c⟩
      | @tup _ z xs' ds' g x =>
        cases i;ext(⟨m,hm,Mq⟩:lO L);obtain rfl:n=m:=by left
        ext(⟨m,hm,tV⟩:lO B);obtain rfl:n=m:=by left
        ext(⟨its',J,Z,_⟩:I.tuple g);have Z:s.heap.IsTuple z its'.toArray:=Z;ext(w:P y x Mq tV C J);have E:ds.length=o.toArray.size:=by rw[zad,<- y.length,C.length]
        have M:ds'.length=its'.toArray.size:=by rw[zad,<- x.length,J.length]
        have rc:FQ A s (.ref p) (.ref z) (lr (.tup ds) (.tup ds')):=by
          have:=SeqAt.RcAt.tuples pt Z c w;rw[<- E,<- M,kT]at this;exact this
        refine⟨?_,rc,?_⟩
        · by_cases R:p=z
          · subst R
            exact[DH I hN U (n+1) (Rep.tup h y) (Rep.tup g x) L B]\wl _
          · exact Is R rc
        · have:=yba pt Z c w
          rw[<- E,<- M,kT]at this;exact this
     | @lst _ p xs f ds h y =>
      cases r;ext(⟨o,C,e,_⟩:I.list (hN _ _ _ _ h));have e:=e.isList;cases g with
      |cF _ _=>cases B
      |bX=>cases i;exact⟨SeqAt.EqAt.list_none e c,SeqAt.RcAt.list_none e c,ybw e c⟩
      |bl b=>cases i;exact⟨SeqAt.EqAt.list_bool b e c,SeqAt.RcAt.list_bool b e c,yby b e c⟩
      |int b=>ext(⟨t,rfl⟩:i);exact⟨SeqAt.EqAt.list_int b t e c,SeqAt.RcAt.list_int b t e c,ybx b t e c⟩
      |str b=>ext(⟨t,rfl⟩:i);exact⟨SeqAt.EqAt.list_str b t e c,SeqAt.RcAt.list_str b t e c,ybv b t e c⟩
      |tup g rr=>cases i;ext(⟨its',_,pt,_⟩:I.tuple g);exact⟨SeqAt.EqAt.list_tuple e pt c,SeqAt.RcAt.list_tuple e pt c,ybu e pt c⟩
      | @lst _ z xs' f' ds' g x =>
        cases i;ext(⟨m,hm,Mq⟩:lP L);obtain rfl:n=m:=by left
        ext(⟨m,hm,tV⟩:lP B);obtain rfl:n=m:=by left
        ext(⟨its',J,O,_⟩:I.list (U _ _ _ _ g));have O:=O.isList;ext(w:P y x Mq tV C J);have E:ds.length=o.toArray.size:=by rw[zad,<- y.length,C.length]
        have M:ds'.length=its'.toArray.size:=by rw[zad,<- x.length,J.length]
        have two:FQ A s (.ref p) (.ref z) (lr (.lst f ds) (.lst f' ds'))/\Md A s (.ref p) (.ref z) (!lr (.lst f ds) (.lst f' ds')):=by
          show FQ A s (.ref p) (.ref z) (fM ds ds')/\Md A s (.ref p) (.ref z) (!fM ds ds');rw[<- kT];by_cases S:ds.length=ds'.length
          · have e1:(ds.length==ds'.length)=true:=by simp[S]
            rw[e1,yaG,<- S,zbM];have Q:o.toArray.size=its'.toArray.size:=by rw[<- E,<- M,S]
            refine⟨?_,?_⟩
            · have:=SeqAt.RcAt.lists e O Q c w
              rw[<- E]at this;exact this
            · have:=ybt e O Q c w
              rw[<- E]at this;exact this
          · have e1:(ds.length==ds'.length)=false:=by simp[S]
            rw[e1,zat];have Q:(o.toArray.size != its'.toArray.size)=true:=by rw[<- E,<- M];simp[S]
            exact⟨SeqAt.RcAt.lists_lengths e O Q c,ybs e O Q c⟩
        refine⟨?_,two.1,two.2⟩;by_cases R:p=z
        · subst R
          exact[DH I hN U (n+1) (Rep.lst h y) (Rep.lst g x) L B]\wl _
        · exact Is R two.1
     |_=>first | (cases hd;done) | (cases L;done)
end
structure Px where
 pe:Nat->Scope->aq->Expr->Option (aj)
 pi:Nat->Scope->aq->Expr->Option (aj)
 pm:Nat->Scope->aq->Stmt->Option (Expr×aj)
 p2:Nat->Scope->aq->Stmt->Option (Expr×aj):=λ_ _ _ _=>none
structure Sx where
 sc:Scope
 N:aq
 fn:Nat->Option Str
 bl:aq
 cs:List (Str×GK)
 px:Px
meta def Rw:A3->ny
 |.add=>.Add|.sub=>.Sub|.mul=>.Mult|.fdiv=>.FloorDiv|.mod=>.Mod|.pow=>.Pow|.shl=>.LShift
meta def Y_:CU->CmpOp
 |.eq=>.Eq|.ne=>.NotEq|.lt=>.Lt|.le=>.LtE|.gt=>.Gt|.ge=>.GtE
meta def tyName:Ty->String
 |.int=>"int" |.bool=>"bool" |.str=>"str" |.list=>"list" |.tuple=>"tuple"
meta def uC:Bf->String
 |.len=>"len" |.abs=>"abs" |.min2=>"min" |.max2=>"max" |.list1=>"list" |.tuple1=>"tuple" |.jv=>"sum" |.all1=>"all" |.iN=>"sorted"
meta def M_(sc:Scope)(x:Str):Bool:=decide (sc.names.lookup x=↥.local)||decide (sc.names.lookup x=↥.cell)||decide (sc.names.lookup x=↥.free)
meta def fI(sc:Scope)(x:Str):Bool:=decide (sc.names.lookup x=↥.globalImplicit)
meta def nS(x:Str):Bool:=!(x==⇑9)&&!(x==("__classdict__" : Str))&&decide (x≠("__name__" : Str))
meta def rG:Expr->Bool
 |.Set _ _ _=>false
 |_=>true
meta def vE(sc outer:Scope):Scope :=
 { sc with names:=sc.names.map λ(n,k)=>if (k==.free&&outer.kind==.function&&outer.names.lookup n==↥.cell)then(n,.cell)else(n,k) }
meta def cC:Expr->aq
 |.Name x _=>[x]
 |.Tuple a _ _=>a.filterMap λe=>match e with|.Name x _=>↥x|_=>none
 |_=>[]
meta def gZ(S:Sx)(caps:aS):aq:=caps.filterMap λi=>S.N[i]?
def Sx.inner(S:Sx)(target:Expr)(caps:aS)(sc:Scope):Sx:=⟨vE sc S.sc,cC target++gZ S caps,S.fn,S.bl,S.cs,S.px⟩
meta def jD:Expr->Bool
 |.Tuple _ _ _=>true
 |_=>false
meta def isNm(e:Expr):Bool:=decide (e.ctorIdx=23)
def ou{e:Expr}(h:isNm e=true):∃x p,e=.Name x p:=kx (motive_1:=λe=>∃x p,e=.Name x p) e (aac h) λx p=>⟨x,p,rfl⟩
meta def prE:Expr->Bool
 |.Call ..=>true
 |.BinOp ..=>true
 |.Subscript ..=>true
 |.Compare ..=>true
 |.Dict ..=>true
 |_=>false
meta def WW:Expr->Bool
 |.Call ..=>true
 |.Name ..=>true
 |_=>false
def aC{a b:Bool}(h:(a&&b)=true):a=true/\b=true:=by
 cases a<;>cases b<;>first|exact⟨rfl,rfl⟩|cases h
meta def bA{b:Type}(o:Option b)(f:b->Bool):Bool:=match o with
 |some a=>f a
 |none=>false
def bu{b:Type}{o:Option b}{f:b->Bool}(h:bA o f=true):∃a,o=↥a/\f a=true:=by
 cases o with
 |some a=>exact⟨a,rfl,h⟩
 |none=>cases h
def dI{a:Type}{c:Prop}[Decidable c]{f:c->Option a}{x:a}(h:(if h:c then f h else none)=↥x):∃k:c,f k=↥x:=by
 by_cases k:c
 ·rw[dif_pos k]at h;exact⟨k,h⟩
 ·rw[dif_neg k]at h;cases h
def bT{d c:Type}{o:Option d}{f:d->Option c}{b:c}(h:o.bind f=↥b):∃a,o=↥a/\f a=↥b:=jb.mp h
def gT{a:Type}{c:Prop}[Decidable c]{o:Option a}{b:a}(h:(if c then o else none)=↥b):c/\o=↥b:=by
 by_cases k:c
 ·rw[zac k]at h;exact⟨k,h⟩
 ·rw[zab k]at h;cases h
meta def vC(e:Expr):Option Const:=if h:e.ctorIdx=19 then rM (motive_1:=λ_=>Option Const) e h (λc _ _=>↥c)else none
def uZ{e:Expr}{c:Const}(h:vC e=↥c):∃j p,e=.Constant c j p:=by
 ext(⟨k,h⟩:dI h);exact rM (motive_1:=λe=>∀k:e.ctorIdx=19,rM (motive_1:=λ_=>Option Const) e k (λc _ _=>↥c)=↥c->∃j p,e=.Constant c j p) e k (λ_ _ _ _ h=>by cases h;exact⟨_,_,rfl⟩) k h
meta def Ft:Const->Bool
 |.none=>true
 |_=>false
def BP{c:Const}(h:Ft c=true):c=.none:=by cases c<;>first|rfl|cases h
meta def Mi(b:Bool):Const->Bool
 |.bool c=>decide (b=c)
 |_=>false
def Fw{b:Bool}{c:Const}(h:Mi b c=true):c=.bool b:=by cases c<;>first | (cases h;done)|rw[of_decide_eq_true h]
meta def Fv(b:Int):Const->Bool
 |.int c=>decide (b=c)
 |_=>false
def BQ{b:Int}{c:Const}(h:Fv b c=true):c=.int b:=by cases c<;>first | (cases h;done)|rw[of_decide_eq_true h]
meta def Fs(b:Str):Const->Bool
 |.str c=>decide (b=c)
 |_=>false
def BO{b:Str}{c:Const}(h:Fs b c=true):c=.str b:=by cases c<;>first | (cases h;done)|rw[of_decide_eq_true h]
meta def Hw(e:Expr):Option Str:=if h:e.ctorIdx=23 then kx (motive_1:=λ_=>Option Str) e h (λx _=>↥x)else none
def gU{e:Expr}{x:Str}(h:Hw e=↥x):∃p,e=.Name x p:=by
 ext(⟨k,h⟩:dI h);exact kx (motive_1:=λe=>∀k:e.ctorIdx=23,kx (motive_1:=λ_=>Option Str) e k (λx _=>↥x)=↥x->∃p,e=.Name x p) e k (λ_ _ _ h=>by cases h;exact⟨_,rfl⟩) k h
meta def Sj(e:Expr):Option (Expr×ny×Expr):=if h:e.ctorIdx=2 then ww (motive_1:=λ_=>Option (Expr×ny×Expr)) e h (λl o r _=>↥(l,o,r))else none
def Ie{e l r:Expr}{o:ny}(h:Sj e=↥(l,o,r)):∃p,e=.BinOp l o r p:=by
 ext(⟨k,h⟩:dI h);exact ww (motive_1:=λe=>∀k:e.ctorIdx=2,ww (motive_1:=λ_=>Option (Expr×ny×Expr)) e k (λl o r _=>↥(l,o,r))=↥(l,o,r)->∃p,e=.BinOp l o r p) e k (λ_ _ _ _ _ h=>by cases h;exact⟨_,rfl⟩) k h
meta def X_(e:Expr):Option (yai×Expr):=if h:e.ctorIdx=3 then sk (motive_1:=λ_=>Option (yai×Expr)) e h (λo e _=>↥(o,e))else none
def Dc{e x:Expr}{o:yai}(h:X_ e=↥(o,x)):∃p,e=.UnaryOp o x p:=by
 ext(⟨k,h⟩:dI h);exact sk (motive_1:=λe=>∀k:e.ctorIdx=3,sk (motive_1:=λ_=>Option (yai×Expr)) e k (λo e _=>↥(o,e))=↥(o,x)->∃p,e=.UnaryOp o x p) e k (λ_ _ _ _ h=>by cases h;exact⟨_,rfl⟩) k h
meta def vBool(e:Expr):Option (BoolOp×aj):=if h:e.ctorIdx=0 then vb (motive_1:=λ_=>Option (BoolOp×aj)) e h (λo vs _=>↥(o,vs))else none
def u0{e:Expr}{o:BoolOp}{vs:aj}(h:vBool e=↥(o,vs)):∃p,e=.BoolOp o vs p:=by
 ext(⟨k,h⟩:dI h);exact vb (motive_1:=λe=>∀k:e.ctorIdx=0,vb (motive_1:=λ_=>Option (BoolOp×aj)) e k (λo vs _=>↥(o,vs))=↥(o,vs)->∃p,e=.BoolOp o vs p) e k (λ_ _ _ _ h=>by cases h;exact⟨_,rfl⟩) k h
meta def one{a:Type}:List a->Option a
 |[]=>none
 |x::xs=>match xs with
  |[]=>↥x
  |_::_=>none
def bM{a:Type}{l:List a}{x:a}(h:one l=↥x):l=[x]:=by
 cases l with
 |nil=>cases h
 |cons y ys=>cases ys with
  |nil=>cases h;rfl
  |cons _ _=>cases h
def two{a:Type}:List a->Option (a×a)
 |[]=>none
 |x::xs=>(one xs).map λy=>(x,y)
def fX{a:Type}{l:List a}{x y:a}(h:two l=↥(x,y)):l=[x,y]:=by
 cases l with
 |nil=>cases h
 |cons z b=>cases b with
  |nil=>cases h
  |cons w c=>cases c with
   |nil=>cases h;rfl
   |cons _ _=>cases h
meta def Yb{a:Type}:List a->Option (a×List a)
 |[]=>none
 |x::xs=>↥(x,xs)
def xI{a:Type}{l xs:List a}{x:a}(h:Yb l=↥(x,xs)):l=x::xs:=by
 cases l with
 |nil=>cases h
 |cons y ys=>cases h;rfl
meta def Nk(e:Expr):Option (Expr×List CmpOp×aj):=if h:e.ctorIdx=15 then sw (motive_1:=λ_=>Option (Expr×List CmpOp×aj)) e h (λl b a _=>↥(l,b,a))else none
def zf{e l:Expr}{a:List CmpOp}{rs:aj}(h:Nk e=↥(l,a,rs)):∃p,e=.Compare l a rs p:=by
 ext(⟨k,h⟩:dI h);exact sw (motive_1:=λe=>∀k:e.ctorIdx=15,sw (motive_1:=λ_=>Option (Expr×List CmpOp×aj)) e k (λl a rs _=>↥(l,a,rs))=↥(l,a,rs)->∃p,e=.Compare l a rs p) e k (λ_ _ _ _ _ h=>by cases h;exact⟨_,rfl⟩) k h
meta def Dh(e:Expr):Option (Expr×aj×List wh):=if h:e.ctorIdx=16 then mB (motive_1:=λ_=>Option (Expr×aj×List wh)) e h (λf as a _=>↥(f,as,a))else none
def A_{e f:Expr}{as:aj}{a:List wh}(h:Dh e=↥(f,as,a)):∃p,e=.Call f as a p:=by
 ext(⟨k,h⟩:dI h);exact mB (motive_1:=λe=>∀k:e.ctorIdx=16,mB (motive_1:=λ_=>Option (Expr×aj×List wh)) e k (λf as a _=>↥(f,as,a))=↥(f,as,a)->∃p,e=.Call f as a p) e k (λ_ _ _ _ _ h=>by cases h;exact⟨_,rfl⟩) k h
def eC(e:Expr):Option (Str×aj):=(Dh e).bind λz=>if z.2.2.isEmpty=true then(Hw z.1).bind λx=>↥(x,z.2.1) else none
def Jv{a:Type}{l:List a}(h:l.isEmpty=true):l=[]:=List.isEmpty_iff.mp h
def b9{e:Expr}{x:Str}{as:aj}(h:eC e=↥(x,as)):∃p a,e=.Call (.Name x p) as [] a:=by
 ext(⟨⟨f,i,g⟩,b,h⟩:bT h)(⟨d,h⟩:gT h)(⟨y,c,h⟩:bT h);cases h;ext(⟨a,rfl⟩:A_ b)(⟨p,rfl⟩:gU c)(rfl:Jv d);exact⟨p,a,rfl⟩
meta def xH(e:Expr):Option (Expr×Expr):=if h:e.ctorIdx=21 then pT (motive_1:=λ_=>Option (Expr×Expr)) e h (λa b _=>↥(a,b))else none
def lE{e a b:Expr}(h:xH e=↥(a,b)):∃p,e=.Subscript a b p:=by
 ext(⟨k,h⟩:dI h);exact pT (motive_1:=λe=>∀k:e.ctorIdx=21,pT (motive_1:=λ_=>Option (Expr×Expr)) e k (λa b _=>↥(a,b))=↥(a,b)->∃p,e=.Subscript a b p) e k (λ_ _ _ _ h=>by cases h;exact⟨_,rfl⟩) k h
meta def A9(e:Expr):Option (aj):=if h:e.ctorIdx=25 then wv (motive_1:=λ_=>Option (aj)) e h (λa _ _=>↥a)else none
def jU{e:Expr}{es:aj}(h:A9 e=↥es):∃n p,e=.Tuple es n p:=by
 ext(⟨k,h⟩:dI h);exact wv (motive_1:=λe=>∀k:e.ctorIdx=25,wv (motive_1:=λ_=>Option (aj)) e k (λes _ _=>↥es)=↥es->∃n p,e=.Tuple es n p) e k (λ_ _ _ _ h=>by cases h;exact⟨_,_,rfl⟩) k h
meta def Ng(e:Expr):Option (aj):=if h:e.ctorIdx=24 then y2 (motive_1:=λ_=>Option (aj)) e h (λa _=>↥a)else none
def zd{e:Expr}{es:aj}(h:Ng e=↥es):∃p,e=.List es p:=by
 ext(⟨k,h⟩:dI h);exact y2 (motive_1:=λe=>∀k:e.ctorIdx=24,y2 (motive_1:=λ_=>Option (aj)) e k (λes _=>↥es)=↥es->∃p,e=.List es p) e k (λ_ _ _ h=>by cases h;exact⟨_,rfl⟩) k h
meta def Ln(e:Expr):Option (Expr×List ol×Scope):=if h:e.ctorIdx=8 then nl (motive_1:=λ_=>Option (Expr×List ol×Scope)) e h (λe b a _=>↥(e,b,a))else none
def Dg{e x:Expr}{gs:List ol}{sc:Scope}(h:Ln e=↥(x,gs,sc)):∃p,e=.ListComp x gs sc p:=by
 ext(⟨k,h⟩:dI h);exact nl (motive_1:=λe=>∀k:e.ctorIdx=8,nl (motive_1:=λ_=>Option (Expr×List ol×Scope)) e k (λe gs sc _=>↥(e,gs,sc))=↥(x,gs,sc)->∃p,e=.ListComp x gs sc p) e k (λ_ _ _ _ _ h=>by cases h;exact⟨_,rfl⟩) k h
def dS{a:Bool}(h:(!a)=true):a=false:=by cases a<;>first|rfl|cases h
def uu(S:Sx)(n:Nat)(t:Tg)(caps:aS)(target:Expr)(sc:Scope):Bool :=
 decide (sc.kind=.function)&&sc.names.all (λ(x,k)=>decide (k≠.cell)&&(decide (k≠.local)||decide (sc.names.lookup x=↥.local))&&(decide (k≠.free)||decide (S.sc.names.lookup x=↥.cell)||decide (S.sc.names.lookup x=↥.free))) &&
 decide (n=(cC target).length)&&(cC target).all (λx=>decide (sc.names.lookup x=↥.local))&&decide (cC target++gZ S caps).Nodup &&
 caps.all (λi=>match S.N[i]? with|↥x=>decide (sc.names.lookup x=↥.free)|none=>false) &&
 (match t with
  |.nm i=>decide (i=0)&&isNm target
  |.tp is=>bA (A9 target) λa=>decide (is=eg a.length)&&a.all isNm)
mutual
meta def cc(S:Sx):CE->Expr->Bool
 |.cJ p es,e0=>prE e0&&bA (S.px.pe p S.sc S.bl e0) λxs=>bW S es xs
 |.bX,e0=>bA (vC e0) λc=>Ft c
 |.bl b,e0=>bA (vC e0) λc=>Mi b c
 |.int i,e0=>bA (vC e0) λc=>Fv i c
 |.str s,e0=>bA (vC e0) λc=>Fs s c
 |.v i,e0=>bA (Hw e0) λx=>decide (S.N[i]?=↥x)&&M_ S.sc x&&nS x
 |.glo x i,e0=>bA (Hw e0) λy=>decide (y=x)&&fI S.sc x&&decide ((x,GK.i i)∈S.cs)&&!(x==⇑9)
 |.bin op a b,e0=>bA (Sj e0) λz=>decide (z.2.1=Rw op)&&cc S a z.1&&cc S b z.2.2
 |.neg a,e0=>bA (X_ e0) λz=>decide (z.1=.USub)&&cc S a z.2
 |.not a,e0=>bA (X_ e0) λz=>decide (z.1=.Not)&&cc S a z.2
 |.and es,e0=>bA (vBool e0) λz=>decide (z.1=.And)&&bW S es z.2
 |.or es,e0=>bA (vBool e0) λz=>decide (z.1=.Or)&&bW S es z.2
 |.cmp op a b,e0=>bA (Nk e0) λz=>decide (z.2.1=[Y_ op])&&cc S a z.1&&bA (one z.2.2) λr=>cc S b r&&rG r
 |.qM a t,e0=>bA (eC e0) λz=>decide (z.1=("isinstance" : Str))&&fI S.sc z.1&&decide (z.1∈S.bl)&&bA (two z.2) λy=>cc S a y.1&&bA (Hw y.2) λx=>decide (x=(tyName t:Str))&&fI S.sc x&&decide (x∈S.bl)
 |.call f es,e0=>bA (eC e0) λz=>decide (S.fn f=↥z.1)&&fI S.sc z.1&&nS z.1&&bA (Yb z.2) λy=>bW S es (y.1::y.2)
 |.bf f es,e0=>bA (eC e0) λz=>decide (z.1=(uC f:Str))&&fI S.sc z.1&&decide (z.1∈S.bl)&&bA (Yb z.2) λy=>bW S es (y.1::y.2)
 |.mQ a,e0=>bA (eC e0) λz=>decide (z.1=("len" : Str))&&fI S.sc z.1&&decide (z.1∈S.bl)&&bA (one z.2) λy=>bA (eC y) λw=>decide (w.1=("set" : Str))&&fI S.sc w.1&&decide (w.1∈S.bl)&&bA (one w.2) λu=>cc S a u
 |.ix a b,e0=>bA (xH e0) λz=>cc S a z.1&&cc S b z.2
 |.tup es,e0=>bA (A9 e0) λxs=>bW S es xs&&decide (es.length<=1000)
 |.lst es,e0=>bA (Ng e0) λxs=>bW S es xs&&decide (es.length<=1000)
 |.comp n t caps ik es bU elt,e0=>bA (Ln e0) λz=>bA (one z.2.1) λg=>decide (g.is_async=0)&&uu S n t caps g.target z.2.2&&rG g.iter&&decide (bU.length<=1)&&bW (S.inner g.target caps z.2.2) bU g.ifs&&cc (S.inner g.target caps z.2.2) elt z.1 &&
     (match ik with
      |.nu=>bA (eC g.iter) λw=>decide (w.1=("range" : Str))&&fI S.sc w.1&&decide (w.1∈S.bl)&&bA (one w.2) λy=>bW S es [y]
      |.mI=>bA (eC g.iter) λw=>decide (w.1=("range" : Str))&&fI S.sc w.1&&decide (w.1∈S.bl)&&bA (two w.2) λy=>bW S es [y.1,y.2]
      |.seq=>bW S es [g.iter]
      |.cJ p=>WW g.iter&&(decide (1100<=p)||jD g.target)&&bA (S.px.pi p S.sc S.bl g.iter) λxs=>bW S es xs)
meta def bW(S:Sx):aA->aj->Bool
 |[],es=>match es with
  |[]=>true
  |_::_=>false
 |c::cs,es=>match es with
  |[]=>false
  |e::es=>cc S c e&&bW S cs es
end
def Hx(K:av)(n:Nat)(m:aD):Sp:=λvs H Q _=>∃(F:af) (ds:aa) (r:D),vs.length=n/\aH (a_ K H) (nd K F ⇑7 ⇑8 H) [] 0 vs ds/\m ds=ok r /\
 ∀v H',aL H H'->(∃τt:Addr->Option bw,(∀p q,τt p=↥q->H p=none)/\Rep (a_ K H') (nd K (λp=>F p\/H p=none) ⇑7 τt H') [] v r)->Q v H'
structure Rj(X:Cx)(k:Nat)(x:Str)(m:aD):Prop where
 ex:∃(f:Addr) (fd:hA) (ps:aq),fQ X.prog X.w X.K X.mg X.base uR k f fd ps (Hx X.K ps.length m)/\X.mg x=↥(.ref f)/\hO X.K (.ref f)=true/\Binds X.K fd ps []/\∀ds r,m ds=ok r->ds.length=ps.length
meta def kinds:List String:=["NoneType","bool","int","str","list","tuple","dict"]
def Up:Ty->String->Bool
 |.int,s=>s == "int" ||s == "bool"
 |t,s=>s==tyName t
theorem aL.upd{H:Hp}{p:Addr}{o:HO}(h:H p=none):aL H (upd H p o):=λb u e=>by
 rw[bt (by rintro rfl;rw[h]at e;cases e)];exact e
def vU{i j:Int}(h:gG i j=true):IntMulOk i j:=by
 unfold gG at h;simp only[zbj,zag,decide_eq_true_eq]at h;ext(((h|h)|⟨c,b⟩):h)
 ·exact .of_left (RE h)
 ·exact .of_right (RE h)
 ·have e:m3 i<=9000:=RE c;have d:m3 j<=9000:=RE b;unfold IntMulOk;have a:CQ ((m3 i:Int)+(m3 j:Int))=false:=by
   unfold CQ;have:(bitsLine:Int)=134217728:=by decide
   exact adY ⋯
  rw[a];simp
section
variable {K:av}{R:af}{τ τt:Addr->Option bw}{fv:aS}{H H':Hp}
def Jq:oO X (wi .Add) (λx y H Q=>∃a b xs ys,x=.ref a/\y=.ref b/\a_ X.K H a xs/\a_ X.K H b ys/\xs.length+ys.length<=sizeLine/\(xs=[]->Q (.ref b) H)/\(ys=[]->Q (.ref a) H)/\∀p,H p=none->Q (.ref p) (upd H p (.tup (xs++ys)))):=by
 intro pins s σ H x y v u Q I r q h;ext(⟨a,b,xs,ys,rfl,rfl,l,k,C,q0,q1,q2⟩:h);cases r;cases q;by_cases g:xs=[]
 ·subst g;ext(⟨M,r1,w,_⟩:I.tuple l)(⟨z,r2,t,_⟩:I.tuple k);cases r1;ext(⟨⟨J,E,data,o⟩,i,j,n,hd⟩:id w)(⟨⟨O,L,data2,m⟩,e,d,B,c⟩:id t);simp only at j hd d c;subst j hd d c;exact W0 ⟨_,i,rfl⟩ ⟨_,e,rfl⟩ GT R7 adx ado (adf _ _)
   (tuple_addW0 a b [].toArray z.toArray n B E L o m rfl) ⟨i,e,⟨.ref b,H,I,rfl,q0 rfl⟩⟩
 ·exact Jp pins s σ H (.ref a) (.ref b) _ _ Q I rfl rfl ⟨a,b,xs,ys,rfl,rfl,l,k,g,C,q1,λ_=>q2⟩
def nd.rS(k k':bw)(p:Addr)(xs:Nd)(f:Fl)(h:nd K R A ⇑8 H k p xs f):nd K R A ⇑8 H k' p xs f:=by
 cases f with
 |ow=>exact nomatch h.2
 |fz=>exact h
 |al=>exact h
 |sc=>exact h
def TQ(b:SI X F R τ ρ σ H)(a:∀p q,τt p=↥q->H p=none)(k k':bw)(p:Addr)(xs:Nd)(f:Fl)(h:nd K R (k9 (gP X F) τ fv) τt H' k p xs f):
  nd K R (k9 (gP X F) τ fv) ⇑8 H' k' p xs (bq f):=by
 cases f with
 |ow=>exact⟨h.1,.inr (b.same.free (a p _ h.2)),λc i e=>absurd (a p _ h.2) (b.th p _ e)⟩
 |fz=>exact h
 |al=>exact h
 |sc=>exact h
def aH.gQ{k:bw}{n:Nat}(h:aH (a_ K H') (nd K R (k9 (gP X F) τ fv) τt H') k n xs ds)(b:SI X F R τ ρ σ H)(a:∀p q,τt p=↥q->H p=none){n':Nat}:
  aH (a_ K H') (nd K R (k9 (gP X F) τ fv) ⇑8 H') k' n' xs (ao bq ds):=aH.jA ⇑10 (TQ b a) h _ _
def Rep.gQ{k:bw}{v:V}{d:D}(h:Rep (a_ K H') (nd K R (k9 (gP X F) τ fv) τt H') k v d)(b:SI X F R τ ρ σ H)(a:∀p q,τt p=↥q->H p=none):
  Rep (a_ K H') (nd K R (k9 (gP X F) τ fv) ⇑8 H') k' v (aJ bq d):=Rep.jA ⇑10 (TQ b a) h _
theorem aH.rep{A:af}{xs:ah}{ds:aa}(h:aH (a_ K H) (nd K R A ⇑8 H) [] 0 xs (ao bq ds)):∀n:Nat,aH (a_ K H) (nd K R A ⇑8 H) [] 0 (ap n xs).flatten (ao bq (ap n ds).flatten)
 |0=>.nil
 |n+1=>by
  exact[zaA,zaA,zaS,zaS,aN,zak,-aN,-aN]\aH.uG nd.rS h (aH.rep h n)
def ck.qJ{p:Addr}(d:H p=none)(e:aL H H')(g:H' p=↥(.lst xs))(r:aH (a_ K H') (nd K R (k9 G τ fv) ⇑8 H') [] 0 xs ds):ck K G R τ fv H H' (.ref p) (.ow\ds):=by
 refine⟨λq=>if q=p then ↥[] else none,λq k b=>?_,.lst ⟨g,by simp⟩ (r.imp ⇑10 λc q xs f h=>?_)⟩
 ·by_cases a:q=p
  ·subst a;exact d
  ·simp[a]at b
 ·cases f with
  |ow=>exact nomatch h.2
  |fz=>exact h
  |al=>exact h
  |sc=>exact h
end
def JE(K:av):∀t:Ty,∀s∈kinds,ci K (.type s) (.type (tyName t))=↥(Up t s):=by
 intro t s a;simp only[kinds,zau,zav,or_false]at a;cases t<;>rcases a with rfl|rfl|rfl|rfl|rfl|rfl|rfl<;>rfl
structure PX(X:Cx)(sc:Scope)(bl:aq)(k:Nat):Prop where
 sc:X.env.scope=sc
 calm:X.calm=true
 room:gw k X.A
 bl:∀x∈bl,X.mg x=none
def PX.gl{sc:Scope}{bl:aq}{k:Nat}(L:PX X sc bl k){x:Str}(h:fI sc x=true):Gl X x:=by
 unfold Gl;show X.env.scope.names.lookup x=↥.globalImplicit;exact[L.sc]\aac h
def qx(X:Cx)(F:af)(Φ:aY):aA->aj->Prop
 |[],[]=>True
 |c::cs,a::as=>PE X a (tD X F Φ c)/\(∀b,cj (a::b) X.env=(false,eval a X.env)::cj b X.env)/\oN a/\qx X F Φ cs as
 |_,_=>False
variable {bU cs es:aA}{Φ:aY}
def qx.c1{a:Expr}(h:qx X F Φ cs [a]):∃c,cs=[c]:=by
 cases cs with
 |nil=>exact h.elim
 |cons c cs=>cases cs with
  |nil=>exact⟨c,rfl⟩
  |cons _ _=>exact h.2.2.2.elim
def qx.c2{a b:Expr}(h:qx X F Φ cs [a,b]):∃c d,cs=[c,d]:=by
 cases cs with
 |nil=>exact h.elim
 |cons c cs=>ext(⟨d,rfl⟩:qx.c1 h.2.2.2);exact⟨c,d,rfl⟩
variable {c' elt:CE}
def Tt{n:Nat}{c:CE}{d:D}(h:bg Φ (.cJ n [c,c']) ρ=ok d):∃x y,bg Φ c ρ=ok x/\bg Φ c' ρ=ok y/\Φ n [x,y]=ok d:=by
 ext(⟨xs,e,h⟩:aI h)(⟨x,g,e⟩:aI e)(⟨ys,b,e⟩:aI e);cases e;ext(⟨y,a,e⟩:aI b);cases e;exact⟨x,y,g,a,h⟩
structure xl(K:av)(H2:Hp)(vs:ah)(xs:aa)(H':Hp):Prop where
 n0:∃R0:af,aH (a_ K H2) (nd K R0 ⇑7 ⇑8 H2) [] 0 vs (ao aK xs)/\∀p o,R0 p->H2 p=↥o->H' p=↥o
 tp:∀a ys,a_ K H2 a ys->a_ K H' a ys
structure XU(K:av)(J:It)(H2:Hp)(vs:ah)(xs items:aa):Prop where
 go:∀i H' R',xl K H2 vs xs H'->aH (a_ K H') (nd K R' ⇑7 ⇑8 H') [] 0 vs (ao aK xs)->i<items.length->J.go i H'
 y8:∀i H' R' x kF,xl K H2 vs xs H'->aH (a_ K H') (nd K R' ⇑7 ⇑8 H') [] 0 vs (ao aK xs)->i<items.length->J.y8 i H' x kF->aL H' kF/\∃d,items[i]?=↥d/\Rep (a_ K kF) (nd K R' ⇑7 ⇑8 kF) [] x d
 stop:∀i H' R',xl K H2 vs xs H'->aH (a_ K H') (nd K R' ⇑7 ⇑8 H') [] 0 vs (ao aK xs)->items.length<=i->J.stop i H'
abbrev MZ(a:Scope->aq->Expr->Option (aj))(m:aD):Prop:=∀{Φ:aY} {n:Nat},Φ n=m->∀{X:Cx} {sc:Scope} {bl:aq} {k:Nat},PX X sc bl k->∀{e:Expr} {args:aj},a sc bl e=↥args->∀{F:af} {cs:aA},qx X F Φ cs args->PE X e (tD X F Φ (.cJ n cs))/\PT X e (jX X F Φ (.cJ n cs))
abbrev PiT(Φ:aY)(X:Cx)(e b:Expr)(F:af)(cs:aA)(n:Nat):Prop :=
  ∀(pins:au) (s:am) (σ:St) (H:Hp) (R:af) (τ:Addr->Option bw) (ρ:aV) (xs:aa) (d:D) (items:aa),Inv X pins σ H s->SI X F R τ ρ σ H->b6 Φ cs ρ=ok xs->Φ n xs=ok d->xW d=ok items->∀a:It->Hp->Prop,
   (∀J H2 vs,aL H H2->cW X.K (gP X F) R τ (d_ cs) H H2 vs xs->XU X.K J H2 vs xs items->a J H2) ->
   ⇑0 (eval e X.env) (λv c=>⇑0 (rO v) (HI X pins σ b a) X.xe c) X.xe s
abbrev PlI(b:Scope->aq->Expr->Option (aj))(m:aD):Prop:=∀{Φ:aY} {n:Nat},Φ n=m->∀{X:Cx} {sc:Scope} {bl:aq} {k:Nat},PX X sc bl k->∀{e:Expr} {args:aj},b sc bl e=↥args->∀{F:af} {cs:aA} {a:Expr},jD a=true->qx X F Φ cs args->PiT Φ X e a F cs n
structure nZ(px:Px)(Φ:aY):Prop where
 e:∀(X:Cx) (sc:Scope) (bl:aq) (k:Nat),PX X sc bl k->∀(p:Nat) (e:Expr) (args:aj),px.pe p sc bl e=↥args->∀(F:af) (cs:aA),qx X F Φ cs args->PE X e (tD X F Φ (.cJ p cs))/\PT X e (jX X F Φ (.cJ p cs))
 i:∀(X:Cx) (sc:Scope) (bl:aq) (k:Nat),PX X sc bl k->∀(p:Nat) (e:Expr) (args:aj),px.pi p sc bl e=↥args->∀(F:af) (cs:aA) (tg:Expr),(decide (1100<=p)||jD tg)=true->qx X F Φ cs args ->
  PiT Φ X e tg F cs p
def xp(K:av):GK->Value->Prop
 |.i i,u=>RelV ↑i u
structure Lk(X:Cx)(S:Sx)(k:Nat)(Φ:aY):Prop where
 sc:X.env.scope=S.sc
 N:X.N=S.N
 nd:X.N.Nodup
 calm:X.calm=true
 room:gw k X.A
 bl:∀x∈S.bl,X.mg x=none
 fn:∀f x,S.fn f=↥x->Rj X k x (Φ f)
 cs:∀x i,(x,i)∈S.cs->∃u,X.mg x=↥u/\xp X.K i u
 pr:nZ S.px Φ
variable {S:Sx}
def Lk.pX{k:Nat}(L:Lk X S k Φ):PX X S.sc S.bl k:=⟨L.sc,L.calm,L.room,L.bl⟩
variable {Q:VK}{BU p' pos pos':Pos}
section
variable {X:Cx}{S:Sx}{k:Nat}{F:af}{Φ:aY}
def Lk.gl(L:Lk X S k Φ){x:Str}(h:fI S.sc x=true):Gl X x:=by
 unfold Gl;show X.env.scope.names.lookup x=↥.globalImplicit;exact[L.sc]\aac h
def Lk.WA(L:Lk X S k Φ){x:Str}(h:M_ S.sc x=true):MY X.env.scope x:=by
 unfold MY;rw[L.sc];unfold M_ at h;rw[zbj,zbj]at h;ext(((h|h)|h):h)
 ·exact .inl (aac h)
 ·exact .inr (.inl (aac h))
 ·exact .inr (.inr (aac h))
def tD.intro{c:CE}{H:Hp}{R:af}{d:D}(a:SI X F R τ ρ σ H)(e:bg Φ c ρ=ok d)(h:∀v H',aL H H'->ck X.K (gP X F) R τ (gK c) H H' v d->Q v H'):tD X F Φ c σ H Q:=⟨R,τ,ρ,d,a,e,h⟩
def YJ(L:Lk X S k Φ){i:Nat}{x:Str}(h:cc S (.v i) (.Name x pos)=true):PE X (.Name x pos) (tD X F Φ (.v i)):=by
 replace h:=aC h;replace h:=And.intro (aC h.1) h.2;ext(⟨⟨o,n⟩,a⟩:h);unfold nS at a;simp only[zag,zbb]at a;refine PE.imp (iP (i:=i) ([L.N]\aac o) (L.WA n) a.1.1 a.1.2) λσ H Q b=>?_;ext(⟨R,τ,ρ,d,g,r,b⟩:b)(⟨d',hd,rfl⟩:DF r)
 ·ext(⟨v,l,m⟩:g.rep i d' hd);refine⟨v,l,b v H (aL.refl H) ⟨λ_=>none,λ_ _ h=>by simp at h,?_⟩⟩;refine Rep.map (q:=[i]) (q':=[]) ⇑10 (λc p xs f h=>?_) m [] rfl;cases f with
  |ow =>
   refine⟨h.1,.inr (g.t0 p _ h.2),λc' j e=>?_⟩;rw[h.2]at e;ext(s:aaI e);have:=aa5 re s;simp at this;show _∈[i];simp[this]
  |fz=>exact h
  |al=>exact h.2.elim
  |sc=>exact h
def K1{op:A3}{x y d:D}(h:dh op x y=ok d):(∃i j,x=.int i/\y=.int j/\Zd op i j=true/\d=.int (resB op i j))\/K0 op x y=ok d:=by
 cases x with
 |int i=>cases y with
  |int j =>
   ext(⟨c,e⟩:qN h);exact .inl ⟨i,j,rfl,rfl,c,e.symm⟩
  |_=>exact .inr h
 |_=>exact .inr h
def Y9(op:A3):oO X (wi (Rw op)) (rI (λi j=>Zd op i j=true) λi j=>.int (resB op i j)):=by
 cases op with
 |add=>exact Oq λ_ _ _ _ _ _ _ _ q=>add_int q
 |sub=>exact Oq λ_ _ _ _ _ _ _ _ q=>sub_int q
 |mul=>exact Oq λ_ _ _ _ _ _ _ a q=>mul_int q (vU a)
 |mod=>exact Oq λ_ _ _ _ _ _ _ a q=>mod_int' (aac a) q
 |fdiv =>
  exact Oq λi j _ _ _ _ _ a q=>by
   ext(⟨b,c⟩:aC a);exact floordiv_int (aac b) q (.inl (PyProof.noPylong_of_log2 ((Nat.log2_lt (by have:=aac b;left)).mpr (aac c))))
 |pow =>
  exact Oq λi j _ _ _ _ _ a q=>by
   ext(⟨a,d⟩:aC a)(⟨b,c⟩:aC a);exact pow_int_small (aac b) (aac c) (aac d) q
 |shl =>
  exact Oq λi j _ _ _ _ _ a q=>by
   ext(⟨a,d⟩:aC a)(⟨b,c⟩:aC a);exact lshift_int_small (aac b) (aac c) (aac d) q
def NT(L:Lk X S k Φ){op:A3}{a b:CE}{l r:Expr}(ha:PE X l (tD X F Φ a))(hb:PE X r (tD X F Φ b)):PE X (.BinOp l (Rw op) r pos) (tD X F Φ (.bin op a b)):=by
 have gen:∀{Z:R2},oO X (wi (Rw op)) Z->(∀{R τ ρ σ H d x y v u H'} {Q:VK},SI X F R τ ρ σ H->K0 op x y=ok d->aL H H'->ck X.K (gP X F) R τ (gK (.bin op a b)) H H' v x->ck X.K (gP X F) R τ (gK (.bin op a b)) H H' u y ->
   (∀v H',aL H H'->ck X.K (gP X F) R τ (gK (.bin op a b)) H H' v d->Q v H')->Z v u H' Q)->PE X (.BinOp l (Rw op) r pos) (tD X F Φ (.bin op a b)):=by
  intro Z ho hx;refine PE.imp (L3 ((Y9 op).or ho) ha hb) λσ H Q s=>?_;ext(⟨R,τ,ρ,d,t,C,s⟩:s)(⟨x,ex,C⟩:aI C)(⟨y,ey,C⟩:aI C);refine tD.intro t ex λv H1 e1 r1=>tD.intro (t.go e1) ey λu H2 e2 r2=>?_;ext(e:e1.trans e2)((⟨i,j,rfl,rfl,c,rfl⟩|C):K1 C)
  ·exact .inl ⟨i,j,(r1.go e2).isInt,r2.isInt,c,s _ H2 e .int⟩
  ·exact .inr (hx t C e ((r1.go e2).mono λi hi=>aa4 _ hi) ((r2.old e1).mono λi hi=>aay _ hi) s)
 have no:∀{f:Value->Value->Sem Value},oO X f λ_ _ _ _=>False:=λ_ _ _ _ _ _ _ _ _ _ _ _ h=>h.elim;have hz:sizeLine=16777216:=acj;have mT:cB=1000000:=rfl;cases op with
 |mul =>
  refine gen Ol λ{R τ ρ σ H d x y v u H' Q} t o e U W s=>?_;cases x with
  |lst f a=>cases y with
   |int j =>
    ext(⟨J,o⟩:qN o);subst o;ext(⟨τt,M,I⟩:U)(⟨p,xs,rfl,E,w⟩:I.nI);refine⟨p,j,xs,rfl,W.isInt,E.lst J.1,by left,by left,by rw[w.length];left,λp' B=>?_⟩;have es:aL H' (upd H' p' (.lst (ap j.toNat xs).flatten)):=aL.upd B;refine s _ _ (e.trans es) (ck.qJ (e.free B) (e.trans es) (aT) ?_);exact(aH.rep (w.gQ t M) j.toNat).imp (λ_ _ h=>a_.same es h) λ_ _ _ _ h=>nd.same es h
   |_=>cases o
  |_=>cases o
 |add =>
  refine gen (Ey.or Jq) λ{R τ ρ σ H d x y v u H' Q} t o e U W s=>?_;cases x with
  |lst f a=>cases y with
   |lst g b =>
    ext(⟨J,o⟩:qN o);subst o;ext(⟨τt,M,I⟩:U)(⟨X4,VA,YW⟩:W)(⟨p,xs,rfl,E,w⟩:I.nI)(⟨p2,O,rfl,Y,P⟩:YW.nI);refine .inl ⟨p,p2,xs,O,rfl,rfl,E.lst J.1,Y.lst J.2.1,by rw[w.length,P.length];left,λp' B=>?_⟩;have es:aL H' (upd H' p' (.lst (xs++O))):=aL.upd B;refine s _ _ (e.trans es) (ck.qJ (e.free B) (e.trans es) (aT) ?_);exact[aN,zak,-aN,-aN]\(aH.uG nd.rS (n:=0) (m:=0) (w.gQ t M) (P.gQ t VA)).imp (λ_ _ h=>a_.same es h) λ_ _ _ _ h=>nd.same es h
   |_=>cases o
  |tup a=>cases y with
   |tup b =>
    ext(⟨J,o⟩:qN o);subst o;ext(⟨τt,M,I⟩:U)(⟨X4,VA,YW⟩:W)(⟨p,xs,rfl,E,w⟩:I.C_)(⟨p2,O,rfl,Y,P⟩:YW.C_);have hl:=w.length;have Af:=P.length;ext(q:aH.uG nd.rS (n:=0) (m:=0) (l:=0) (k:=[]) (w.gQ t M) (P.gQ t VA));rw[aN,aN,<- zak,<- aN]at q;refine .inr ?_;refine⟨p,p2,xs,O,rfl,rfl,E,Y,by rw[hl,Af];left,λz=>?_,λz=>?_,λp' B=>?_⟩
    ·subst z;exact s _ H' e ⟨λ_=>none,λ_ _ h=>by simp at h,.tup Y q⟩
    ·subst z;rw[zaw]at q;exact s _ H' e ⟨λ_=>none,λ_ _ h=>by simp at h,.tup E q⟩
    ·have es:aL H' (upd H' p' (.tup (xs++O))):=aL.upd B;exact s _ _ (e.trans es) ⟨λ_=>none,λ_ _ h=>by simp at h,.tup (a_.of aT) (q.imp (λ_ _ h=>a_.same es h) λ_ _ _ _ h=>nd.same es h)⟩
   |_=>cases o
  |_=>cases o
 |_=>exact gen no λ_ o _ _ _ _=>nk o
end
section
variable {T T':qv}{N N':k_}{P:Fl->Bool}
def Rep.without(a:∀p xs,T p xs->T' p xs)(b:∀k k' p xs f,P f=false->N k p xs f->N' k' p xs f){k:bw}{v:V}{d:D}(h:Rep T N k v d)(e:aW P d=false)(k':bw):Rep T' N' k' v d:=by
 have:=Rep.gen (g:=id) (P:=P) (N':=N') (C:=λ_ _=>True) (I:=λ_ _=>True) a trivial (λ_ _ e=>e) (λ_ _ _ _ e _=>e) (λk k' p xs f _ e h=>b k k' p xs f e h) h (k':=k') trivial e;rw[eY]at this;exact this
def aH.without(a:∀p xs,T p xs->T' p xs)(b:∀k k' p xs f,P f=false->N k p xs f->N' k' p xs f){k:bw}{n:Nat}(h:aH T N k n vs ds)(e:aR P ds=false)(k':bw)(n':Nat):aH T' N' k' n' vs ds:=by
 have:=aH.gen (g:=id) (P:=P) (N':=N') (C:=λ_ _=>True) (I:=λ_ _=>True) a trivial (λ_ _ e=>e) (λ_ _ _ _ e _=>e) (λk k' p xs f _ e h=>b k k' p xs f e h) h (k':=k') (n':=n') trivial trivial e;rw[fh]at this;exact this
def Rep.lB(i:∀p xs,T p xs->T' p xs)(j:∀k p xs f,P f=false->N k p xs f->N' k p xs f){k:bw}{v:V}{d:D}(h:Rep T N k v d)(e:aW P d=false):Rep T' N' k v d:=by
 have:=Rep.gen (g:=id) (P:=P) (N':=N') (C:=λa b=>a=b) (I:=λa b=>a=b) i rfl (λ_ _ e=>by rw[e]) (λ_ _ _ _ a b=>by rw[a,b]) (λk k' p xs f c e h=>by subst c;exact j k p xs f e h) h rfl e;rw[eY]at this;exact this
def aH.lB(d:∀p xs,T p xs->T' p xs)(i:∀k p xs f,P f=false->N k p xs f->N' k p xs f){k:bw}{n:Nat}(h:aH T N k n vs ds)(e:aR P ds=false):aH T' N' k n vs ds:=by
 have:=aH.gen (g:=id) (P:=P) (N':=N') (C:=λa b=>a=b) (I:=λa b=>a=b) d rfl (λ_ _ e=>by rw[e]) (λ_ _ _ _ a b=>by rw[a,b]) (λk k' p xs f c e h=>by subst c;exact i k p xs f e h) h rfl rfl e;rw[fh]at this;exact this
end
def Rep.mP{R:af}{H:Hp}{k:bw}{v:V}{d:D}(h:Rep (a_ K H) (nd K R ⇑7 ⇑8 H) k v d):Rep (a_ K H) (nd K R ⇑7 ⇑8 H) k' v d:=by
 have:=Rep.jA (g:=id) ⇑10 nd.rS h k';rw[eY]at this;exact this
inductive jt(X:Cx)(R:af)(τ:Addr->Option bw)(H:Hp)(v:V)(d:D):Prop where
 |mk (τt:Addr->Option bw) (h1:∀p q,τt p=↥q->τ p=none/\¬ R p/\X.H₀ p=none/\H p≠none) (h2:Rep (a_ X.K H) (nd X.K R ⇑7 τt H) [] v d)
section
variable {X:Cx}{F R:af}{τ:Addr->Option bw}{ρ:aV}{σ:St}{H H':Hp}
meta def xP(i:Nat)(τt τ:Addr->Option bw):Addr->Option bw:=λp=>match τt p with|↥q=>↥(q++[i])|none=>τ p
def SI.SW{i:Nat}{v:V}{d:D}(a:SI X F R τ ρ σ H)(e:∀p q,τt p=↥q->τ p=none/\¬ R p/\X.H₀ p=none/\H p≠none)(o:Rep (a_ X.K H) (nd X.K R ⇑7 τt H) [] v d)(n:i<ρ.length):SI X F R (xP i τt τ) (ρ.set i ↥d) (σ.set i ↥v) H:=by
 refine⟨by simp[a.len],λj d' g=>?_,λp m=>?_,a.rh,a.rf,λp q b=>?_,λp q b=>?_,a.same⟩
 ·by_cases l:j=i
  ·subst l;rw[eo n]at g;cases g;refine⟨v,abM ([-a.len]\n),o.imp (q':=[j]) ⇑10 λc p xs f h=>?_⟩;cases f with
   |ow=>rw[zaw]at h;exact⟨h.1,by simp only[xP,h.2]⟩
   |fz=>exact h
   |al=>exact h
   |sc=>exact h
  ·rw[cb (ip l)]at g;ext(⟨w,hw,r⟩:a.rep j d' g);refine⟨w,[cb (ip l)]\hw,r.imp ⇑10 λc p xs f h=>?_⟩;cases f with
   |ow =>
    refine⟨h.1,?_⟩;cases q:τt p with
    |none=>simp only[xP,q];exact h.2
    |some k=>have:=(e p k q).1;rw[h.2]at this;cases this
   |fz=>exact h
   |al=>exact h
   |sc=>exact h
 ·cases q:τt p with
  |none=>simp only[xP,q];exact a.rt p m
  |some k=>exact absurd m (e p k q).2.1
 ·cases z:τt p with
  |none=>simp only[xP,z]at b;exact a.th p q b
  |some k=>exact(e p k z).2.2.2
 ·cases z:τt p with
  |none=>simp only[xP,z]at b;exact a.t0 p q b
  |some k=>exact(e p k z).2.2.1
theorem SI.set{i:Nat}{v:V}{d:D}(e:SI X F R τ ρ σ H)(r:jt X R τ H v d)(c:i<ρ.length):∃τ',SI X F R τ' (ρ.set i ↥d) (σ.set i ↥v) H:=by
 ext(⟨τt,b,a⟩:r);exact⟨_,e.SW b a c⟩
def B4{k:bw}{v:V}{d:D}(h:Rep (a_ X.K H) (nd X.K R ⇑7 τ H) k v d)(a:aW cq d=false):jt X R τ H v d :=
 ⟨λ_=>none,λ_ _ h=>by simp at h,Rep.without (P:=cq) ⇑10 (λk k' p xs f b h=>by
  cases f with
  |ow=>cases b
  |fz=>exact h
  |al=>exact h.2.elim
  |sc=>exact h) h a _⟩
open Classical in
def SI.move{i:Nat}{d:D}(a:SI X F R τ ρ σ H)(hd:ρ[i]?=↥↥d):∃v τ',σ[i]?=↥↥v/\SI X F R τ' (ρ.set i none) σ H/\jt X R τ' H v d:=by
 ext(⟨v,o,m⟩:a.rep i d hd);refine⟨v,λp=>match τ p with|↥q=>if q.getLast?=↥i then none else ↥q|none=>none,o,⟨by simp[a.len],λj d' e=>?_,λp r=>?_,a.rh,a.rf,λp q b=>?_,λp q b=>?_,a.same⟩,
  λp=>match τ p with|↥q=>if q.getLast?=↥i then(if H p=none then none else ↥q.dropLast)else none|none=>none,λp q b=>?_,m.imp (q:=[i]) (q':=[]) ⇑10 λc p xs f h=>?_⟩
 ·by_cases g:j=i
  ·subst g;rw[xz]at e;simp at e
  ·rw[cb (ip g)]at e;ext(⟨w,hw,n⟩:a.rep j d' e);refine⟨w,hw,n.imp (q:=[j]) (q':=[j]) ⇑10 λc p xs f h=>?_⟩;cases f with
   |ow =>
    refine⟨h.1,?_⟩;simp only[h.2];rw[zab (by simp;exact g)]
   |fz=>exact h
   |al=>exact h
   |sc=>exact h
 ·simp only[a.rt p r]
 ·cases z:τ p with
  |none=>simp only[z]at b;cases b
  |some k=>exact a.th p k z
 ·cases z:τ p with
  |none=>simp only[z]at b;cases b
  |some k=>exact a.t0 p k z
 ·cases z:τ p with
  |none=>simp only[z]at b;cases b
  |some k =>
   simp only[z]at b ⊢;by_cases l:k.getLast?=↥i
   ·exact[zac l]\⟨rfl,(λhR=>by have:=a.rt p hR;rw[z]at this;cases this),a.t0 p k z,a.th p k z⟩
   ·rw[zab l]at b;cases b
 ·cases f with
  |ow =>
   refine⟨h.1,?_⟩;have s:H p≠none:=h.1.ne;simp only[h.2];rw[zac ⇑5,zab s];simp
  |fz=>exact h
  |al=>exact h.2.elim
  |sc=>exact h
def Ap(is:aS)(ρ:aV)(j:Nat)(d:D)(h:(iH is ρ)[j]?=↥↥d):∃d',ρ[j]?=↥↥d'/\d=(if j∈is then aJ aK d' else d'):=by
 unfold iH at h;rw[li]at h;cases q:ρ[j]? with
 |none=>rw[q]at h;exact nk h
 |some o =>
  rw[q]at h;cases o with
  |none=>simp at h
  |some d' =>
   refine⟨d',rfl,?_⟩;by_cases a:j∈is
   ·simp[a]at h ⊢;exact h.symm
   ·simp[a]at h ⊢;exact h.symm
open Classical in
def Aq(b:SI X F R τ ρ σ H)(es:aL H H'):
  ∃R' τ',(∀p,R p->R' p)/\SI X F R' τ' (iH fv ρ) σ H'/\∀τt:Addr->Option bw,(∀p q,τt p=↥q->H p=none)->∀(k k':bw) (p:Addr) (xs:Nd) (f:Fl),nd X.K R (k9 (gP X F) τ fv) τt H' k p xs f->nd X.K R' ⇑7 ⇑8 H' k' p xs (aK f):=by
 ext(g:b.go es);have fresh:∀p,H p=none->k9 (gP X F) τ fv p:=λp a=>⟨.inr (b.same.free a),λc i e=>absurd a (b.th p _ e)⟩
 refine⟨λp=>R p\/(H' p≠none/\k9 (gP X F) τ fv p),λp=>if k9 (gP X F) τ fv p then none else τ p,λp h=>.inl h,⟨by simp[iH,b.len],λj d' o=>?_,λp a=>?_,λp a=>?_,λp a=>?_,λp q d=>?_,λp q d=>?_,g.same⟩,λτt s k k' p xs f h=>?_⟩
 ·ext(⟨d0,r,e0⟩:Ap _ _ _ _ o)(⟨w,hw,m⟩:g.rep j d0 r);refine⟨w,hw,?_⟩;by_cases l:j∈fv
  ·rw[zac l]at e0;subst e0;refine Rep.map (q:=[j]) (q':=[j]) ⇑10 (λc p xs f h=>?_) m [] rfl;cases f with
   |ow =>
    refine⟨h.1,.inr ⟨h.1.ne,.inr (b.t0 p _ h.2),λc' t n=>?_⟩⟩;rw[h.2]at n;have:=aa5 re (aaI n);simp at this;subst this;exact l
   |fz=>exact⟨h.1,.inl h.2⟩
   |al=>exact h.2.elim
   |sc=>exact h
  ·rw[zab l]at e0;subst e0;refine m.imp (q:=[j]) (q':=[j]) ⇑10 λc p xs f h=>?_;cases f with
   |ow =>
    refine⟨h.1,?_⟩;show(if k9 (gP X F) τ fv p then none else τ p)=↥(c++[j]);exact[zab (λz=>l (z.2 c j h.2))]\h.2
   |fz=>exact⟨h.1,.inl h.2⟩
   |al=>exact h.2.elim
   |sc=>exact h
 ·ext((a|a):a)
  ·simp only[b.rt p a];split<;>rfl
  ·rw[zac a.2]
 ·ext((a|a):a)
  ·exact g.rh p a
  ·exact a.1
 ·ext((a|a):a)
  ·exact b.rf p a
  ·exact a.2.1
 ·split at d
  ·cases d
  ·exact g.th p q d
 ·split at d
  ·cases d
  ·exact b.t0 p q d
 ·cases f with
  |ow=>exact⟨h.1,.inr ⟨h.1.ne,fresh p (s p _ h.2)⟩⟩
  |fz=>exact⟨h.1,.inl h.2⟩
  |al=>exact⟨h.1,.inr ⟨h.1.ne,h.2⟩⟩
  |sc=>exact h
def ue{v:V}{d:D}(i:SI X F R τ ρ σ H)(es:aL H H')(r:ck X.K (gP X F) R τ fv H H' v d):
  ∃R' τ',(∀p,R p->R' p)/\SI X F R' τ' (iH fv ρ) σ H'/\Rep (a_ X.K H') (nd X.K R' ⇑7 ⇑8 H') [] v (aJ aK d):=by
 ext(⟨τt,g,a⟩:r)(⟨R',τ',e,c,b⟩:Aq (fv:=fv) i es);exact⟨R',τ',e,c,Rep.jA ⇑10 (b τt g) a _⟩
def wt(g:SI X F R τ ρ σ H)(es:aL H H')(r:cW X.K (gP X F) R τ fv H H' vs ds):
  ∃R' τ',(∀p,R p->R' p)/\SI X F R' τ' (iH fv ρ) σ H'/\aH (a_ X.K H') (nd X.K R' ⇑7 ⇑8 H') [] 0 vs (ao aK ds):=by
 ext(⟨τt,e,a⟩:r)(⟨R',τ',d,c,b⟩:Aq (fv:=fv) g es);exact⟨R',τ',d,c,aH.jA ⇑10 (b τt e) a _ _⟩
def j5{v:V}{d:D}(h:Rep (a_ X.K H) (nd X.K R ⇑7 ⇑8 H) [] v d):jt X R τ' H v d:=⟨λ_=>none,λ_ _ h=>by simp at h,h⟩
open Classical in
protected def Me{e:CE}{v:V}{d:D}(c:SI X F R τ ρ σ H)(es:aL H H')(r:ck X.K (gP X F) R τ (gK e) H H' v d):
  ∃R' τ',(∀p,R p->R' p)/\SI X F R' τ' (keep e d ρ).2 σ H'/\jt X R' τ' H' v (keep e d ρ).1:=by
 unfold keep;by_cases b:aW bS d=true
 ·rw[zac b];ext(⟨R',τ',n,m,l⟩:ue c es r);exact⟨R',τ',n,m,j5 l⟩
 ·ext(⟨τt,o,i⟩:r);rw[zab b];refine⟨R,τ,λ_ h=>h,c.go es,λp=>if H' p=none then none else τt p,λp q g=>?_,?_⟩
  ·try dsimp only at g
   split at g
   ·cases g
   ·rename_i j;ext(a:o p q g);refine⟨?_,λhR=>c.rh p hR a,c.same.free a,j⟩;cases z:τ p with
    |none=>rfl
    |some k=>exact absurd a (c.th p k z)
  ·have s:aW bS d=false:=⇑b
   have st:∀{k:bw} {v:V} {d:D},Rep (a_ X.K H') (nd X.K R (k9 (gP X F) τ (gK e)) τt H') k v d->aW bS d=false->Rep (a_ X.K H') (nd X.K R ⇑7 (λp=>if H' p=none then none else τt p) H') k v d:=by
    intro k v d h b;exact Rep.lB (P:=bS) ⇑10 (λk p xs f a h=>by
     cases f with
     |ow=>exact⟨h.1,by show(if H' p=none then none else τt p)=_;rw[zab (h.1.ne)];exact h.2⟩
     |fz=>exact h
     |al=>cases a
     |sc=>exact h) h b
   exact st i s
open Classical in
inductive tK(X:Cx)(F:af)(Φ:aY)(c:CE)(σ:St)(H:Hp)(Q:VK):Prop where
 |mk (R:af) (τ:Addr->Option bw) (ρ:aV) (r:D×aV) (h1:SI X F R τ ρ σ H) (h2:kc Φ c ρ=ok r) (h3:∀v H' R' τ',aL H H'->(∀p,R p->R' p)->SI X F R' τ' r.2 σ H'->jt X R' τ' H' v r.1->Q v H')
end
theorem k7{env:Env}:∀(names:List (Str×nR)) (b:List (Str×Addr)),(∀x,(x,eu)∈names->∃c,env.cells.lookup x=↥c) ->
  ∃d,(forIn names b (λ(y:Str×nR) (cs:List (Str×Addr))=>do
    let (name,kind):=y
    let mut cs:=cs
    if kind==.free then cs:=(name,<- cellOf env name)::cs
    pure (lV cs)):Sem (List (Str×Addr)))=pure d /\
   (∀x c,d.lookup x=↥c->b.lookup x=↥c\/(env.cells.lookup x=↥c/\(x,eu)∈names))/\(∀x,((x,eu)∈names\/(∃c,b.lookup x=↥c))->∃c,d.lookup x=↥c)
 |[],b,_=>⟨b,rfl,λx c h=>.inl h,λx h=>h.elim (λh=>nomatch h) id⟩
 | (n,kd)::names,b,h=>by
  by_cases i:kd=.free
  ·subst i;ext(⟨c,l⟩:h n aag)(⟨d,e,k,j⟩:k7 names ((n,c)::b) (λx a=>h x (aaj _ a)));refine⟨d,?_,λx c' a=>?_,λx a=>?_⟩
   ·rw[zbW];have e0:cellOf env n=pure c:=by unfold cellOf;rw[l]
    simp only[zbd,if_true,e0,pure_bind];exact e
   ·ext((z|z):k x c' a)
    ·by_cases g:x=n
     ·subst g;simp at z;subst z;exact .inr ⟨l,aag⟩
     ·rw[zan]at z;have:(x==n)=false:=⇑g
      rw[this]at z;exact .inl z
    ·exact .inr ⟨z.1,aaj _ z.2⟩
   ·refine j x ?_;ext((a|⟨c',a⟩):a)
    ·ext((z|z):c0.mp a)
     ·cases z;exact .inr ⟨c,by simp⟩
     ·exact .inl z
    ·by_cases g:x=n
     ·subst g;exact .inr ⟨c,by simp⟩
     ·refine .inr ⟨c',?_⟩;rw[zan];have:(x==n)=false:=⇑g
      exact[this]\a
  ·ext(⟨d,e,k,j⟩:k7 names b (λx a=>h x (aaj _ a)));have m:(kd==eu)=false:=⇑i
   refine⟨d,?_,λx c' a=>(k x c' a).imp id λz=>⟨z.1,aaj _ z.2⟩,λx a=>j x ?_⟩
   ·rw[zbW];simp only[m,zaq,if_false,pure_bind];exact e
   ·ext((a|a):a)
    ·ext((z|z):c0.mp a)
     ·cases z;exact absurd rfl i
     ·exact .inl z
    ·exact .inr a
variable {env:Env}
def yI{sc:Scope}(h:∀x,(x,eu)∈sc.names->∃c,env.cells.lookup x=↥c):
  ∃a,closureFor sc env=pure a/\(∀x c,a.lookup x=↥c->env.cells.lookup x=↥c)/\(∀x,(x,eu)∈sc.names->∃c,a.lookup x=↥c):=by
 ext(⟨a,e,g,d⟩:k7 (env:=env) sc.names [] h);refine⟨a,?_,λx c b=>(g x c b).elim (λz=>by simp at z) (·.1),λx b=>d x (.inl b)⟩;unfold closureFor;simp only[bind_pure];exact e
variable {P prog:aG}{e1 e2 kr iter o target tg value:Expr}{w:World}
def uk{A:aF}{R:yaz->am->Prop}{s:am}{elt:Expr}{p:aj}{scope:Scope}{it q:Value}(I:Nat->am->Prop)
  (turn:∀n s,I n s->⇑1 (o1 it) (λr a=>match r with
   |none=>R (.ok .next) a
   |some v=>⇑1 (v6 target it v) (λ_ a=>⇑1 (Aj target env v) (λ_ d =>
     ⇑1 (forIn p true λc r=>if r=true then do let ok <- Rv c env (eval c env);pure (lV ok)else pure (lV r)) (λok b =>
      if ok=true then ⇑1 (eval elt env) (λx j =>
       ⇑1 (call (.builtin "list.append") [q,x]) (λ_ i=>∃m,m<n/\I m i) (λ_ _=>False) j) (λ_ _=>False) b
      else ∃m,m<n/\I m b) (λ_ _=>False) d) (λ_ _=>False) a) (λ_ _=>False) a) (λ_ _=>False) s)
  (n:Nat) (h:I n s) :
  pp (model prog w) A (.compLoop (.ListComp elt [⟨target,iter,p,0⟩] scope pos) 0 it q env) R s:=by
 refine codeAny_loop rfl I (λn s y=>?_) n h;show wpAny _ A ((compTurn (.ListComp elt [⟨target,iter,p,0⟩] scope pos) 0 it q env).onRaise (λx=>do noteFrame x env;theTreesLotGoes x)) _ _ s;refine wpAny_noted ?_;rw[compTurn_list];refine aab (ad8 (aab (aaX (turn n s y) (λr a l=>?_) λ_ _ g=>g.elim)));cases r with
 |none=>exact aaf l
 |some v =>
  refine aab (aaX l (λ_ d e=>?_) λ_ _ g=>g.elim);refine aab (aaX e (λ_ d e=>aab (aaX e (λok b k=>?_) λ_ _ g=>g.elim)) λ_ _ g=>g.elim);cases ok with
  |false=>exact aaf ⟨rfl,k⟩
  |true =>
   exact aab (aab (aaX k (λx j u=>aab (aaX u (λ_ i t=>aaf (aaf ⟨rfl,t⟩)) λ_ _ g=>g.elim)) λ_ _ g=>g.elim))
meta def eT(X:Cx)(N':aq)(scope:Scope)(cl:List (Str×Addr))(C:Addr)(s₀:am)(H₀:Hp)(fp:aX):Cx :=
 { X with N:=N',s₀:=s₀,H₀:=H₀,env:=compEnvC scope cl C X.env,outer:=X.stack,stack:=X.stack,ex:=fp,fn:=λ_=>false,pn:=[],xe:=λ_ _=>False }
theorem f_{env:Env}:∀{names:List (Str×nR)} {x:Str} {kd:nR},(names.map λ(n,k)=>if (k==eu&&env.scope.kind==.function&&env.kindOf n==↥.cell)then(n,t_)else(n,k)).lookup x=↥kd ->
  names.lookup x=↥kd\/(kd=.cell/\names.lookup x=↥.free)
 |[],_,_,h=>by simp at h
 | (n,k)::r,x,kd,h=>by
  rw[zam]at h;cases a:x==n with
  |true =>
   by_cases b:(k==eu&&env.scope.kind==.function&&env.kindOf n==↥.cell)=true
   ·simp only[b,if_true,zan,a]at h;cases h;simp only[zag,beq_iff_eq]at b;refine .inr ⟨rfl,?_⟩;rw[zan,a,b.1.1]
   ·have c:(k==eu&&env.scope.kind==.function&&env.kindOf n==↥.cell)=false:=⇑b
    simp only[c,zaq,if_false,zan,a]at h;cases h;exact .inl ⇑[zan,a]
  |false =>
   have:D6 x (r.map λ(n,k)=>if (k==eu&&env.scope.kind==.function&&env.kindOf n==↥.cell)then(n,t_)else(n,k))=↥kd:=by
    by_cases b:(k==eu&&env.scope.kind==.function&&env.kindOf n==↥.cell)=true
    ·simp only[b,if_true,zan,a]at h;exact h
    ·have c:(k==eu&&env.scope.kind==.function&&env.kindOf n==↥.cell)=false:=⇑b
     simp only[c,zaq,if_false,zan,a]at h;exact h
   exact[zan,a]\f_ this
theorem dF{env:Env}:∀{names:List (Str×nR)} {x:Str},names.lookup x=↥.free ->
  (names.map λ(n,k)=>if (k==eu&&env.scope.kind==.function&&env.kindOf n==↥.cell)then(n,t_)else(n,k)).lookup x=↥.free \/
  (names.map λ(n,k)=>if (k==eu&&env.scope.kind==.function&&env.kindOf n==↥.cell)then(n,t_)else(n,k)).lookup x=↥.cell
 |[],_,h=>by simp at h
 | (n,k)::r,x,h=>by
  rw[zam];cases a:x==n with
  |true =>
   rw[zan,a]at h;cases h;by_cases b:(eu==eu&&env.scope.kind==.function&&env.kindOf n==↥.cell)=true
   ·simp only[b,if_true,zan,a];exact .inr trivial
   ·have c:(eu==eu&&env.scope.kind==.function&&env.kindOf n==↥.cell)=false:=⇑b
    simp only[c,zaq,if_false,zan,a];exact .inl trivial
  |false =>
   rw[zan,a]at h;by_cases b:(k==eu&&env.scope.kind==.function&&env.kindOf n==↥.cell)=true
   ·simp only[b,if_true,zan,a];exact dF h
   ·have c:(k==eu&&env.scope.kind==.function&&env.kindOf n==↥.cell)=false:=⇑b
    simp only[c,zaq,if_false,zan,a];exact dF h
def dT{names:List (Str×nR)}{x:Str}{kd:nR}(h:names.lookup x=↥kd):(x,kd)∈names:=acd h
structure lq(S:Sx)(n:Nat)(t:Tg)(caps:aS)(target:Expr)(sc:Scope):Prop where
 kind:sc.kind=.function
 EG:∀y∈sc.names,y.2≠.cell
 loc:∀y∈sc.names,y.2=.local->sc.names.lookup y.1=↥.local
 free:∀x,(x,eu)∈sc.names->S.sc.names.lookup x=↥.cell\/S.sc.names.lookup x=↥.free
 n:n=(cC target).length
 tl:∀x∈cC target,sc.names.lookup x=↥.local
 nd:(cC target++gZ S caps).Nodup
 cB:∀i∈caps,∃x,S.N[i]?=↥x/\sc.names.lookup x=↥.free
 tg:(∃x p,t=.nm 0/\target=.Name x p)\/(∃es k p,t=.tp (eg es.length)/\target=.Tuple es k p/\es.all isNm=true)
protected def r9{n:Nat}{t:Tg}{sc:Scope}(h:uu S n t caps target sc=true):lq S n t caps target sc:=by
 unfold uu at h;simp only[zag,decide_eq_true_eq,zaM,zbj]at h;ext(⟨⟨⟨⟨⟨⟨C,b⟩,B⟩,v⟩,u⟩,s⟩,j⟩:h);refine⟨C,λy a=>(b y a).1.1,λy a q=>?_,λx l=>?_,B,v,u,λi r=>?_,?_⟩
 ·rcases(b y a).1.2 with z|z
  ·exact absurd q z
  ·exact z
 ·rcases(b _ l).2 with (z|z)|z
  ·exact absurd rfl z
  ·exact .inl z
  ·exact .inr z
 ·have:=s i r;split at this
  ·rename_i x e;exact⟨x,e,aac this⟩
  ·cases this
 ·cases t with
  |nm i =>
   ext(⟨d,c⟩:aC j);obtain rfl:i=0:=aac d;ext(⟨x,p,rfl⟩:ou c);exact .inl ⟨x,p,rfl,rfl⟩
  |tp is =>
   ext(⟨es,m,g⟩:bu j)(⟨k,p,rfl⟩:jU m)(⟨d,c⟩:aC g);obtain rfl:is=_:=aac d;exact .inr ⟨es,k,p,rfl,rfl,c⟩
theorem w9{S:Sx}:∀{caps:aS},(∀i∈caps,∃x,S.N[i]?=↥x)->(gZ S caps).length=caps.length/\∀(j i:Nat),caps[j]?=↥i->(gZ S caps)[j]?=S.N[i]?
 |[],_=>⟨rfl,λj i h=>by simp at h⟩
 |i::caps,h=>by
  ext(⟨x,b⟩:h i aag)(⟨d,c⟩:w9 (caps:=caps) λj a=>h j (aaj _ a));have e:gZ S (i::caps)=x::gZ S caps:=by unfold gZ;rw[zaX,b]
  rw[e];refine⟨by simp[d],λj k a=>?_⟩;cases j with
  |zero=>simp at a;subst a;simp[b]
  |succ j=>simp at a ⊢;exact c j k a
variable {base h h' h₁:Heap}
section
variable {X:Cx}{S:Sx}{k:Nat}{Φ:aY}{pins:au}{σ:St}{H2:Hp}{s₂:am}
meta def qB(n:Nat)(caps:aS)(σ:St):St:=ap n none++caps.map λi=>σ[i]?.getD none
meta def fA(a:aw)(n:Nat):Obj:={ cls:=.type "list",data:=.seq a.toArray n }
def KN{n:Nat}{t:Tg}{sc:Scope}{cl:List (Str×Addr)}(L:Lk X S k Φ)(m:lq S n t caps target sc)(a:Inv X pins σ H2 s₂)
  (j:∀x c,cl.lookup x=↥c->X.env.cells.lookup x=↥c) (l:∀x,(x,eu)∈sc.names->∃c,cl.lookup x=↥c) (i:∀b∈fp,qq X pins H2 b) (u:∀b∈fp,b<s₂.heap.objs.size) :
  (eT X (cC target++gZ S caps) sc cl (s₂.heap.objs.size+1) s₂ H2 fp).Ok:=by
 have s:=a.kJ;refine⟨a.ok.mod,m.kind,a.ok.glob,a.ok.blt,ady _,λx y c r q=>a.ok.inj x y c (j x c r) (j y c q),λx p=>?_,(λ_ _ z=>by cases z),a.ok.hd,a.ok.frames,.inl rfl,λb d=>⟨?_,λx c e=>(i b d).2.2.2.2.1 x c (j x c e)⟩,a.bs,aav a.ok.G7 a.sz,λb o e d=>?_,λb d z=>?_,a.stack,a.lJ⟩
 ·have g:(relabel sc X.env).names.lookup x=↥.cell\/(relabel sc X.env).names.lookup x=↥.free:=p;ext((g|g):g)
  ·ext((z|z):f_ g)
   ·exact absurd rfl (m.EG _ (dT z))
   ·exact l x (dT z.2)
  ·ext((z|z):f_ g)
   ·exact l x (dT z)
   ·cases z.1
 ·exact aaw (abG (u b d))
 ·rcases(i b d).2.2.2.1 with z|z
  ·exact a.ok.vS b o e z
  ·exact absurd (aam (aan e) (aav a.ok.G7 z)) (abb _)
 ·rcases c0.mp (s b z)with w|w
  ·exact(i b d).2.1 w
  ·exact(i b d).2.2.1 w
def Fy{n:Nat}{t:Tg}{sc:Scope}{cl:List (Str×Addr)}{tk:Nat}(L:Lk X S k Φ)(d:lq S n t caps target sc)(a:Inv X pins σ H2 s₂)
  (B:∀x c,cl.lookup x=↥c->X.env.cells.lookup x=↥c) (W:∀x,(x,eu)∈sc.names->∃c,cl.lookup x=↥c) (J7:∀b∈fp,qq X pins H2 b) (Pr:∀b∈fp,b<s₂.heap.objs.size)
  (CM:h₁.Ns (s₂.heap.objs.size+1) λ_=>none) (old:∀b o,s₂.heap.get? b=↥o->h₁.get? b=↥o) (dG:h₁.get? s₂.heap.objs.size=↥(fA [] 0)) :
  Inv (eT X (cC target++gZ S caps) sc cl (s₂.heap.objs.size+1) s₂ H2 fp) [(s₂.heap.objs.size,fA [] 0)] (qB n caps σ) H2 { s₂ with heap:=h₁,toks:=tk }:=by
 have Z:∀i∈caps,∃x,S.N[i]?=↥x:=λi g=>let ⟨x,e,_⟩:=d.cB i g;⟨x,e⟩;obtain⟨U,R⟩:=w9 Z;refine⟨KN L d a B W J7 Pr,rfl,a.bare,Un.kept old,⟨_,CM,λi x v e1 e2 e3=>?_⟩,λx c e=>?_,a.cI.fresh (ady _),λx c e=>a.gc x c (B x c e),λp hp=>?_,a.cI.kept old,?_⟩
 ·unfold qB at e2;have g:n<=i:=by
   by_cases g:i<n
   ·rw[d7 ⇑g,hY,zac g]at e2;cases e2
   ·left
  have E:(cC target++gZ S caps)[i]?=↥x:=e1;rw[d6 ([-d.n]\g),<- d.n]at E;rw[d6 ⇑g,zaP,bv]at e2;cases C:caps[i - n]? with
  |none=>rw[C]at e2;cases e2
  |some s =>
   rw[C]at e2;rw[R _ _ C]at E;ext(⟨x',j,H⟩:d.cB s (aa6 C));rw[j]at E;cases E;have O:σ[s]?=↥↥v:=by
    have y:σ[s]?.getD none=↥v:=aaI e2;cases q:σ[s]? with
    |none=>rw[q]at y;cases y
    |some o=>rw[q]at y;simp at y;rw[y]
   have ZQ:MY X.env.scope x:=by
    unfold MY;rw[L.sc];rcases d.free x (dT H)with z|z
    ·exact .inr (.inl z)
    ·exact .inr (.inr z)
   ext(⟨m,hn,hl⟩:a.loc)(⟨u,r,lk⟩:hl s x v ([L.N]\j) O ZQ);refine⟨u,r,.inr ⟨?_,?_⟩⟩
   ·ext((z|z):dF (env:=X.env) H)
    ·exact .inr z
    ·exact .inl z
   ·have M:∃c,X.env.cells.lookup x=↥c/\s₂.heap.IsCell c ↥u:=by
     ext((⟨z,_⟩|⟨_,z⟩):lk)
     ·have I:X.env.scope.names.lookup x=↥.local:=z;rw[L.sc]at I;rcases d.free x (dT H)with w|w<;>(rw[w]at I;cases I)
     ·exact z
    ext(⟨c,ec,o,J,hd⟩:M)(⟨c',l⟩:W x (dT H));have:=B x c' l;rw[ec]at this;cases this;exact⟨c,l,o,old _ _ J,hd⟩
 ·ext(⟨v,o,J,hd⟩:a.cell x c (B x c e));exact⟨v,o,old _ _ J,hd⟩
 ·have Y:p=(s₂.heap.objs.size,fA [] 0):=by simpa [eT]using hp
  subst Y;refine⟨dG,a.cI.fresh (aao _),aaw (abc _),λz=>?_,λv z=>by cases z⟩;rcases c0.mp (a.kJ _ z)with w|w
  ·exact absurd w (aaH a.lt)
  ·exact a.Ox (aao _) w
 ·show(qB n caps σ).length=(cC target++gZ S caps).length;unfold qB;rw[zaf,zaf,zaP,zaa,U,d.n]
end
open Classical in
theorem cW.snoc{K:av}{G R:af}{τ:Addr->Option bw}{fv:aS}{H H1 H2:Hp}{v:V}{d:D}{vs:ah}{ds:aa}(e1:aL H H1)(e2:aL H1 H2)(h:cW K G R τ fv H H1 vs ds)(t:ck K G R τ fv H1 H2 v d):
  cW K G R τ fv H H2 (vs++[v]) (ds++[d]):=by
 ext(⟨b,l,j⟩:h)(⟨a,k,i⟩:t);refine⟨λp=>if H1 p=none then(a p).map (· ++ [ds.length])else b p,λp q e=>?_,aH.snoc (j.imp (q:=[]) (q':=[]) (λ_ _ h=>a_.same e2 h) λc p xs f h=>?_) ((ybV ds.length).symm▸i.imp (q:=[]) (q':=[ds.length]) ⇑10 λc p xs f h=>?_)⟩
 ·replace e:(if H1 p=none then(a p).map (· ++ [ds.length])else b p)=↥q:=e;by_cases g:H1 p=none
  ·exact e1.free g
  ·rw[zab g]at e;exact l p q e
 ·ext(h':nd.same e2 h);cases f with
  |ow =>
   refine⟨h'.1,?_⟩;show(if H1 p=none then(a p).map (· ++ [ds.length])else b p)=_;exact[zab (h.1.ne)]\h.2
  |fz=>exact h'
  |al=>exact h'
  |sc=>exact h'
 ·cases f with
  |ow =>
   refine⟨h.1,?_⟩;show(if H1 p=none then(a p).map (· ++ [ds.length])else b p)=_;rw[zac (k p _ h.2),h.2];simp
  |fz=>exact h
  |al=>exact h
  |sc=>exact h
structure Yl(K:av)(J:It)(R:af)(H1:Hp)(items:aa):Prop where
 go:∀i H',aL H1 H'->i<items.length->J.go i H'
 y8:∀i H' x kF,aL H1 H'->i<items.length->J.y8 i H' x kF->aL H' kF/\∃d,items[i]?=↥d/\Rep (a_ K kF) (nd K R ⇑7 ⇑8 kF) [] x d
 stop:∀i H',aL H1 H'->items.length<=i->J.stop i H'
variable {C i1 i2 l1 l2:Addr}{s₂:am}
section
variable {X:Cx}{S:Sx}{k:Nat}{F:af}{Φ:aY}
def lM(X:Cx)(F:af)(τ:Addr->Option bw)(fv:aS)(H2:Hp)(p:Addr):Prop:=H2 p≠none/\k9 (gP X F) τ fv p
def xX{R:af}{H:Hp}(a:SI X F R τ ρ σ H)(b:∀p q,τt p=↥q->H p=none)(hs:∀i∈fv,i∈fv')(g d:bw)(p:Addr)(xs:Nd)(f:Fl)
  (h:nd X.K R (k9 (gP X F) τ fv) τt H2 g p xs f):nd X.K (lM X F τ fv' H2) ⇑7 ⇑8 H2 d p xs (aK f):=by
 cases f with
 |ow=>exact⟨h.1,h.1.ne,.inr (a.same.free (b p _ h.2)),λc i e=>absurd (b p _ h.2) (a.th p _ e)⟩
 |fz=>exact⟨h.1,h.1.ne,a.rf p h.2,λc i e=>by rw[a.rt p h.2]at e;cases e⟩
 |al=>exact⟨h.1,h.1.ne,h.2.mono hs⟩
 |sc=>exact h
def CW{S:Hp->Addr->ah->Prop}{a:Addr}{R:af}{q:bw}(go:∀{H'},aL H1 H'->S H' a xs)(rs:aH (a_ X.K H1) (nd X.K R ⇑7 ⇑8 H1) q 0 xs items):Yl X.K (RZ S a) R H1 items where
 go:=λi H' e b=>⟨xs,xs[i]'([rs.length]\b),go e,aaA _⟩
 y8:=λi H' x j e b y=>by
  ext(⟨rfl,y⟩:y)(⟨d,hd,c⟩:rs.F3 (y xs (go e)));refine⟨aL.refl _,d,hd,?_⟩;have:=Rep.jA (g:=id) ⇑10 nd.rS c [];rw[eY]at this;exact this.imp (λ_ _ h=>a_.same e h) λ_ _ _ _ h=>nd.same e h
 stop:=λi H' e b=>⟨xs,go e,[rs.length]\b⟩
def CY{lo:Int}{n:Nat}{R:af}:Yl X.K (CD lo n) R H1 ((eg n).map λ(k:Nat)=>D.int (lo+(k:Int))) where
 go:=λi H' e a=>by simpa [CD]using a
 y8:=λi H' x c e a y=>by
  ext(⟨rfl,rfl⟩:y);have b:i<n:=⇑a
  exact⟨aL.refl _,.int (lo+i),by rw[bv,vj b];rfl,.int _⟩
 stop:=λi H' e a=>by simpa [CD]using a
def DG{n:Nat}{t:Tg}{sc:Scope}{cl:List (Str×Addr)}{R:af}(m:SI X F R τ ρ σ H2)(hs:∀i∈caps,i∈fv):
  SI (eT X (cC target++gZ S caps) sc cl C s₂ H2 fp) (k9 (gP X F) τ fv) (lM X F τ fv H2) ⇑8 (bL n caps ρ) (qB n caps σ) H2:=by
 refine⟨by simp[bL,qB],λi d a=>?_,λ_ _=>rfl,λp h=>h.1,λp h=>.inl h.2,λ_ _ h=>by simp at h,λ_ _ h=>by simp at h,aL.refl _⟩;unfold bL at a;have j:n<=i:=by
  by_cases j:i<n
  ·rw[d7 ⇑j,hY,zac j]at a;cases a
  ·left
 rw[d6 ⇑j,zaP,bv]at a;cases l:caps[i - n]? with
 |none=>rw[l]at a;exact nk a
 |some b =>
  rw[l]at a;have g:(ρ[b]?.getD none).map (aJ aK)=↥d:=aaI a;have u:∃d0,ρ[b]?=↥↥d0/\aJ aK d0=d:=by
   cases q:ρ[b]? with
   |none=>rw[q]at g;cases g
   |some o =>
    cases o with
    |none=>rw[q]at g;cases g
    |some d0=>rw[q]at g;exact⟨d0,rfl,aaI g⟩
  ext(⟨d0,y,rfl⟩:u)(⟨v,s,r⟩:m.rep b d0 y);refine⟨v,?_,Rep.jA ⇑10 (λB z p xs f h=>?_) ((r.imp (q:=[b]) (q':=[b]) (N':=λq p xs f=>nd X.K R ⇑7 τ H2 q p xs f/\(f=.ow->∃c,q=c++[b])) ⇑10 λc p xs f h=>⟨h,λ_=>⟨c,rfl⟩⟩)) [i]⟩
  ·unfold qB;rw[d6 ⇑j,zaP,bv,l];simp[s]
  ·ext(⟨h,x⟩:h);cases f with
   |ow =>
    ext(⟨c,rfl⟩:x rfl);refine⟨h.1,h.1.ne,.inr (m.t0 p _ h.2),λc' E e=>?_⟩;rw[h.2]at e;have:=aa5 re (aaI e);simp at this;subst this;exact hs _ (aa6 l)
   |fz=>exact⟨h.1,h.1.ne,m.rf p h.2,λc i e=>by rw[m.rt p h.2]at e;cases e⟩
   |al=>exact h.2.elim
   |sc=>exact h
theorem EJ:∀{es:aj},es.all isNm=true->∃xs:List (Str×Pos),es=xs.map λx=>mA x.1 x.2
 |[],_=>⟨[],rfl⟩
 |e::es,h=>by
  rw[zas,zag]at h;ext(⟨xs,rfl⟩:EJ h.2)(⟨x,p,rfl⟩:ou h.1);exact⟨(x,p)::xs,rfl⟩
def xR(xs:List (Str×Pos)):(xs.map λx=>mA x.1 x.2).filterMap (λe=>match e with|.Name x _=>↥x|_=>none)=xs.map (·.1):=by
 induction xs with
 |nil=>rfl
 |cons x xs a=>simp[a]
def F5(i:Nat):Nat->HH
 |0=>PV
 |n+1=>F6 (pU i) (F5 (i+1) n)
theorem zQ{X:Cx}(a:X.N.Nodup):∀(xs:List (Str×Pos)) (i:Nat),(∀(j:Nat) x,xs[j]?=↥x->X.N[i+j]?=↥x.1/\X.env.scope.names.lookup x.1=↥.local) ->
  Rh X (xs.map λx=>mA x.1 x.2) (F5 i xs.length)/\(hG (xs.map λx=>mA x.1 x.2) X.env).length=xs.length/\(hG (xs.map λx=>mA x.1 x.2) X.env).findIdx? (·.1)=none
 |[],_,_=>⟨zP,rfl,rfl⟩
 |x::xs,i,h=>by
  obtain⟨g,e,d⟩:=zQ a xs (i+1) λj y c=>by
   have:=h (j+1) y ⇑c
   rwa [show i+(j+1)=i+1+j by left]at this
  ext(⟨l,b⟩:h 0 x rfl);refine⟨vL (tw a l (.inl b) (.inr b)) g rfl,?_,?_⟩
  ·show(_::hG _ X.env).length=_;rw[zae,e];rfl
  ·show(((false,Aj (.Name x.1 x.2) X.env)::hG (xs.map λx=>mA x.1 x.2) X.env)).findIdx? (·.1)=none;rw[UF];simp[d]
end
section
variable {X:Cx}{F R:af}{τ:Addr->Option bw}{ρ:aV}{σ σ':St}{H:Hp}
def SI.SY{i:Nat}{v:V}{d:D}(a:SI X F R τ ρ σ H)(k:Rep (a_ X.K H) (nd X.K R ⇑7 ⇑8 H) [] v d)(g:i<ρ.length):SI X F R τ (ρ.set i ↥d) (σ.set i ↥v) H:=by
 refine⟨by simp[a.len],λj d' b=>?_,a.rt,a.rh,a.rf,a.th,a.t0,a.same⟩;by_cases e:j=i
 ·subst e;rw[eo g]at b;cases b;refine⟨v,abM ([-a.len]\g),k.imp (q':=[j]) ⇑10 λc p xs f h=>?_⟩;cases f with
  |ow=>exact nomatch h.2
  |fz=>exact h
  |al=>exact h
  |sc=>exact h
 ·rw[cb (ip e)]at b;ext(⟨w,hw,l⟩:a.rep j d' b);exact⟨w,[cb (ip e)]\hw,l⟩
def SI.sig(a:SI X F R τ ρ σ H)(c:σ'.length=σ.length)(h:∀(i:Nat) d,ρ[i]?=↥↥d->σ'[i]?=σ[i]?):SI X F R τ ρ σ' H :=
 ⟨[c]\a.len,λi d b=>let ⟨v,hv,r⟩:=a.rep i d b;⟨v,[h i d b]\hv,r⟩,a.rt,a.rh,a.rf,a.th,a.t0,a.same⟩
set_option tactic.hygienic true in
theorem o4{Q:St->Hp->Prop}(a:St)(b:Nat):∀{m i:Nat} {vs:ah} {ds:aa} {c:bw} {q:Nat} {σ:St} {ρ ρ':aV},i+m=b->aH (a_ X.K H) (nd X.K R ⇑7 ⇑8 H) c q vs ds->SI X F R τ ρ σ H->dJ (qQ i m) ds ρ=ok ρ' ->
  σ.length=a.length->(∀j,b<=j->σ[j]?=a[j]?)->(∀σ',σ'.length=a.length->(∀j,b<=j->σ'[j]?=a[j]?)->SI X F R τ ρ' σ' H->Q σ' H)->F5 i m vs σ H Q
 |0,_,_,_,_,_,σ,_,_,_,.nil,Si,e,h1,h2,hq=>by
  cases e;exact⟨rfl,hq σ h1 h2 Si⟩
 |0,_,_,_,_,_,_,_,_,_,.cons _ _,_,e,_,_,_=>by cases e
 |m+1,_,_,_,_,_,_,_,_,_,.nil,_,e,_,_,_=>by cases e
 |m+1,i,_,_,_,_,σ,ρ,_,him,.cons (v:=v) (d:=d) h t,Si,e,h1,h2,hq=>by
  change (if _ then _ else _)=_ at e;split at e
  ·rename_i k;ext(l:Si.SY (i:=i) (Rep.mP h) k);refine⟨_,_,rfl,o4 a b ⋯ t l e ⇑h1 (λj g=>?_) hq⟩;exact[cb ⋯]\h2 j g
  ·cases e
end
section
variable {X:Cx}{S:Sx}{k:Nat}{F:af}{Φ:aY}
protected def Nt{n:Nat}{t:Tg}{sc:Scope}{cl:List (Str×Addr)}(U5:X.calm=true)(q:lq S n t caps target sc):
  ∃g,PG (eT X (cC target++gZ S caps) sc cl C s₂ H2 fp) target g/\∀(z R':af) (x:V) (d:D) (b:St) (m:Hp) (Q:St->Hp->Prop) (c ρ1:aV),
   SI (eT X (cC target++gZ S caps) sc cl C s₂ H2 fp) z R' ⇑8 c b m->Rep (a_ X.K m) (nd X.K R' ⇑7 ⇑8 m) [] x d->aW cq d=false->cn t d c=ok ρ1 ->
   (∀l,l.length=b.length->(∀j,n<=j->l[j]?=b[j]?)->SI (eT X (cC target++gZ S caps) sc cl C s₂ H2 fp) z R' ⇑8 ρ1 l m->Q l m)->g x b m Q:=by
 have J:∀x∈cC target,(relabel sc X.env).names.lookup x=↥.local:=λx W=>lookup_relabel_local (q.tl x W);ext((⟨x,p,rfl,rfl⟩|⟨es,r,p,rfl,rfl,R⟩):q.tg)
 ·have M:n=1:=q.n;subst M;refine⟨pU 0,tw q.nd rfl (.inl (J x (bn.mpr rfl:x∈[x]))) (.inr (J x (bn.mpr rfl:x∈[x]))),λz R' v d b m Q c ρ1 I B _ e E=>?_⟩;simp only[cn]at e;split at e
  ·rename_i Z;cases e;refine E _ ⇑5 (λj u=>?_) (I.SY B Z);rw[cb ⋯]
  ·cases e
 ·ext(⟨xs,rfl⟩:EJ R);have H:cC (.Tuple (xs.map λx=>mA x.1 x.2) r p)=xs.map (·.1):=xR xs;have M:n=xs.length:=by rw[q.n,H,zaa]
  have:=zQ (X:=eT X (cC (.Tuple (xs.map λx=>mA x.1 x.2) r p)++gZ S caps) sc cl C s₂ H2 fp) q.nd xs 0 (λj y s=>by
   refine⟨?_,J y.1 ([H]\cr.mpr ⟨y,aa6 s,rfl⟩)⟩;show(cC (.Tuple (xs.map λx=>mA x.1 x.2) r p)++gZ S caps)[0+j]?=_;have u:j<xs.length:=by
    by_cases u:j<xs.length
    ·exact u
    ·rw[dV ⋯]at s;cases s
   rw[H,zaD,d7 ⇑u,bv,s];rfl)
  ext(⟨h1,h2,h3⟩:this);refine⟨_,Eg U5 h1 h2 h3,λz R' v d b m Q c ρ1 I B ho e E=>?_⟩;cases d<;>try (simp[cn]at e;done)
  rename_i ds;simp only[cn]at e;split at e
  ·cases e
  ·cases B with
   | @tup _ a ys _ Y L =>
    rw[zaa]at e;have O:dJ (qQ 0 xs.length) ds c=ok ρ1:=[-zbs]\e
    refine⟨a,ys,rfl,Y,?_,o4 (X:=eT X (cC (.Tuple (xs.map λx=>mA x.1 x.2) r p)++gZ S caps) sc cl C s₂ H2 fp) b n ⋯ L I O rfl (λ_ _=>rfl) E⟩;rw[L.length];have:∀(is:aS) (ds:aa) (ρ ρ':aV),dJ is ds ρ=ok ρ'->ds.length=is.length:=by
     intro is;induction is with
     |nil=>intro ds ρ ρ' e;cases ds with|nil=>rfl|cons _ _=>cases e
     |cons i is U=>intro ds ρ ρ' e;cases ds with
      |nil=>cases e
      |cons d ds =>
       change (if _ then _ else _)=_ at e;split at e
       ·simp[U ds _ _ e]
       ·cases e
    rw[this _ _ _ _ O,List.length_range']
def owF:∀f:Fl,cq (aK f)=false:=by intro f;cases f<;>rfl
mutual
theorem Jt:∀d:D,aW cq (aJ aK d)=false
 |.bX=>by simp[aJ,aW]
 |.bl _=>by simp[aJ,aW]
 |.int _=>by simp[aJ,aW]
 |.str _=>by simp[aJ,aW]
 |.tup ds=>by simp[aJ,aW,ir ds]
 |.lst f ds=>by simp[aJ,aW,ir ds,owF]
 |.cF f a vs=>by simp[aJ,aW,ir vs,owF]
theorem ir:∀ds:aa,aR cq (ao aK ds)=false
 |[]=>by simp[ao,aR]
 |d::ds=>by simp[ao,aR,Jt d,ir ds]
end
def Ae{H:Hp}{a:Addr}{o:HO}(x:ki H h)(hn:H a=none)(new:cN (upd H a o) h a o):ki (upd H a o) h:=λb u e=>by
 by_cases c:b=a
 ·subst c;rw[aT]at e;cases e;exact new
 ·rw[bt c]at e;exact(x b u e).lK λ_ q=>q
structure CAt(X X':Cx)(F' R':af)(n:Nat)(base:aV)(σ0:St)(fp:aX)(tn:Nat->Heap->Prop)(H2:Hp)(D:Addr)(items:List DI.D)(bind:DI.D->O aV)(test:aV->O Bool)(el:aV->O DI.D)(all:List DI.D)(m:Nat)(s':am):Prop where
 ex:∃(i:Nat) (vs:ah) (aP:aw) (nn:Nat) (σ':St) (H':Hp) (dn rest:List DI.D),m=items.length - i/\i<=items.length/\Inv X' [(D,fA aP nn)] σ' H' s'/\tn i s'.heap/\(∀b∈fp,H' b=none)/\Vals vs aP/\aL H2 H' /\
  SI X' F' R' ⇑8 base σ' H'/\cW X.K (gP X' F') R' ⇑8 [] H2 H' vs dn/\ji bind test el (items.drop i)=ok rest/\dn++rest=all
end
def cW.go{R:Addr->Prop}{H:Hp}(h:cW K G R τ fv H H1 vs ds)(e:aL H1 H2):cW K G R τ fv H H2 vs ds :=
 let ⟨τt,h1,h2⟩:=h;⟨τt,h1,h2.imp (λ_ _ h=>a_.same e h) λ_ _ _ _ h=>nd.same e h⟩
theorem pk:∀{ds:aa} {d:D},aR cq ds=false->d∈ds->aW cq d=false
 |[],_,_,h=>nomatch h
 |e::ds,d,h,hm=>by
  rw[aR,Q2]at h;ext((rfl|z):c0.mp hm)
  ·exact h.1
  ·exact pk h.2 z
def Bn{d:D}(h:xW d=ok items):∀d∈items,aW cq d=false:=by
 unfold xW at h;split at h
 ·cases h;exact λd hd=>pk (ir _) hd
 ·cases h
def yh{a:IK}{xs:aa}(h:eP Φ a xs=ok items):∀d∈items,aW cq d=false:=by
 cases a with
 |cJ p=>ext(⟨d,_,h⟩:aI h);exact Bn h
 |nu =>
  cases xs with
  |nil=>cases h
  |cons x t=>cases x<;>first | (cases h;done) | (cases t with
   |cons _ _=>cases h
   |nil =>
    ext(⟨_,h⟩:qN h);subst h;intro d hd;ext(⟨k,_,rfl⟩:cr.mp hd);rfl)
 |mI =>
  cases xs with
  |nil=>cases h
  |cons x t=>cases x<;>first | (cases h;done) | (cases t with
   |nil=>cases h
   |cons y u=>cases y<;>first | (cases h;done) | (cases u with
    |cons _ _=>cases h
    |nil =>
     ext(⟨_,h⟩:qN h);subst h;intro d hd;ext(⟨k,_,rfl⟩:cr.mp hd);rfl))
 |seq =>
  cases xs with
  |nil=>cases h
  |cons x t=>cases x<;>first | (cases h;done) | (cases t with
   |cons _ _=>cases h
   |nil=>cases h;exact λd hd=>pk (ir _) hd)
def ym{n:Nat}{i:Nat}{d:D}(h:(bL n caps ρ)[i]?=↥↥d):n<=i:=by
 unfold bL at h;by_cases a:i<n
 ·rw[d7 ⇑a,hY,zac a]at h;cases h
 ·left
section
variable {X:Cx}{S:Sx}{k:Nat}{F:af}{Φ:aY}
def E3{n:Nat}{t:Tg}{sc:Scope}{cl:List (Str×Addr)}(L:Lk X S k Φ)(a:lq S n t caps target sc):
  Lk (eT X (cC target++gZ S caps) sc cl C s₂ H2 fp) (S.inner target caps sc) k Φ:=by
 refine⟨?_,rfl,a.nd,L.calm,L.room,L.bl,λf x h=>⟨(L.fn f x h).ex⟩,L.cs,L.pr⟩;show relabel sc X.env=vE sc S.sc;rw[<- L.sc];rfl
def wQ(L:Lk X S k Φ){n:Nat}{t:Tg}{ik:IK}{ifs:aj}{sc:Scope}(co:lq S n t caps target sc)(CM:rG iter=true)
    (hE:∀(B:Cx) (F':af),Lk B (S.inner target caps sc) k Φ->PE B kr (tD B F' Φ elt))
    (hC:(bU=[]/\ifs=[])\/∃c e,bU=[c]/\ifs=[e]/\∀(B:Cx) (F':af),Lk B (S.inner target caps sc) k Φ->PT B e (jX B F' Φ c))
    (hI:∀(pins:au) (s:am) (σ:St) (H:Hp) (R:af) (τ:Addr->Option bw) (ρ:aV) (xs items:aa),Inv X pins σ H s->SI X F R τ ρ σ H->b6 Φ es ρ=ok xs->eP Φ ik xs=ok items->∀Rr:It->Hp->Prop,
      (∀J H2,aL H H2->Yl X.K J (lM X F τ (caps++d_ es) H2) H2 items->Rr J H2)->⇑0 (eval iter X.env) (λv W=>⇑0 (rO v) (HI X pins σ target Rr) X.xe W) X.xe s)
    {use:Option (Value->Sem Unit)} {Post:aB} {pins:au} {s:am} {H:Hp} {R:af} {d:D} {aa0:Pos} (I:Inv X pins σ H s) (Si:SI X F R τ ρ σ H) (ev:bg Φ (.comp n t caps ik es bU elt) ρ=ok d)
    (UE:∀(acc C:Addr) (H1:Hp) (W:am) (m:aU),W.heap.Ns C m->(C≠X.env.locals/\X.s₀.heap.objs.size<=C/\(∀x c,X.env.cells.lookup x=↥c->c≠C)/\(∀p∈X.pn++pins,p.1≠C)/\H1 C=none)->(∀h',iS C W.heap h'->Inv X pins σ H1 { W with heap:=h' })->aL H H1 ->
      ck X.K (gP X F) R τ (gK (.comp n t caps ik es bU elt)) H H1 (.ref acc) d->compPost (model X.prog X.w) X.A X.xe use Post (.ref acc) C (.ok .next) W) :
    ⇑0 (comprehension (.ListComp kr [⟨target,iter,ifs,0⟩] sc pos) sc X.env aa0 (newList []) false (eval iter X.env) use) Post X.xe s:=by
  ext(⟨xs,dm,ev⟩:aI ev)(⟨items,oD,ev⟩:aI ev)(⟨ds,QB,ev⟩:aI ev);simp only[Mk]at ev;ext(⟨mT,rfl⟩:ev)(UM:yh oD);obtain⟨cl,U3,nW,yt⟩:=yI (env:=X.env) (sc:=sc) (λx hx=>I.ok.has x (by
    show X.env.scope.names.lookup x=↥.cell\/X.env.scope.names.lookup x=↥.free;rw[L.sc];exact co.free x hx))
  have jF:∀x,nv iter X.env x=pure x:=by intro x;cases iter<;>first|rfl | (cases CM;done)
  refine wpAny_comprehension_free (use:=use) rfl jF U3 co.kind co.loc (aaX (hI pins s σ H R τ ρ xs items I Si dm oD (λJ H2=>aL H H2/\Yl X.K J (lM X F τ (caps++d_ es) H2) H2 items) (λJ H2 e y=>⟨e,y⟩)) (λxv s₁ h₁=>aaX h₁ (λZw s₂ h₂=>?_) λ_ _ e=>e) λ_ _ e=>e);ext(⟨it,fp,tn,J,H2,rfl,I2,T,jY,f2,e2,yl⟩:h₂)(sA:Si.go e2);have Pr:∀b∈fp,b<s₂.heap.objs.size:=λb l=>let ⟨o,ho,_⟩:=T.obj 0 _ jY b l;aan ho;refine abF (wpAny_newFunctionEnv co.EG (by intro y hy;simp at hy) (λh₁ tW pO=>?_) co.kind);dsimp only at tW pO ⊢;generalize hG2:s₂.heap.push { cls:=.type "list",dict:=none,data:=.seq ([]:aw).toArray }=G2 at tW pO ⊢;have hGC:G2.objs.size=s₂.heap.objs.size+1:=by rw[<- hG2,va]
  have Xt:s₂.heap.objs.size≠s₂.heap.objs.size+1:=aaw (abc _);rw[hGC]at tW pO;have old:∀b o,s₂.heap.get? b=↥o->h₁.get? b=↥o:=λb o e=>pO.extBut b o (aaw (abG (aan e))) (aai _ (hG2▸aai _ e));have dG:h₁.get? s₂.heap.objs.size=↥(fA [] 0):=pO.extBut _ _ Xt (aai _ (hG2▸aax _ rfl))
  let B:=eT X (cC target++gZ S caps) sc cl (s₂.heap.objs.size+1) s₂ H2 fp
  let F':=k9 (gP X F) τ (caps++d_ es)
  let R':=lM X F τ (caps++d_ es) H2
  have L':Lk B (S.inner target caps sc) k Φ:=E3 L co;ext(I4:λtk=>Fy (h₁:=h₁) (tk:=tk) L co I2 nW yt f2 Pr ⇑tW old dG);have S4:SI B F' R' ⇑8 (bL n caps ρ) (qB n caps σ) H2:=DG (t:=t) sA (λi hi=>by simp[hi]);ext(⟨g,hg,t4⟩:Nt (X:=X) (S:=S) (cl:=cl) (fp:=fp) (s₂:=s₂) (H2:=H2) (C:=s₂.heap.objs.size+1) L.calm co);have aaB:s₂.heap.objs.size∉B.fs:=λz=>by
    rcases c0.mp (I2.kJ _ z)with w|w
    · exact absurd w (aaH I2.lt)
    · exact I2.Ox (aao _) w
  have Pt:∀x c,cl.lookup x=↥c->c≠s₂.heap.objs.size:=λx c e=>by
    ext(⟨v,q⟩:I2.cell x c (nW x c e));exact aaw q.lt
  have J6:∀b∈fp,b≠B.env.locals/\b∉B.fs/\(b∈B.ex\/B.s₀.heap.objs.size<=b)/\(∀x c,B.env.cells.lookup x=↥c->c≠b):=λb l =>
    ⟨aaw (abG (Pr b l)),λz=>by
      rcases c0.mp (I2.kJ b z)with w|w
      · exact(f2 b l).2.1 w
      · exact(f2 b l).2.2.1 w,.inl l,λx c e=>(f2 b l).2.2.2.2.1 x c (nW x c e)⟩
  have UW:∀b∈fp,b≠s₂.heap.objs.size:=λb l=>aaw (Pr b l);have fin:∀(vs:ah) (O:aw) (nn:Nat) (M:St) (H':Hp) (W:am),Inv B [(s₂.heap.objs.size,fA O nn)] M H' W->Vals vs O->aL H2 H'->cW X.K (gP B F') R' ⇑8 [] H2 H' vs ds ->
      compPost (model X.prog X.w) X.A X.xe use Post (.ref s₂.heap.objs.size) (s₂.heap.objs.size+1) (.ok .next) W:=by
    intro vs O nn M H' W I1 rv sm IS;ext(⟨m,hn,_⟩:I1.loc)(⟨pD,nD,_,_,_⟩:I1.pin (s₂.heap.objs.size,fA O nn) (aay _ aag));have bs:=I1.base;have Mc:∀b o,s₂.heap.get? b=↥o->b≠s₂.heap.objs.size+1:=λb o e=>aaw (abG (aan e));have neD:∀b o,s₂.heap.get? b=↥o->b≠s₂.heap.objs.size:=λb o e=>aaw (aan e);have upK:∀b u,H' b=↥u->upd H' s₂.heap.objs.size (.lst vs) b=↥u:=λb u e=>[bt (dQ e nD)]\e
    have hlen:vs.length<=sizeLine:=by
      ext(⟨_,_,rr⟩:IS);have hz:sizeLine=16777216:=acj;have hc:cB=1000000:=rfl;rw[rr.length];left
    have IX:∀h',iS (s₂.heap.objs.size+1) W.heap h'->Inv X pins σ (upd H' s₂.heap.objs.size (.lst vs)) { W with heap:=h' }:=λh' xx=>by
      have un:Un (mY X.stack) fp H2 (upd H' s₂.heap.objs.size (.lst vs)) s₂.heap h' :=
        ⟨λb o e n l hx=>xx.extBut b o (Mc b o e) (bs.keep b o e n l hx),
         λb o e n l hx=>let ⟨sl,q⟩:=bs.slot b o e n l hx;⟨sl,xx.extBut b _ (Mc b o e) q⟩,
         λb o e n hx=>[bt (neD b o e)]\bs.free b o e n hx,
         λb o e hx=>let ⟨o',q⟩:=bs.there b o e hx;⟨o',xx.extBut b _ (Mc b o e) q⟩,
         λb xs e=>upK b _ (bs.nJ b xs e),λb o u e=>upK b _ (bs.mW b o u e)⟩
      have Z4:ki H' h':=λa o e=>(I1.cI a o e).lK λu q=>xx.extBut a u (by
        rintro rfl;have hf:H' (s₂.heap.objs.size+1)=none:=I1.free;rw[hf]at e;cases e) q
      have Z3:ki (upd H' s₂.heap.objs.size (.lst vs)) h':=Ae Z4 nD ⟨hlen,O,nn,rv,xx.extBut _ _ Xt pD⟩;exact I2.AS (ch:=fp) I1.os un Z3 I1.bare λb l=>⟨(f2 b l).2.2.2.1,(f2 b l).2.1,(f2 b l).2.2.2.2.1,(f2 b l).2.2.2.2.2⟩
    have eS:aL H' (upd H' s₂.heap.objs.size (.lst vs)):=aL.upd nD;ext(⟨τt,fr,rs⟩:IS);have Zg:s₂.heap.objs.size+1≠s₂.heap.objs.size:=Nat.succ_ne_self _;refine UE s₂.heap.objs.size (s₂.heap.objs.size+1) _ W m hn ⟨aaH (abG I2.lt),acT I2.sz,λx c e=>?_,λp hp=>?_,?_⟩ IX ((e2.trans sm).trans eS) ⟨λq=>if q=s₂.heap.objs.size then ↥[] else τt q,λq z hz=>?_,.lst ⟨aT,by simp⟩ (aH.map (q:=[]) (q':=[]) (λ_ _ h=>a_.same eS h) (λc p ys f h=>?_) rs [] rfl)⟩
    · ext(⟨v,z⟩:I2.cell x c e)
      exact aaw (abG z.lt)
    · exact aaw (abG (aan (I2.pin p hp).1))
    · exact[bt Zg]\I1.free
    · by_cases yo:q=s₂.heap.objs.size
      · exact[yo]\e2.free (sm.free nD)
      · simp only[yo,if_false]at hz;exact e2.free (fr q z hz)
    · ext(h':nd.same eS h)
      have abA:∀p,gP B F' p->k9 (gP X F) τ (caps++d_ es) p:=λp hp=>hp.elim id λz=>⟨.inr (sA.same.free z),λc i e=>absurd z (sA.th p _ e)⟩
      cases f with
      |ow =>
        have yo:p≠s₂.heap.objs.size:=by
          intro z;subst z;exact h.1.ne nD
        refine⟨h'.1,?_⟩;show(if p=s₂.heap.objs.size then ↥[] else τt p)=_;exact[zab yo]\h'.2
      |fz=>exact⟨h'.1,h'.2.2⟩
      |al=>exact⟨h'.1,abA p h'.2.1⟩
      |sc=>exact h'
  have tst:∀(P:au) (ρ1:aV) (b:Bool) (E:St) (H5:Hp) (s6:am),jh Φ bU ρ1=ok b->Inv B P E H5 s6->SI B F' R' ⇑8 ρ1 E H5 ->
      ⇑0 (forIn ifs true λc r=>if r=true then do let ok <- Rv c B.env (eval c B.env);pure (lV ok)else pure (lV r)) (λZa s7=>Za=b/\∃H7,Inv B P E H7 s7/\aL H5 H7) (λ_ _=>False) s6:=by
    intro P ρ1 b E H5 s6 eb I6 S6;ext((⟨rfl,rfl⟩|⟨c,e,rfl,rfl,hPT⟩):hC)
    · rw[jh]at eb;cases eb
      exact wpAny_tests_nil ⟨rfl,H5,I6,aL.refl _⟩
    · rw[jh]at eb
      ext(⟨b',eb',eb⟩:aI eb);have l:b'=b:=by
        cases b' with
        |true=>rw[zac rfl,jh]at eb;cases eb;rfl
        |false=>rw[zab ⇑5]at eb;cases eb;rfl
      subst l;refine wpAny_tests_one (aaX (hPT B F' L' P s6 E H5 (λb'' H7=>b''=b'/\aL H5 H7) I6 ⟨R',_,ρ1,b',S6,eb',λH7 e7=>⟨rfl,e7⟩⟩) (λb'' s7 ⟨H7,I7,l,e7⟩=>⟨l,H7,I7,e7⟩) λ_ _ e=>e)
  have loop:∀tk,pp (model X.prog X.w) X.A (.compLoop (.ListComp kr [⟨target,iter,ifs,0⟩] sc pos) 0 (.ref it) (.ref s₂.heap.objs.size) B.env)
      (compPost (model X.prog X.w) X.A X.xe use Post (.ref s₂.heap.objs.size) (s₂.heap.objs.size+1)) { s₂ with heap:=h₁,toks:=tk }:=by
    intro tk;refine uk (CAt X B F' R' n (bL n caps ρ) (qB n caps σ) fp tn H2 s₂.heap.objs.size items (λd=>cn t d (bL n caps ρ)) (λρ'=>jh Φ bU ρ') (λρ'=>bg Φ elt ρ') ds) ?_ items.length
      ⟨0,[],[],0,qB n caps σ,H2,[],ds,rfl,aa7 _,I4 tk,T.keep _ _ _ jY (λb _ o e=>old b o e),λb l=>(f2 b l).1,.nil,aL.refl _,S4,.nil,[zaV]\QB,rfl⟩
    rintro m s' ⟨i,vs,O,nn,M,H',dn,rest,hm,hi,I',bo,fr',rv,sm,eB,IS,Y,U⟩;have P4:∀b∈fp,qq B [(s₂.heap.objs.size,fA O nn)] H' b:=λb l=>⟨fr' b l,(J6 b l).1,(J6 b l).2.1,(J6 b l).2.2.1,(J6 b l).2.2.2,λp hp=>by
      have uP:p=(s₂.heap.objs.size,fA O nn):=by simpa [B,eT]using hp
      rw[uP];exact(UW b l).symm⟩
    by_cases dg:i<items.length
    · refine aaX (T.item B rfl rfl rfl L.calm i _ s' M H' (λ_ _=>False) I' P4 bo (yl.go i H' sm dg)) (λr W h4=>?_) λ_ _ e=>e
      ext(⟨u,hr,h4⟩:h4);subst hr;refine aaX h4 (λ_ s5 h5=>?_) λ_ _ e=>e;ext(⟨x,H5,I5,r5,y5,Lz,fr5⟩:h5)(⟨e5,dd,hd,rd⟩:yl.y8 i H' x H5 sm dg y5)(I5':I5.pinned (fp:=fp) (λb l=>⟨fr5 b l,(P4 b l).2⟩) (T.obj _ _ Lz));have pP:items.drop i=dd::items.drop (i+1):=by
        rw[zax dg];rw[ce dg]at hd;cases hd;rfl
      rw[pP,ji]at Y;ext(⟨ρ1,eb,Y⟩:aI Y)(⟨bb,et,Y⟩:aI Y);refine aaX (hg _ s5 M H5 x u (λE H6=>H6=H5/\E.length=M.length/\(∀j,n<=j->E[j]?=M[j]?)/\SI B F' R' ⇑8 ρ1 E H5) I5' r5
        (t4 F' R' x dd M H5 _ (bL n caps ρ) ρ1 (eB.go e5) rd (UM dd (aa6 hd)) eb λE g1 g2 g3=>⟨rfl,g1,g2,g3⟩)) (λ_ s6 h6=>?_) λ_ _ e=>e
      ext(⟨E,H6,I6,rfl,g1,g2,S6⟩:h6);refine aaX (tst _ ρ1 bb E H6 s6 et I6 S6) (λZa s7 h7=>?_) λ_ _ e=>e;ext(⟨rfl,H7,I7,e7⟩:h7);have Ye:∀{P:au} {σ3:St} {Z:Hp} {s8:am},Inv B (P++jy fp s5.heap) σ3 Z s8->tn (i+1) s8.heap/\∀b∈fp,Z b=none:=λ{P σ3 Z s8} I8 =>
        ⟨T.keep _ _ _ Lz λb l o e=>(I8.pin (b,o) (aay _ (aay _ (iR l e)))).1,λb l=>by
          ext(⟨o,e,_⟩:T.obj _ _ Lz b l);exact(I8.pin (b,o) (aay _ (aay _ (iR l e)))).2.1⟩
      have MU:∀{Z:Hp},aL H7 Z->SI B F' R' ⇑8 (bL n caps ρ) E Z:=λ{Z} e8=>(eB.go ((e5.trans e7).trans e8)).sig g1 λj d hj=>g2 j (ym hj);cases Za with
      |false =>
        rw[zab ⇑5]at Y ⊢;exact⟨items.length - (i+1),by left,i+1,vs,O,nn,E,H7,dn,rest,rfl,dg,I7.lF,(Ye I7).1,(Ye I7).2,rv,(sm.trans e5).trans e7,MU (aL.refl _),IS.go (e5.trans e7),Y,U⟩
      |true =>
        rw[zac rfl]at Y ⊢;ext(⟨y,ey,Y⟩:aI Y)(⟨ys,Ga,Y⟩:aI Y);cases Y;refine aaX (hE B F' L' _ s7 E H7 (λv Z=>aL H7 Z/\ck X.K (gP B F') R' ⇑8 [] H7 Z v y) I7 ⟨R',_,ρ1,y,S6.go e7,ey,λv Z e8 r8=>⟨e8,?_⟩⟩) (λu8 s8 h8=>?_) λ_ _ e=>e
        · ext(⟨τt,fr,rr⟩:r8)
          exact⟨τt,fr,rr.imp (q:=[]) (q':=[]) ⇑10 λc p ys f h=>h.mono id (λh=>⟨h.1,λ_ _ e=>by cases e⟩) id⟩
        · ext(⟨v8,Z,I8,rv8,e8,r8⟩:h8)
          ext(⟨pD,nD,_,_,_⟩:I8.pin (s₂.heap.objs.size,fA O nn) (aay _ (aa4 _ aag)));have hlen:O.length<=1000000:=by
            ext(⟨_,_,rr⟩:IS);have h1:dn.length<=ds.length:=by rw[<- U,zaf];left
            have hc:cB=1000000:=rfl;rw[<- rv.length,rr.length];left
          have hz:sizeLine=16777216:=acj;refine adZ adg ⟨_,pD,rfl⟩ PySem.F.entry_list_append (PySem.F.args_list_append_2 _ _) (SZ s₂.heap.objs.size O.toArray nn u8 (by rw[zad];left)) ⟨pD,?_⟩;ext(q:NE pD (λx=>x.push u8));have UC:O.toArray.push u8=(O++[u8]).toArray:=by simp
          rw[UC]at q;obtain⟨W8,q'⟩:∃W8,(s8.heap.update s₂.heap.objs.size (ej λx=>x.push u8)).get? s₂.heap.objs.size=↥(fA (O++[u8]) W8):=⟨_,q⟩
          have I8d:Inv B (jy fp s5.heap) E Z s8:=I8.j6 λp hp=>I8.pin p (aay _ (aay _ hp));have I8t:Inv B (jy fp s5.heap) E Z { s8 with heap:=s8.heap.update s₂.heap.objs.size (ej λx=>x.push u8),toks:=s8.toks } :=
            I8d.turned (it:=s₂.heap.objs.size) (λb o l e=>(abY s8.heap (ej λx=>x.push u8) (acW l)).trans e) nD Xt (.inr (aao _)) Pt λp hp=>by
              have uP:p∈jy fp s5.heap:=by simpa [B,eT]using hp
              exact UW p.1 (rF uP).1
          ext(kp:Ye (P:=[]) ([zaz]\I8t));refine⟨items.length - (i+1),by left,i+1,vs++[v8],O++[u8],W8,E,Z,dn++[y],ys,rfl,dg,I8t.j6 (λp hp=>?_),kp.1,kp.2,rv.append (.cons rv8 .nil),((sm.trans e5).trans e7).trans e8,MU e8,cW.snoc ((sm.trans e5).trans e7) e8 (IS.go (e5.trans e7)) r8,Ga,[zai]\U⟩;have uP:p=(s₂.heap.objs.size,fA (O++[u8]) W8):=⇑hp
          exact[uP]\⟨q',nD,Xt,aaB,λv z=>by cases z⟩
    · refine aaX (T.done B rfl rfl rfl L.calm i _ s' M H' (λ_ _=>False) I' P4 bo (yl.stop i H' sm ⋯)) (λr W h1=>?_) λ_ _ e=>e
      ext(⟨hr,I1⟩:h1);subst hr;have Z9:items.drop i=[]:=adz ⋯;rw[Z9,ji]at Y;cases Y;rw[zaw]at U;subst U;exact fin vs O nn M H' W I1 rv sm IS
  ext(key:λtk=>codeAny_compStart_list (loop tk) (T.self X.A 0 _ _ _ (T.keep _ _ _ jY λb _ o e=>old b o e) (loop tk)));exact[hGC]\key _
def II(L:Lk X S k Φ){n:Nat}{t:Tg}{p:IK}{a:aj}{sc:Scope}(M:lq S n t caps target sc)(W:rG iter=true)
  (z:∀(b:Cx) (j:af),Lk b (S.inner target caps sc) k Φ->PE b kr (tD b j Φ elt))
  (B:(bU=[]/\a=[])\/∃c e,bU=[c]/\a=[e]/\∀(b:Cx) (j:af),Lk b (S.inner target caps sc) k Φ->PT b e (jX b j Φ c))
  (y:∀(pins:au) (s:am) (σ:St) (H:Hp) (R:af) (τ:Addr->Option bw) (ρ:aV) (xs items:aa),Inv X pins σ H s->SI X F R τ ρ σ H->b6 Φ es ρ=ok xs->eP Φ p xs=ok items->∀q:It->Hp->Prop,
   (∀J H2,aL H H2->Yl X.K J (lM X F τ (caps++d_ es) H2) H2 items->q J H2)->⇑0 (eval iter X.env) (λv l=>⇑0 (rO v) (HI X pins σ target q) X.xe l) X.xe s) :
  PE X (.ListComp kr [⟨target,iter,a,0⟩] sc pos) (tD X F Φ (.comp n t caps p es bU elt)):=by
 intro pins s σ H Q I g;ext(⟨R,τ,ρ,d,O,E,g⟩:g);rw[eval_ListComp];refine wQ L M W z B y (use:=none) (Post:=EP X pins σ Q) I O E λi C H1 l m x _ U sm u=>?_;exact⟨m,x,λh' r=>⟨.ref i,H1,U h' r,rfl,g _ _ sm u⟩⟩
end
variable {E:Value->am->Prop}
section
variable {X:Cx}{pins:au}{s:am}{σ:L2.St}{H:Hp}
def v_{A:aF}{l:Addr}{items:aZ}{Q:aB}{s:am}(a:s.heap.IsList l items)
  (h:∀s₂:am,s₂={ s with heap:=s.heap.push { cls:=.type "list_iterator",data:=.fields #[.ref l,.int 0 0] } }->s₂.heap.IsListIter s.heap.objs.size l 0/\s₂.heap.IsList l items->(∀b∈[s.heap.objs.size,l],b<s₂.heap.objs.size)->l≠s.heap.objs.size->Q (.ref s.heap.objs.size) s₂) :
  ⇑1 (rO (.ref l)) Q E s:=by
 have c:l<s.heap.objs.size:=by ext(⟨_,e,_⟩:a);exact aan e
 refine yaK a (h _ rfl ⟨⟨_,aax _ rfl,rfl,rfl⟩,a.push _⟩ (λb g=>?_) (aaw c));have d:(s.heap.push { cls:=.type "list_iterator",data:=.fields #[.ref l,.int 0 0] }).objs.size=s.heap.objs.size+1:=va ..;have i:b=s.heap.objs.size\/b=l:=⇑g
 show b<_;rw[d];ext((e|e):i)
 ·exact[e]\abc _
 ·exact[e]\abG c
def v9{a:Obj}{s:am}(d:∀b o,b∉[s.heap.objs.size]->(s.heap.push a).get? b=↥o->h'.get? b=↥o):∀b o,s.heap.get? b=↥o->h'.get? b=↥o:=λb o e =>
 d b o (λc=>absurd ((⇑c:b=s.heap.objs.size)▸aan e) (abb _)) (aai _ e)
def dK{a:Addr}{b:aZ}(p:PlainL h a b):h.IsList a b:=let ⟨o,n,h1,h2,_,h4⟩:=p;⟨o,h1,h2,n,h4⟩
theorem jx(a:Nat->Int)(ns:ae)(b:∀i,a i=ns.getD i 0):∀k,k<=ns.length->preSum a k=(ns.take k).sum
 |0,_=>by simp[preSum]
 |k+1,h=>by
  have c:k<ns.length:=by left
  rw[preSum,jx a ns b k ⋯,b k,List.take_add_one,List.sum_append];simp[wp,c]
def Cs(x:X.calm=true):fJ X (.builtin "sum") (λxs H Q=>∃(p:Addr) (ns:ae),xs=[.ref p]/\eA X.K H p (ns.map V.int)/\Q ↑ns.sum H):=by
 intro pins s σ H xs J Q I r h;ext(⟨p,ns,rfl,m,q⟩:h)(⟨u,rfl,b⟩:r.one);cases b;ext(⟨a,g,l,j⟩:I.list m);have hlen:a.length=ns.length:=by have:=g.length;simpa using this.symm
 refine call_sum_walkG (v_ (dK l) λs₂ e st B d=>?_);subst e;refine⟨_,_,_,_,_,_,λi=>ns.getD i 0,rfl,ya_ (A:=X.A.in1) (I.ok.hd x) _ p d a.toArray,st,B,λi v y=>?_,λh' tk t' t=>?_⟩
 ·have c:a[i]?=↥v:=⇑y
  have L:i<a.length:=by
   by_cases z:i<a.length
   ·exact z
   ·rw[dV ⋯]at c;cases c
  have n:(ns.map V.int)[i]?=↥↑(ns.getD i 0):=by
   rw[bv,ce ⋯];simp[wp,show i<ns.length by left]
  ext(⟨u,k,b⟩:g.get n);rw[c]at k;cases k;exact b
 ·refine⟨.int ns.sum,H,I.kept (t':=tk) (v9 t),⟨t',?_⟩,q⟩;have j:preSum (λi=>ns.getD i 0) a.toArray.size=ns.sum:=by
   rw[zad,hlen,jx _ ns (λ_=>rfl) _ (zbZ _),zbN]
  rw[j]
def range_all{c:Type}(l:List c)(f:c->Bool)(d:Nat->Bool)(h:∀i a,l[i]?=↥a->d i=f a):(eg l.length).all d=l.all f:=by
 rw[zbV,zaM,zaM];constructor
 ·intro z a g;ext(⟨i,b,e⟩:List.mem_iff_getElem.mp g);have:=z i (g8.mpr b);rw[h i a ⇑[ce b,e]]at this;exact this
 ·intro z i b;ext(b:g8.mp b);exact[h i l[i] (ce b)]\z _ (aaU b)
def Cv(x:X.calm=true):fJ X (.builtin "all") (λxs H Q=>∃(p:Addr) (bs:List Bool),xs=[.ref p]/\eA X.K H p (bs.map V.bl)/\Q (.bl (bs.all id)) H):=by
 intro pins s σ H xs J Q I r h;ext(⟨p,bs,rfl,m,q⟩:h)(⟨u,rfl,c⟩:r.one);cases c;ext(⟨b,j,l,M⟩:I.list m);have hlen:b.length=bs.length:=by have:=j.length;simpa using this.symm
 refine call_all_walk (v_ (dK l) λs₂ e st U g=>?_);subst e;refine⟨_,_,_,_,_,_,λi=>bs.getD i false,rfl,ya_ (A:=X.A.in1) (I.ok.hd x) _ p g b.toArray,st,λi v L R W B y=>?_,λh' tk t=>?_⟩
 ·have d:b[i]?=↥v:=⇑B
  have O:i<b.length:=by
   by_cases z:i<b.length
   ·exact z
   ·rw[dV ⋯]at d;cases d
  have n:(bs.map V.bl)[i]?=↥(.bl (bs.getD i false)):=by
   rw[bv,ce ⋯];simp[wp,show i<bs.length by left]
  ext(⟨u,k,c⟩:j.get n);rw[d]at k;cases k;cases c;exact abU y
 ·refine⟨.bl (bs.all id),H,I.kept (t':=tk) (v9 t),?_,q⟩;show lX _=lX _;rw[zad,hlen,range_all bs id _ λi a e=>by simp[wp,e]]
end
variable {ms ns:ae}
section
variable {prog:aG}{w:World}{A:aF}{E:aB}{s:am}
def qg{l:Addr}{vs:aw}{Q:aw->am->Prop}{o:Obj}{n:Nat}(c:s.heap.get? l=↥o)(d:o.cls=.type "tuple")(hd:o.data=.seq vs.toArray n)
  (h:Q vs { s with heap:=(s.heap.push (f6 "list" #[] 0)).update s.heap.objs.size (ej (· ++ vs.toArray)) }) (hsz:vs.length<=sizeLine):⇑1 (collect (.ref l)) Q E s:=by
 unfold collect;refine aab (Pj (abW ZB ?_));show wpAny _ _ (newList [] >>= λz=>again (.builtin "list.__iadd__" ⟨[z,.ref l],[]⟩)) _ _ s;refine aab (adC (aaf ⟨ad6 _ ⇑6,abW ya9 ?_⟩));have b:(s.heap.push (f6 "list" #[] 0)).get? l=↥o:=aai _ c;have a:(s.heap.push (f6 "list" #[] 0)).get? s.heap.objs.size=↥(f6 "list" #[] 0):=aax _ rfl;show wpAny _ _ (gh (.ref s.heap.objs.size) (.ref l) (.ref s.heap.objs.size)) _ _ ({ s with heap:=s.heap.push (f6 "list" #[] 0) }:am);unfold gh;refine aab (Vr (T:="tuple") ⟨o,b,d⟩ ?_);rw[abE (by rw[show(f0 "tuple" == f0 "tuple")=true from rfl,zbt])];refine aab (FN b hd (aab (FN a rfl ?_)));rw[zab ⇑5];refine aab (Sc a rfl ?_ (aa7 _) (by
  show(#[]++vs.toArray).size<=sizeLine+1;rw[Array.size_append,zad];exact acT ⇑hsz))
 refine aaf ?_;show ⇑1 (load s.heap.objs.size >>= λo=>match o.data with
   |.seq xs _=>pure xs.toList
   |_=>unsupported "internal:collect") Q E ({ s with heap:=(s.heap.push (f6 "list" #[] 0)).update s.heap.objs.size (ej (· ++ vs.toArray)) }:am)
 refine aab (Re (get?_update_seq a _) ?_);show wpAny _ _ (pure ((#[]:aZ)++vs.toArray).toList) Q E _;rw[show((#[]:aZ)++vs.toArray).toList=vs by simp];exact aaf h
def qz{l:Addr}{vs:aw}{Q:aB}{o:Obj}{n:Nat}(d:s.heap.get? l=↥o)(e:o.cls=.type "tuple")(hd:o.data=.seq vs.toArray n)(g:h9 vs ns)(b:vs.length<64)
  (h:∀(out:aZ) (a:ae),h9 out.toList a->a.Perm ns->a.Pairwise (· <= ·)->Q (.ref (s.heap.objs.size+1)) { s with heap:=sortedAll s.heap vs out }):⇑1 (call (.builtin "sorted") [.ref l]) Q E s:=by
 refine ac9 yag WP WV (Xc _) ?_;unfold nf.«sorted»;have c:vs.length<=sizeLine:=by rw[i8];left
 refine aab (m:=yaQ "sorted" 1 1 _) (aaf (aab (qg d e hd (aab (adC ?_)) c)));have e1:((s.heap.push (f6 "list" #[] 0)).update s.heap.objs.size (ej (· ++ vs.toArray))).objs.size=s.heap.objs.size+1:=by rw[X2,Rs]
 have e2:(((s.heap.push (f6 "list" #[] 0)).update s.heap.objs.size (ej (· ++ vs.toArray))).push (f6 "list" vs.toArray 0)).get? (s.heap.objs.size+1)=↥(f6 "list" vs.toArray 0):=by
  exact[-e1]\aax _ rfl
 show wpAny _ _ _ _ _ ({ s with heap:=((s.heap.push (f6 "list" #[] 0)).update s.heap.objs.size (ej (· ++ vs.toArray))).push (f6 "list" vs.toArray 0) }:am);rw[e1];refine aab (abS (abP Pn ⟨_,e2,rfl⟩ LZ (list_sort_tree e2 g b λout a a1 a2 a3=>⟨_,rfl,aaf ⟨_,rfl,h out a a1 a2 a3⟩⟩) (Pv _)))
end
def sortI_perm(ns:ae):(sortI ns).Perm ns:=abI ..
def DE(ns:ae):(sortI ns).Pairwise (· <= ·):=by
 have:=J8 (le:=λa b:Int=>decide (a<=b)) (by intro a b c;simp;left) (by intro a b;simp;left) ns;unfold sortI;simpa using this
theorem du:∀{vs:aw} {ns:ae},Vals (ns.map V.int) vs->h9 vs ns
 |_,[],h=>by cases h;exact .nil
 |_,n::ns,h=>by
  cases h with
  |cons r t=>ext(⟨tk,rfl⟩:r);exact .cons n tk (du t)
def ux:fJ X (.builtin "sorted") (λxs H Q=>∃(p:Addr) (ns:ae),xs=[.ref p]/\(eA X.K H p (ns.map V.int)\/a_ X.K H p (ns.map V.int))/\ns.length<64/\∀l,H l=none->Q (.ref l) (upd H l (.lst ((sortI ns).map V.int)))):=by
 intro pins s σ H xs O Q I r h;ext(⟨p,ns,rfl,d,t,q⟩:h)(⟨u,rfl,v⟩:r.one);cases v;have fin:∀(vs:aw) (out:aZ) (a:ae),h9 out.toList a->a.Perm ns->a.Pairwise (· <= ·)->EP X pins σ Q (.ref (s.heap.objs.size+1)) { s with heap:=sortedAll s.heap vs out }:=by
  intro vs out a j i g;obtain rfl:a=sortI ns:=PySem.W.ksm_same (i.trans (sortI_perm ns).symm) g (DE ns);ext(⟨e,L⟩:sortedAll_at s.heap vs out);have J:H (s.heap.objs.size+1)=none:=I.cI.fresh (ady _);refine⟨.ref (s.heap.objs.size+1),upd H (s.heap.objs.size+1) (.lst ((sortI ns).map V.int)),I.laid (t':=s.toks) (λb u z=>sortedAll_old z) (ady _) ⟨?_,out.toList,e,mq j,⇑L⟩,rfl,q _ J⟩;rw[zaa,(sortI_perm ns).length_eq,i8];left
 ext((d|d):d)
 ·ext(⟨k,c,x,y⟩:I.list d);have m:k.length<64:=by rw[<- c.length];simpa using t
  exact sorted_ints (dK x) (du c) m λout a j i g=>fin k out a j i g
 ·ext(⟨k,c,⟨o,B,M,n,hd⟩,y⟩:I.tuple d);have m:k.length<64:=by rw[<- c.length];simpa using t
  exact qz B M hd (du c) m λout a j i g=>fin k out a j i g
def Dk:isSubtype (.type "tuple") (.type "set")=pure false:=by rw[isSubtype_type];kernel_rfl
def u_:isSubtype (.type "tuple") (.type "frozenset")=pure false:=by rw[isSubtype_type];kernel_rfl
noncomputable abbrev nN(a:Bool):Obj:={ cls:=.type "set",dict:=none,data:=.set #[] 0 (.fresh 0 0 a) }
noncomputable abbrev dist(ns:ae):ae:=firstMet (λi=>ns.getD i 0) ns.length
section
variable {prog:aG}{w:World}{A:aF}{E:aB}{s:am}
def xV{l:Addr}{d:aw}{Q:aB}(hh:A.handled=none)(hl:s.heap.IsTuple l d.toArray)(Y:h9 d ns)(H:d.length+1<WF)
  (h:∀(h':Heap) (tk:Nat),h'.SetOf (pc prog w) s.heap.objs.size (λk=>(dist ns).any (· == k)) (dist ns).length->(∀b o,b<s.heap.objs.size->s.heap.get? b=↥o->h'.get? b=↥o)->Q (.ref s.heap.objs.size) { s with heap:=h',toks:=tk }) :
  ⇑1 (call (.type "set") [.ref l]) Q E s:=by
 have L:d.length=ns.length:=Y.length;ext(⟨c,tl,k1⟩:hW.mro);have k2:=hW.made;have k3:=hW.sub;have k4:=hW.notType;have k5:=hW.canCreate;ext(k6:PySem.F.typeCall_set_1 (.ref l));refine wpAny_call (codeAny_of_tree (show wpAny _ _ (callAny (.type "set") _) _ _ _ from aaf ⟨ad6 _ ⇑6,abW PySem.F.entry_type_call ?_⟩));rw[Around.under_plain (weight_type_call_type "set" [.ref l] []) rfl]
 repeat (any_goals (first|assumption|wp_step))
 refine ade (code_set_new_1 (.ref l) (E:=E) (Q₁:=λz g=>∃a:Bool,z=.ref s.heap.objs.size/\g={ s with heap:=s.heap.push (nN a) }) λa=>⟨a,rfl,rfl⟩) λr g q=>?_;cases r with
 |error e=>exact q
 |ok fl =>
  cases fl with
  |next=>exact q.elim
  |brk=>exact q.elim
  |cont=>exact q.elim
  |ret z =>
   ext(⟨a,rfl,rfl⟩:q);have Z:(s.heap.push (nN a)).get? s.heap.objs.size=↥(nN a):=aax _ rfl;have g2:Shared.TypeIs { s with heap:=s.heap.push (nN a) } (.ref s.heap.objs.size) "set":=⟨_,Z,rfl⟩
   have g3:=hW.init.lookup;ext(g4:hW.init.bind (.ref s.heap.objs.size))
   repeat (any_goals (first|assumption|wp_step))
   refine ade (ad1 (R:=wants (λr s₂=>r=.none/\∃h' tk,s₂={ s with heap:=h',toks:=tk }/\h'.SetOf (pc prog w) s.heap.objs.size (λk=>(dist ns).any (· == k)) (dist ns).length/\∀b o,b<s.heap.objs.size->s.heap.get? b=↥o->h'.get? b=↥o) E) hW.init.plain PySem.F.entry_set_init (check_set_init_1 g2 ?_)) λp s₂ n=>?_
   ·ext(⟨ot,u,y,W,x⟩:hl)(⟨oc,od,odt,Et⟩:ot);simp only at y x;subst y;subst x;have u1:(s.heap.push (nN a)).get? l=some { cls:=.type "tuple",dict:=od,data:=.seq d.toArray W,slots:=Et }:=aai _ u;have u2:=Dk;have u3:=u_;have u4:(f0 "tuple" == f0 "dict")=false:=by decide
    have U:(s.heap.push (nN a)).IsTuple l d.toArray:=⟨_,u1,rfl,W,rfl⟩
    unfold nf.«set.__init__» noKeywords YG;generalize M:rO=PI
    wp_walk
    subst M;refine yau U (aab (Pj ?_));have O:l<s.heap.objs.size:=aan u;have u7:A.in1.in1.in1.handled=none:=by simp[hh]
    have J:(s.heap.push (nN a)).objs.size=s.heap.objs.size+1:=va ..;have u8:l≠(s.heap.push (nN a)).objs.size:=[J]\aaw (abG O)
    have u9:s.heap.objs.size∉[(s.heap.push (nN a)).objs.size,l]:=by
     rw[J];intro m;simp at m;exact absurd m (aaH O)
    have v1:∀(i:Nat) (v:Value),d.toArray[i]?=↥v->∃t,v=.int ((λi=>ns.getD i 0) i) t:=λi v hv=>Y.int_at i v ⇑hv;refine codeAny_set_update_loopS ((Walks.tuple u7 _ l u8 d.toArray).toS) s.heap.objs.size u9 (λi=>ns.getD i 0) v1 ([zad]\H) (d.toArray.size - 0) 0 _ ⋯ (aa7 _) ⟨⟨_,aax _ rfl,rfl,rfl⟩,U.push _⟩ ?hS0 ?hR
    case hS0 =>
     have y1:((s.heap.push (nN a)).push { cls:=.type "tuple_iterator",data:=.fields #[.ref l,.int 0 0] }).get? s.heap.objs.size=↥(nN a):=aai _ Z;exact SetOf_congr ((setObjOf_fresh (knd:=pc prog w) a).setOf y1 (by unfold WF;left)) (λ_=>rfl) rfl
    case hR =>
     intro s' B j;ext(⟨h',g',d',I,Y8⟩:s');cases (show g'=s.gens from B.gens);cases (show d'=s.drawn from B.drawn);cases (show Y8=s.os from B.os);have j:h'.SetOf (pc prog w) s.heap.objs.size (λk=>(dist ns).any (· == k)) (dist ns).length:=by
      have e:d.toArray.size=ns.length:=by rw[zad,L]
      rw[e]at j;exact j
     refine aaf (show wpAny _ _ (ret ft) _ _ _ from aaf ⟨rfl,h',I,rfl,j,λb o H e=>B.heap b o (λm=>?_) (aai _ (aai _ e))⟩);ext((m|m):c0.mp m)
     ·exact aaw H m
     ·have m:b=(s.heap.push (nN a)).objs.size:=⇑m
      rw[J]at m;exact aaw (abG H) m
   ·cases p with
    |error e=>exact n
    |ok VB =>
     cases VB with
     |ret r =>
      ext(⟨rfl,h',tk,rfl,j,CN⟩:n)
      repeat (any_goals (first|assumption|wp_step))
      exact h _ _ j CN
     |next=>exact n.elim
     |brk=>exact n.elim
     |cont=>exact n.elim
end
def GJ(ns:ae):dist ns=uj ns:=by
 unfold dist firstMet uj;have e:(eg ns.length).map (λi=>ns.getD i 0)=ns:=by
  refine ac4 ⇑5 λi a b=>?_;simp at a;simp[a]
 rw[e];rfl
def rLs(K:av):ah->Hp->VK->Prop:=λxs H Q=>∃(p:Addr) (ns:ae),xs=[.ref p]/\a_ K H p (ns.map V.int)/\ns.length<4000/\Q ↑(uj ns).length H
def boot_set:j_ ("set" : Str)=↥(.type "set"):=by decide +kernel
def Jj{e:Expr}{t:TA}{p:Pos}(B:X.calm=true)(i:Gl X ("len" : Str))(d:X.mg ("len" : Str)=none)(g:Gl X ("set" : Str))(c:X.mg ("set" : Str)=none)(J:PA X [e] t)
  (r:∀es,cj (e::es) X.env=(false,eval e X.env)::cj es X.env):PE X (.Call (.Name ("len" : Str) p) [.Call (.Name ("set" : Str) p') [e] [] pos'] [] pos) (SF (rLs X.K) t):=by
 intro pins s σ H Q I h;refine ab1 (fB I i d ZP ?_ ⇑4 ⇑4);refine tz ?_ rfl rfl;show wpAny _ _ (yaf ((false,eval (.Call (.Name ("set" : Str) p') [e] [] pos') X.env)::[])) _ _ s;refine adb ?_;refine ab1 (fB I g c boot_set ?_ ⇑4 ⇑4);refine aa3 (dD (J pos' pins s σ H _ I h) λus s1 Y=>?_) (r _) rfl;ext(⟨vs,H1,j,r1,q1⟩:Y)(⟨a,ns,rfl,x,hl,q⟩:q1)(⟨u,rfl,m⟩:r1.one);cases m;ext(⟨Z,k,v,hz⟩:j.tuple x);have y:Z.length=ns.length:=by rw[<- k.length];simp
 refine xV (j.ok.hd B) v (du k) (by unfold WF;left) λh' tk l n=>adu ?_;rw[GJ]at l;ext(⟨o,es,ep,tb,W,U,R,_,_,O,M,L⟩:l);refine call_len_set W U R M (by unfold WF at O;omega) ?_;exact⟨.int (uj ns).length,H1,j.kept (t':=tk+1+1) λb u z=>n b u (aan z) z,⟨_,by rw[L]⟩,q⟩
variable {args elts:aj}
section
variable {X:Cx}{S:Sx}{k:Nat}{F:af}{Φ:aY}
def Lk.u40(L:Lk X S k Φ):X.A.units+40<cLine:=by have:=L.room.units;left
def Td(K:av)(neg:Bool):R2:=λv u H Q=>∃(d d':D) (N N':k_) (k k':bw),Rep (a_ K H) N k v d/\Rep (a_ K H) N' k' u d'/\(∀q p xs f,N q p (.l xs) f->eA K H p xs)/\(∀q p xs f,N' q p (.l xs) f->eA K H p xs)/\cg 40 d=true/\cg 40 d'=true /\
 Q (.bl (if neg then !lr d d' else lr d d')) H
def Oo(i:X.A.units+40<cLine):oO X (kq .Eq) (Td X.K false):=by
 intro pins s σ H x y v u Q I b a h;ext(⟨d,d',N,N',k,k',r1,r2,n1,g,e,c,q⟩:h);exact(alike I n1 g 40 X.A r1 r2 e c b a i).rc X.prog X.w X.xe _ ⟨.bl _,H,I,rfl,q⟩
def Om(i:X.A.units+40<cLine):oO X (kq .NotEq) (Td X.K true):=by
 intro pins s σ H x y v u Q I b a h;ext(⟨d,d',N,N',k,k',r1,r2,n1,g,e,c,q⟩:h);exact(alike I n1 g 40 X.A r1 r2 e c b a i).ne X.prog X.w X.xe _ ⟨.bl _,H,I,rfl,q⟩
def DZ{k:bw}{v:V}{d:D}(h:Rep T N k v d)(h':Rep T' N' k' v' d')(f:gf d=true)(a:gf d'=true):rV v=true/\eqV v v'=lr d d':=by
 cases h<;>first | (cases f;done) | (cases h'<;>first | (cases a;done)|exact⟨rfl,rfl⟩)
def Bt{k:bw}{v:V}{d:D}(h:Rep T N k v d)(f:gf d=true):rV v=true:=by
 cases h<;>first | (cases f;done)|rfl
def IW{v:V}{d:D}(c:Rep T' N' k' v d)(f:gf d=true){k:bw}{n:Nat}(h:aH T N k n xs ds):ds.all gf=true->xs.all rV=true/\Ur v xs=inD d ds :=
 h.ind (P:=λ_ xs ds=>ds.all gf=true->xs.all rV=true/\Ur v xs=inD d ds) (λ_ _=>⟨rfl,rfl⟩) λ_ _ _ _ _ h t b fs=>by
  ext(⟨l,j⟩:aC fs)(⟨e,a⟩:b j)(⟨i,g⟩:DZ h c l f);refine⟨by rw[zas,i,e];rfl,?_⟩;unfold Ur at a ⊢;rw[yaC,g,a];rfl
def N4(K:av)(op:CU):R2:=match op with
 |.eq=>Td K false
 |.ne=>Td K true
 |.lt=>Hy λi j=>.bl (decide (i<j))
 |.le=>Hy λi j=>.bl (decide (i<=j))
 |.gt=>Hy λi j=>.bl (decide (j<i))
 |.ge=>Hy λi j=>.bl (decide (j<=i))
def Ex(L:Lk X S k Φ)(op:CU):oO X (kq (Y_ op)) (N4 X.K op):=by
 cases op with
 |eq=>exact Oo L.u40
 |ne=>exact Om L.u40
 |lt=>exact Tz
 |le=>exact TB
 |gt=>exact TC
 |ge=>exact TF
def EI{op:CmpOp}{r:Expr}(h:rG r=true):lv op r=false:=by
 cases r<;>first|rfl | (cases h;done)
def QT{f:Int->Int->Bool}{a b d:D}(h:RV f a b=ok d):∃i j,a=.int i/\b=.int j/\d=.bl (f i j):=by
 cases a with
 |int i=>cases b with
  |int j=>cases h;exact⟨i,j,rfl,rfl,rfl⟩
  |_=>exact nk h
 |_=>exact nk h
def Oz{n:Bool}{a b d:D}(h:nnD n a b=ok d):b=.bX/\d=.bl (bif n then !EE a else EE a):=by
 cases b with
 |bX=>cases h;exact⟨rfl,rfl⟩
 |_=>exact nk h
def O9{n:Bool}{a b d:D}(h:ZE n a b=ok d):∃ds,yi b=↥ds/\gf a=true/\ds.all gf=true/\d=.bl (bif n then !inD a ds else inD a ds):=by
 unfold ZE at h;cases g:yi b with
 |none=>rw[g]at h;exact nk h
 |some ds =>
  rw[g]at h;ext(⟨c,e⟩:qN h);exact⟨ds,rfl,(aC c).1,(aC c).2,e.symm⟩
def wU{op:CU}{a b:CE}{H:Hp}(s:tD X F Φ (.cmp op a b) σ H Q):Nw (N4 X.K op) (tD X F Φ a) (tD X F Φ b) σ H Q:=by
 ext(⟨R,τ,ρ,d,J,c,s⟩:s)(⟨x,ex,c⟩:aI c)(⟨y,ey,c⟩:aI c);refine tD.intro J ex λv H1 e1 r1=>tD.intro (J.go e1) ey λu H2 e2 r2=>?_;have t:∀{b},d=.bl b->Q (.bl b) H2:=λ{b} z=>s _ H2 (e1.trans e2) (z▸.bl);clear s J;have U:∀n,alD n x y=ok d->Td X.K n v u H2 Q:=λn h=>by
  ext(⟨L,z⟩:qN h)(⟨l,O,e⟩:r1.go e2)(⟨g,M,r⟩:r2);exact⟨x,y,_,_,_,_,e,r,λq p xs f h=>h.sq,λq p xs f h=>h.sq,(aC L).1,(aC L).2,by have:=t z.symm;cases n<;>exact this⟩
 have B:∀f,RV f x y=ok d->Hy (λi j=>.bl (f i j)) v u H2 Q:=λf h=>by
  ext(⟨i,j,rfl,rfl,z⟩:QT h);exact⟨i,j,(r1.go e2).isInt,r2.isInt,t z⟩
 have nn:∀n,nnD n x y=ok d->u=.bX/\Q (.bl (bif n then !decide (v=.bX)else decide (v=.bX))) H2:=λn h=>by
  ext(⟨rfl,z⟩:Oz h)(⟨l,O,e⟩:r1.go e2)(⟨g,M,r⟩:r2);cases r;refine⟨rfl,?_⟩;rw[show decide (v=.bX)=EE x by cases e<;>rfl];exact t z
 have ii:∀n,ZE n x y=ok d->rIn X.K n v u H2 Q:=λn h=>by
  ext(⟨ds,I,c1,c2,z⟩:O9 h);clear h;ext(⟨l,O,e⟩:r1.go e2)(⟨g,M,r⟩:r2)(q:t z);have fin:∀{T:qv} {N:k_} {p:Addr} {xs:ah} {k:Nat},aH T N [] k xs ds->eA X.K H2 p xs\/a_ X.K H2 p xs->rIn X.K n v (.ref p) H2 Q:=λm W=>by
   ext(⟨Z,Y⟩:IW e c1 m c2);exact⟨_,_,rfl,W,Bt e c1,Z,by rw[Y];cases n<;>exact q⟩
  cases r with
  |tup h m=>cases I;exact fin m (.inr h)
  |lst h m=>cases I;exact fin m (.inl h.sq)
  |_=>cases I
 cases op with
 |eq=>exact U false c
 |ne=>exact U true c
 |lt=>exact B _ c
 |le=>exact B _ c
 |gt=>exact B _ c
 |ge=>exact B _ c
def Dx{c:CE}{H:Hp}{Q:Bool->Hp->Prop}(h:jX X F Φ c σ H Q):tB (tD X F Φ c) σ H Q:=by
 ext(⟨R,τ,ρ,b,l,a,i⟩:h);unfold wB at a;ext(⟨d,j,g⟩:aI a);refine tD.intro l j λv H' e r=>?_;cases d<;>simp[ig]at g;cases g;exact⟨_,r.BS,i H' e⟩
def cQ{c:CE}{e:Expr}(h:PE X e (tD X F Φ c))(he:∀whole,Rv e X.env whole=(do let v <- whole;standAt e.pos;holding [v] (truthy v))):PT X e (jX X F Φ c) :=
 PT.imp (s_ h he) λ_ _ _ h=>Dx h
def Bg{op:CU}{a b:CE}{H:Hp}{Q:Bool->Hp->Prop}(h:jX X F Φ (.cmp op a b) σ H Q):Lv (Nw (N4 X.K op) (tD X F Φ a) (tD X F Φ b)) σ H Q :=
 wU (Dx h)
def dictAt{pins:au}{H:Hp}{s:am}{p:Addr}{cs:az}(I:Inv X pins σ H s)(h:H p=↥(.ext (DO p cs as xs ep))):∃o,s.heap.get? p=↥o/\o.cls=.type "dict":=by
 obtain⟨⟨c,o,es,_,_,_,b,a,_⟩,_⟩:=(show cN H s.heap p (.ext (DO p cs as xs ep)) from I.cI p _ h)
 exact⟨o,b,a.1⟩
def OP(L:Lk X S k Φ)(t:Ty):fJ X (.builtin "isinstance") (λxs H Q=>∃(x:V) (d:D) (N:k_) (k:bw),xs=[x,.ty (tyName t)]/\Rep (a_ X.K H) N k x d/\(∀q p xs f,N q p (.l xs) f->eA X.K H p xs)/\(∀q p cs as xs ep f,N q p (.d cs as xs ep) f->H p=↥(.ext (DO p cs as xs ep)))/\Q (.bl (eF t d)) H):=by
 intro pins s σ H xs R Q I r h;ext(⟨x,d,N,k,rfl,B,M,m,q⟩:h)(⟨u,v,rfl,a,J⟩:vals2 r);cases (show v=f0 (tyName t) from J);ext(c:JE X.K t);have fin:∀b:Bool,b=eF t d->∀tk,EP X pins σ Q (.bool b) { s with toks:=tk }:=λb e tk=>⟨.bl b,H,I.tok tk,rfl,[e]\q⟩
 cases B with
 |bX=>cases a;exact ab4 PySem.W.kitx_none I.CK nY (c "NoneType" (by simp[kinds])) (λz=>nomatch z) (fin _ (by cases t<;>rfl))
 |bl b=>cases a;exact ab4 PySem.W.kitx_bool I.CK nY (c "bool" (by simp[kinds])) (λz=>nomatch z) (fin _ (by cases t<;>rfl))
 |int i=>ext(⟨t',rfl⟩:a);exact ab4 PySem.W.kitx_int I.CK nY (c "int" (by simp[kinds])) (λz=>nomatch z) (fin _ (by cases t<;>rfl))
 |str y=>ext(⟨t',rfl⟩:a);exact ab4 PySem.W.kitx_str I.CK nY (c "str" (by simp[kinds])) (λz=>nomatch z) (fin _ (by cases t<;>rfl))
 |tup h _ =>
  cases a;ext(⟨O,_,⟨o,j,g,_⟩,_⟩:I.tuple h);exact ab4 PySem.W.kitx_tuple I.CK ⟨o,j,g⟩ (c "tuple" (by simp[kinds])) (λz=>nomatch z) (fin _ (by cases t<;>rfl))
 |lst h _ =>
  cases a;ext(⟨O,_,⟨o,n,j,g,_⟩,_⟩:I.list (M _ _ _ _ h));exact ab4 PySem.W.kitx_list I.CK ⟨o,j,g⟩ (c "list" (by simp[kinds])) (λz=>nomatch z) (fin _ (by cases t<;>rfl))
 |cF h _ _ =>
  cases a;obtain⟨o,j,g⟩:∃o,s.heap.get? _=↥o/\o.cls=.type "dict":=dictAt I (m _ _ _ _ _ _ _ h);exact ab4 PySem.W.kitx_dict I.CK ⟨o,j,g⟩ (c "dict" (by simp[kinds])) (λz=>nomatch z) (fin _ (by cases t<;>rfl))
def KZ(t:Ty):j_ (tyName t:Str)=↥(.type (tyName t)):=by
 cases t<;>decide +kernel
def ra(t:Ty):(tyName t:Str) ≠ "__name__" /\ ((tyName t:Str)==⇑9)=false:=by
 cases t<;>decide +kernel
def NS(L:Lk X S k Φ){a:CE}{t:Ty}{e:Expr}{p:Pos}(hf:fI S.sc ("isinstance" : Str)=true)(g:("isinstance" : Str)∈S.bl)(n:fI S.sc (tyName t:Str)=true)(c:(tyName t:Str)∈S.bl)
  (r:PE X e (tD X F Φ a)) (j:∀es,cj (e::es) X.env=(false,eval e X.env)::cj es X.env):PE X (.Call (.Name ("isinstance" : Str) p) [e,.Name (tyName t:Str) p'] [] pos) (tD X F Φ (.qM a t)):=by
 have s:PE X (.Name (tyName t:Str) p') (tC (.ty (tyName t))):=zT (L.gl n) (L.bl _ c) (KZ t) rfl (ra t).1 (ra t).2;refine PE.imp (cU (OP L t) (L.gl hf) (L.bl _ g) u6 (b0 r (b0 s cZ) (j _)) (he:=j _)) λσ H Q b=>?_;ext(⟨R,τ,ρ,d,y,i,b⟩:b)(⟨x,u,i⟩:aI i);cases i;refine tD.intro y u λv H1 e1 r1=>?_;ext(⟨l,z,m⟩:r1);exact⟨v,x,_,_,rfl,m,λq p xs f h=>h.sq,λq p cs as xs ep f h=>h.dat,b _ H1 e1 .bl⟩
def OU:@DI.Fp=@L2.Fp:=rfl
protected def S0(L:Lk X S k Φ){a b:CE}{e i:Expr}(W:PE X e (tD X F Φ a))(U:PE X i (tD X F Φ b))(M:oN i):PE X (.Subscript e i pos) (tD X F Φ (.ix a b)):=by
 refine PE.imp (Em (JH.or OT) W U M) λσ H Q r=>?_;ext(⟨R,τ,ρ,d,z,c,r⟩:r)(⟨x,Z,c⟩:aI c)(⟨y,Y,c⟩:aI c);refine tD.intro z Z λv H1 e1 r1=>tD.intro (z.go e1) Y λu H2 e2 r2=>?_;ext(ee:e1.trans e2)(I:(r1.go e2).mono (fv':=gK (.ix a b)) λj O=>aa4 _ O);have item:∀{q:bw} {xs:ah} {ds:aa} {τt:Addr->Option bw} {j:Int},(∀p q,τt p=↥q->H p=none)->aH (a_ X.K H2) (nd X.K R (k9 (gP X F) τ (gK (.ix a b))) τt H2) q 0 xs ds->xh ds j=ok d->∃w,L2.RX xs j=↥w/\Q w H2:=by
  intro q xs ds τt j l g h;unfold xh at h;split at h
  ·rename_i d' hd;cases h;cases n:DI.Fp ds.length j with
   |none=>rw[n]at hd;cases hd
   |some m =>
    rw[n]at hd;ext(⟨w,hw,J⟩:g.get (show ds[m]?=↥d' from hd));refine⟨w,?_,r w H2 ee ⟨λ_=>none,λ_ _ h=>by simp at h,J.gQ z l⟩⟩;unfold L2.RX;exact[-OU,g.length,n]\hw
  ·cases h
 cases y with
 |int j =>
  ext(⟨τt,l,B⟩:I);cases r2.isInt;cases x with
  |tup ds =>
   cases B with
   | @tup _ p xs _ h g=>ext(⟨w,t,s⟩:item l g c);exact .inr ⟨p,xs,j,w,rfl,rfl,h,t,s⟩
  |lst f ds =>
   cases B with
   | @lst _ p xs _ _ h g=>ext(⟨w,t,s⟩:item l g c);exact .inl ⟨p,xs,j,w,rfl,rfl,h.sq,t,s⟩
  |_=>exact nk c
 |_=>cases x<;>cases c
theorem p8:∀(cs:aA) {ρ:aV} {ds:aa},b6 Φ cs ρ=ok ds->ds.length=cs.length
 |[],_,_,h=>by cases h;rfl
 |c::cs,_,_,h=>by
  ext(⟨x,_,h⟩:aI h)(⟨xs,a,h⟩:aI h);cases h;simp[p8 cs a]
def NO{es:aj}{n:Nat}(h:PA X es (ri X F Φ cs))(m:cs.length<=1000):PE X (.Tuple es n pos) (tD X F Φ (.tup cs)):=by
 refine PE.imp (Ob h) λσ H Q a=>?_;ext(⟨R,τ,ρ,d,j,b,a⟩:a)(⟨ds,e,b⟩:aI b);cases b;refine⟨R,τ,ρ,ds,j,e,λvs H1 e1 r1=>?_⟩;ext(⟨τt,i,c⟩:r1);have l:sizeLine=16777216:=acj;refine⟨by rw[c.length,p8 cs e];left,λp g=>?_⟩;have es:aL H1 (upd H1 p (.tup vs)):=aL.upd g;exact a _ _ (e1.trans es) ⟨τt,i,.tup (a_.of aT) (c.imp (λ_ _ h=>a_.same es h) λ_ _ _ _ h=>nd.same es h)⟩
def NR{es:aj}(h:PA X es (ri X F Φ cs))(r:cs.length<=1000):PE X (.List es pos) (tD X F Φ (.lst cs)):=by
 refine PE.imp (tx h) λσ H Q a=>?_;ext(⟨R,τ,ρ,d,m,g,a⟩:a)(⟨ds,j,g⟩:aI g);cases g;refine⟨R,τ,ρ,ds,m,j,λvs H1 e1 r1=>?_⟩;ext(⟨τt,l,i⟩:r1);have n:sizeLine=16777216:=acj;refine⟨by rw[i.length,p8 cs j];left,λp e=>?_⟩;have es:aL H1 (upd H1 p (.lst vs)):=aL.upd e;refine a _ _ (e1.trans es) ⟨λq=>if q=p then ↥[] else τt q,λq z a=>?_,.lst ⟨aT,by simp⟩ (i.imp (λ_ _ h=>a_.same es h) λc q xs f h=>?_)⟩
 ·by_cases b:q=p
  ·subst b;exact e1.free e
  ·simp only[b,if_false]at a;exact l q z a
 ·ext(h':nd.same es h);cases f with
  |ow =>
   have b:q≠p:=by
    intro z;subst z;exact h.1.ne e
   exact⟨h'.1,by simp only[b,if_false];exact h'.2⟩
  |fz=>exact h'
  |al=>exact h'
  |sc=>exact h'
def IJ(L:Lk X S k Φ){f:Nat}{x:Str}{y:Expr}{ys:aj}{p:Pos}(hf:S.fn f=↥x)(O:fI S.sc x=true)(hn:nS x=true)(W:PA X (y::ys) (ri X F Φ cs))
  (B:∀es,cj (y::es) X.env=(false,eval y X.env)::cj es X.env) (hpl:∀pos,(nU pos (cj ys X.env)).any (·.1)=false):PE X (.Call (.Name x p) (y::ys) [] pos) (tD X F Φ (.call f cs)):=by
 ext(⟨a,fd,ps,Fo,I,M,U,J⟩:(L.fn f x hf).ex);unfold nS at hn;simp only[zag,zbb]at hn;refine PE.imp (tE Fo L.room (L.gl O) I M U .nil (L8 (X:=X)) W hn.1.1 (B _) (hpl _)) λσ H Q m=>?_;ext(⟨R,τ,ρ,d,j,g,m⟩:m)(⟨xs,Z,g⟩:aI g)(⟨r,s,g⟩:aI g);cases g;refine⟨R,τ,ρ,xs,j,Z,λvs H1 e1 r1=>?_⟩;ext(⟨τt,Y,n⟩:r1);have fresh:∀p,H p=none->k9 (gP X F) τ (d_ cs) p:=λp b=>⟨.inr (j.same.free b),λc i e=>absurd b (j.th p _ e)⟩
 have hR:∀p,R p->k9 (gP X F) τ (d_ cs) p:=λp b=>⟨j.rf p b,λc i e=>by rw[j.rt p b]at e;cases e⟩
 rw[zaw];refine⟨k9 (gP X F) τ (d_ cs),ao aK xs,r,by rw[n.length,<- J _ _ s,aN,zaa],aH.jA ⇑10 (λk k' p xs f h=>?_) n _ _,s,λv H2 e2 t=>?_⟩
 ·cases f with
  |ow=>exact⟨h.1,fresh p (Y p _ h.2)⟩
  |fz=>exact⟨h.1,hR p h.2⟩
  |al=>exact h
  |sc=>exact h
 ·ext(⟨l,VA,u⟩:t);refine m v H2 (e1.trans e2) ⟨l,λp q h=>e1.free (VA p q h),Rep.map (q:=[]) (q':=[]) ⇑10 (λc p xs f h=>?_) u [] rfl⟩;cases f with
  |ow=>exact h
  |fz=>exact⟨h.1,h.2.elim id λz=>fresh p (e1.free z)⟩
  |al=>exact h.2.elim
  |sc=>exact h
def rBf(K:av)(f:Bf):ah->Hp->VK->Prop:=match f with
 |.len=>λxs H Q=>∃p ys,xs=[.ref p]/\(eA K H p ys\/a_ K H p ys)/\Q ↑ys.length H
 |.abs=>λxs H Q=>∃i,xs=[.int i]/\Q ↑(if i<0 then -i else i) H
 |.min2=>λxs H Q=>∃i j,xs=[.int i,.int j]/\Q ↑(if j<i then j else i) H
 |.max2=>λxs H Q=>∃i j,xs=[.int i,.int j]/\Q ↑(if j>i then j else i) H
 |.list1=>λxs H Q=>∃p ys,xs=[.ref p]/\(eA K H p ys\/a_ K H p ys)/\∀l,H l=none->Q (.ref l) (upd H l (.lst ys))
 |.tuple1=>λxs H Q=>∃p ys,xs=[.ref p]/\((eA K H p ys/\∀l,H l=none->Q (.ref l) (upd H l (.tup ys)))\/(a_ K H p ys/\Q (.ref p) H))
 |.jv=>λxs H Q=>∃(p:Addr) (ns:ae),xs=[.ref p]/\eA K H p (ns.map V.int)/\Q ↑ns.sum H
 |.all1=>λxs H Q=>∃(p:Addr) (bs:List Bool),xs=[.ref p]/\eA K H p (bs.map V.bl)/\Q (.bl (bs.all id)) H
 |.iN=>λxs H Q=>∃(p:Addr) (ns:ae),xs=[.ref p]/\(eA K H p (ns.map V.int)\/a_ K H p (ns.map V.int))/\ns.length<64/\∀l,H l=none->Q (.ref l) (upd H l (.lst ((sortI ns).map V.int)))
def aH.one{k:bw}{n:Nat}{d:D}(h:aH T N k n vs [d]):∃v,vs=[v]/\Rep T N (n::k) v d:=by
 cases h with
 |cons h t=>cases t;exact⟨_,rfl,h⟩
def aH.two{k:bw}{n:Nat}{d e:D}(h:aH T N k n vs [d,e]):∃v w,vs=[v,w]/\Rep T N (n::k) v d/\Rep T N ((n+1)::k) w e:=by
 cases h with
 |cons h t=>ext(⟨w,rfl,h'⟩:t.one);exact⟨_,_,rfl,h,h'⟩
def aH.ints1{k:bw}{n:Nat}{i:Int}(h:aH T N k n vs [.int i]):vs=[.int i]:=by
 ext(⟨v,rfl,z⟩:h.one);cases z;rfl
def aH.ints2{k:bw}{n:Nat}{i j:Int}(h:aH T N k n vs [.int i,.int j]):vs=[.int i,.int j]:=by
 ext(⟨v,w,rfl,z,a⟩:h.two);cases z;cases a;rfl
meta def Bf.one:Bf->Bool
 |.min2=>false
 |.max2=>false
 |_=>true
def Q5{f:Bf}{xs:aa}{d:D}(hf:f.one=true)(h:qU f xs=ok d):∃x,xs=[x]:=by
 cases xs with
 |nil=>cases f<;>exact nk h
 |cons x xs=>cases xs with
  |nil=>exact⟨x,rfl⟩
  |cons y ys=>cases f<;>first | (cases hf;done) | (cases x<;>exact nk h)
def bf2{xs:aa}{d:D}(h:qU .min2 xs=ok d):∃i j,xs=[.int i,.int j]:=by
 cases xs with
 |nil=>cases h
 |cons x xs=>cases xs with
  |nil=>cases x<;>cases h
  |cons y ys=>cases ys with
   |cons z a=>cases x<;>first | (cases h;done) | (cases y<;>cases h)
   |nil=>cases x<;>first | (cases h;done) | (cases y<;>first|exact⟨_,_,rfl⟩ | (cases h;done))
def bf3{xs:aa}{d:D}(h:qU .max2 xs=ok d):∃i j,xs=[.int i,.int j]:=by
 cases xs with
 |nil=>cases h
 |cons x xs=>cases xs with
  |nil=>cases x<;>cases h
  |cons y ys=>cases ys with
   |cons z a=>cases x<;>first | (cases h;done) | (cases y<;>cases h)
   |nil=>cases x<;>first | (cases h;done) | (cases y<;>first|exact⟨_,_,rfl⟩ | (cases h;done))
theorem aH.ofInts{T:qv}{N:k_}{k:bw}:∀{ns:ae} {n:Nat} {vs:ah},aH T N k n vs (ns.map D.int)->vs=ns.map V.int
 |[],_,_,h=>by cases h;rfl
 |i::ns,_,_,h=>by
  cases h with
  |cons h t=>cases h;rw[aH.ofInts t];rfl
theorem aH.Mb{T:qv}{N:k_}{k:bw}:∀{ns:List Bool} {n:Nat} {vs:ah},aH T N k n vs (ns.map D.bl)->vs=ns.map V.bl
 |[],_,_,h=>by cases h;rfl
 |i::ns,_,_,h=>by
  cases h with
  |cons h t=>cases h;rw[aH.Mb t];rfl
theorem mS{T:qv}{N:k_}{k:bw}:∀(ns:ae) {n:Nat},aH T N k n (ns.map V.int) (ns.map D.int)
 |[],_=>.nil
 |i::ns,_=>.cons ↑i (mS ns)
protected def K2{f:Bf}{H:Hp}(g:tD X F Φ (.bf f cs) σ H Q):SF (rBf X.K f) (ri X F Φ cs) σ H Q:=by
 ext(⟨R,τ,ρ,d,p,a,g⟩:g)(⟨xs,u,a⟩:aI a);refine⟨R,τ,ρ,xs,p,u,λvs H1 e1 r1=>?_⟩;ext(⟨τt,t,m⟩:r1);cases f with
 |len =>
  ext(⟨x,rfl⟩:Q5 rfl a)(⟨v,rfl,c⟩:m.one);cases x with
  |tup ds=>cases a;ext(⟨_,_,rfl,h,r⟩:c.C_);exact⟨_,_,rfl,.inr h,[r.length]\g _ H1 e1 .int⟩
  |lst f ds=>cases a;ext(⟨_,_,rfl,h,r⟩:c.nI);exact⟨_,_,rfl,.inl h.sq,[r.length]\g _ H1 e1 .int⟩
  |_=>exact nk a
 |abs =>
  ext(⟨x,rfl⟩:Q5 rfl a);cases x with
  |int i=>cases a;cases m.ints1;exact⟨_,rfl,g _ H1 e1 .int⟩
  |_=>exact nk a
 |min2 =>
  ext(⟨i,j,rfl⟩:bf2 a);cases a;cases m.ints2;exact⟨_,_,rfl,g _ H1 e1 .int⟩
 |max2 =>
  ext(⟨i,j,rfl⟩:bf3 a);cases a;cases m.ints2;exact⟨_,_,rfl,g _ H1 e1 .int⟩
 |list1 =>
  ext(⟨x,rfl⟩:Q5 rfl a)(⟨v,rfl,c⟩:m.one);cases x with
  |tup ds =>
   cases a;ext(⟨_,_,rfl,h,r⟩:c.C_);refine⟨_,_,rfl,.inr h,λl b=>?_⟩;exact g _ _ (e1.trans (aL.upd b)) (ck.qJ (e1.free b) (e1.trans (aL.upd b)) aT ((r.gQ p t).imp (λ_ _ h=>a_.same (aL.upd b) h) λ_ _ _ _ h=>nd.same (aL.upd b) h))
  |lst f ds =>
   cases a;ext(⟨_,_,rfl,h,r⟩:c.nI);refine⟨_,_,rfl,.inl h.sq,λl b=>?_⟩;exact g _ _ (e1.trans (aL.upd b)) (ck.qJ (e1.free b) (e1.trans (aL.upd b)) aT ((r.gQ p t).imp (λ_ _ h=>a_.same (aL.upd b) h) λ_ _ _ _ h=>nd.same (aL.upd b) h))
  |_=>exact nk a
 |tuple1 =>
  ext(⟨x,rfl⟩:Q5 rfl a)(⟨v,rfl,c⟩:m.one);cases x with
  |lst f ds =>
   cases a;ext(⟨_,_,rfl,h,r⟩:c.nI);refine⟨_,_,rfl,.inl ⟨h.sq,λl b=>?_⟩⟩;exact g _ _ (e1.trans (aL.upd b)) ⟨λ_=>none,λ_ _ h=>by simp at h,.tup (a_.of aT) ((r.gQ p t).imp (λ_ _ h=>a_.same (aL.upd b) h) λ_ _ _ _ h=>nd.same (aL.upd b) h)⟩
  |_=>exact nk a
 |jv =>
  ext(⟨x,rfl⟩:Q5 rfl a)(⟨v,rfl,c⟩:m.one);cases x with
  |lst f ds =>
   have a:(match intsOf ds with|↥ns=>ok ↑ns.sum|none=>none)=ok d:=a;cases n:intsOf ds with
   |none=>rw[n]at a;cases a
   |some ns =>
    rw[n]at a;cases a;cases dX n;cases c with
    |lst h r=>cases r.ofInts;exact⟨_,ns,rfl,h.sq,g _ H1 e1 .int⟩
  |_=>exact nk a
 |all1 =>
  ext(⟨x,rfl⟩:Q5 rfl a)(⟨v,rfl,c⟩:m.one);cases x with
  |lst f ds =>
   have a:(match jJ ds with|↥bs=>ok (.bl (bs.all id))|none=>none)=ok d:=a;cases n:jJ ds with
   |none=>rw[n]at a;cases a
   |some ns =>
    rw[n]at a;cases a;cases xf n;cases c with
    |lst h r=>cases r.Mb;exact⟨_,ns,rfl,h.sq,g _ H1 e1 .bl⟩
  |_=>exact nk a
 |iN =>
  ext(⟨x,rfl⟩:Q5 rfl a)(⟨v,rfl,c⟩:m.one);have fin:∀ds,vm ds=ok d->∃ns:ae,ds=ns.map D.int/\ns.length<64/\∀l,H1 l=none->Q (.ref l) (upd H1 l (.lst ((sortI ns).map V.int))):=by
   intro ds e;unfold vm at e;split at e
   ·rename_i ns n;split at e
    ·rename_i s;cases e;refine⟨ns,dX n,s,λl b=>g _ _ (e1.trans (aL.upd b)) (ck.qJ (e1.free b) (e1.trans (aL.upd b)) aT (mS _))⟩
    ·cases e
   ·cases e
  cases x with
  |tup ds =>
   ext(⟨ns,rfl,s,q⟩:fin ds a);cases c with
   |tup h r=>cases r.ofInts;exact⟨_,ns,rfl,.inr h,s,q⟩
  |_=>exact nk a
def S7(L:Lk X S k Φ){f:Bf}{y:Expr}{ys:aj}{p:Pos}(b:fI S.sc (uC f:Str)=true)(c:(uC f:Str)∈S.bl)(d:PA X (y::ys) (ri X F Φ cs))
  (a:∀es,cj (y::es) X.env=(false,eval y X.env)::cj es X.env) (hpl:∀pos,(nU pos (cj ys X.env)).any (·.1)=false):PE X (.Call (.Name (uC f:Str) p) (y::ys) [] pos) (tD X F Φ (.bf f cs)):=by
 refine PE.imp (t:=SF (rBf X.K f) (ri X F Φ cs)) ?_ λσ H Q e=>K2 e;cases f with
 |len=>exact cU uz (L.gl b) (L.bl _ c) ZP d (he:=a _) (hpl:=hpl _)
 |abs=>exact cU G3 (L.gl b) (L.bl _ c) ⇑6 d (he:=a _) (hpl:=hpl _)
 |min2=>exact cU (Ct L.calm) (L.gl b) (L.bl _ c) ⇑6 d (he:=a _) (hpl:=hpl _)
 |max2=>exact cU (Cu L.calm) (L.gl b) (L.bl _ c) ⇑6 d (he:=a _) (hpl:=hpl _)
 |list1=>exact rE uy (L.gl b) (L.bl _ c) ⇑6 d (he:=a _) (hpl:=hpl _)
 |tuple1=>exact rE qT (L.gl b) (L.bl _ c) ⇑6 d (he:=a _) (hpl:=hpl _)
 |jv=>exact cU (Cs L.calm) (L.gl b) (L.bl _ c) ⇑6 d (he:=a _) (hpl:=hpl _)
 |iN=>exact cU ux (L.gl b) (L.bl _ c) ⇑6 d (he:=a _) (hpl:=hpl _)
 |all1=>exact cU (Cv L.calm) (L.gl b) (L.bl _ c) ⇑6 d (he:=a _) (hpl:=hpl _)
protected def IH(L:Lk X S k Φ){a:CE}{e:Expr}{p:Pos}(hf:fI S.sc ("len" : Str)=true)(i:("len" : Str)∈S.bl)(s:fI S.sc ("set" : Str)=true)(g:("set" : Str)∈S.bl)
  (t:PE X e (tD X F Φ a)) (j:∀es,cj (e::es) X.env=(false,eval e X.env)::cj es X.env):PE X (.Call (.Name ("len" : Str) p) [.Call (.Name ("set" : Str) p') [e] [] pos'] [] pos) (tD X F Φ (.mQ a)):=by
 refine PE.imp (Jj L.calm (L.gl hf) (L.bl _ i) (L.gl s) (L.bl _ g) (b0 t cZ (j _)) j) λσ H Q c=>?_;ext(⟨R,τ,ρ,d,y,b,c⟩:c)(⟨x,u,b⟩:aI b);refine tD.intro y u λv H1 e1 r1=>?_;ext(⟨l,z,m⟩:r1);cases x with
 |tup ds =>
  simp only[z4]at b;split at b
  ·rename_i ns n;split at b
   ·rename_i q;cases b;cases dX n;cases m with
    |tup h r=>cases r.ofInts;exact⟨_,ns,rfl,h,q,c _ H1 e1 .int⟩
   ·cases b
  ·cases b
 |_=>exact nk b
def NP{a:CE}{e:Expr}(h:PE X e (tD X F Φ a)):PE X (.UnaryOp .Not e pos) (tD X F Φ (.not a)):=by
 refine PE.imp (Od h) λσ H Q g=>?_;ext(⟨R,τ,ρ,d,l,i,g⟩:g)(⟨b,c,i⟩:aI i)(⟨x,j,c⟩:aI c);cases i;refine tD.intro l j λv H1 e1 r1=>?_;cases x<;>simp[ig]at c;cases c;exact⟨_,r1.BS,g _ H1 e1 .bl⟩
def ND{a:CE}{e:Expr}(h:PT X e (jX X F Φ a)):PT X (.UnaryOp .Not e pos) (jX X F Φ (.not a)):=by
 refine PT.imp (tf h) λσ H Q i=>?_;ext(⟨R,τ,ρ,b,n,g,i⟩:i);unfold wB at g;ext(⟨d,l,g⟩:aI g)(⟨c,m,l⟩:aI l);cases l;have j:b=!c:=by
  have e2:ok (!c)=ok b:=g;exact(UI (aaI e2)).symm
 subst j;exact⟨R,τ,ρ,c,n,m,λH' e=>i H' e⟩
def NQ{a:CE}{e:Expr}(h:PE X e (tD X F Φ a)):PE X (.UnaryOp .USub e pos) (tD X F Φ (.neg a)):=by
 refine PE.imp (Tu Nn h) λσ H Q c=>?_;ext(⟨R,τ,ρ,d,i,b,c⟩:c)(⟨x,g,b⟩:aI b);refine tD.intro i g λv H1 e1 r1=>?_;cases x<;>simp[Jw]at b;cases b;exact⟨_,r1.isInt,c _ H1 e1 .int⟩
def K_{c:CE}{H:Hp}(e:tD X F Φ (.and [c]) σ H Q):tD X F Φ c σ H Q:=by
 ext(⟨R,τ,ρ,d,j,g,e⟩:e)(⟨b,a,g⟩:aI g)(⟨x,i,a⟩:aI a);cases g;refine tD.intro j i λv H1 e1 r1=>?_;cases x<;>simp[ig]at a;cases a;exact[r1.BS]\e _ H1 e1 .bl
def Oi{c:CE}{H:Hp}(e:tD X F Φ (.or [c]) σ H Q):tD X F Φ c σ H Q:=by
 ext(⟨R,τ,ρ,d,j,g,e⟩:e)(⟨b,a,g⟩:aI g)(⟨x,i,a⟩:aI a);cases g;refine tD.intro j i λv H1 e1 r1=>?_;cases x<;>simp[ig]at a;cases a;exact[r1.BS]\e _ H1 e1 .bl
def Hc{c:CE}{H:Hp}{Q:Bool->Hp->Prop}(e:jX X F Φ (.and [c]) σ H Q):jX X F Φ c σ H Q:=by
 ext(⟨R,τ,ρ,d,j,a,e⟩:e);unfold wB at a;ext(⟨b,g,a⟩:aI a)(⟨x,i,g⟩:aI g);cases g;cases a;exact⟨R,τ,ρ,_,j,i,e⟩
def Jn{c:CE}{H:Hp}{Q:Bool->Hp->Prop}(e:jX X F Φ (.or [c]) σ H Q):jX X F Φ c σ H Q:=by
 ext(⟨R,τ,ρ,d,j,a,e⟩:e);unfold wB at a;ext(⟨b,g,a⟩:aI a)(⟨x,i,g⟩:aI g);cases g;cases a;exact⟨R,τ,ρ,_,j,i,e⟩
def Hd{c:CE}{H:Hp}(g:tD X F Φ (.and (c::c'::cs)) σ H Q):Lw (tD X F Φ c) (tD X F Φ (.and (c'::cs))) σ H Q:=by
 ext(⟨R,τ,ρ,d,l,a,g⟩:g)(⟨b,j,a⟩:aI a)(⟨x,n,j⟩:aI j);refine tD.intro l n λv H1 e1 r1=>?_;cases x<;>simp[ig]at j;cases j;refine⟨_,r1.BS,?_⟩;cases b with
 |true =>
  rw[zac rfl]at a ⊢;exact tD.intro (l.go e1) a λv H' e r=>g v H' (e1.trans e) ((r.old e1).mono λi m=>aay _ m)
 |false =>
  rw[zab ⇑5]at a ⊢;cases a;exact g _ H1 e1 .bl
def Jo{c:CE}{H:Hp}(g:tD X F Φ (.or (c::c'::cs)) σ H Q):Sv (tD X F Φ c) (tD X F Φ (.or (c'::cs))) σ H Q:=by
 ext(⟨R,τ,ρ,d,l,a,g⟩:g)(⟨b,j,a⟩:aI a)(⟨x,n,j⟩:aI j);refine tD.intro l n λv H1 e1 r1=>?_;cases x<;>simp[ig]at j;cases j;refine⟨_,r1.BS,?_⟩;cases b with
 |false =>
  rw[zab ⇑5]at a ⊢;exact tD.intro (l.go e1) a λv H' e r=>g v H' (e1.trans e) ((r.old e1).mono λi m=>aay _ m)
 |true =>
  rw[zac rfl]at a ⊢;cases a;exact g _ H1 e1 .bl
def Cw{c:CE}{H:Hp}{Q:Bool->Hp->Prop}(g:jX X F Φ (.and (c::c'::cs)) σ H Q):SH (jX X F Φ c) (jX X F Φ (.and (c'::cs))) σ H Q:=by
 ext(⟨R,τ,ρ,d,j,a,g⟩:g);unfold wB at a;ext(⟨x,l,i⟩:aI a)(⟨b,m,a⟩:aI l);refine⟨R,τ,ρ,b,j,m,λH1 e1=>?_⟩;cases b with
 |true =>
  rw[zac rfl]at a ⊢;exact⟨R,τ,ρ,d,j.go e1,by unfold wB;rw[show bg Φ (.and (c'::cs)) ρ=ok x from a];exact i,λH' e=>g H' (e1.trans e)⟩
 |false =>
  rw[zab ⇑5]at a ⊢;cases a;cases i;exact g H1 e1
def Eu{c:CE}{H:Hp}{Q:Bool->Hp->Prop}(g:jX X F Φ (.or (c::c'::cs)) σ H Q):tOr (jX X F Φ c) (jX X F Φ (.or (c'::cs))) σ H Q:=by
 ext(⟨R,τ,ρ,d,j,a,g⟩:g);unfold wB at a;ext(⟨x,l,i⟩:aI a)(⟨b,m,a⟩:aI l);refine⟨R,τ,ρ,b,j,m,λH1 e1=>?_⟩;cases b with
 |false =>
  rw[zab ⇑5]at a ⊢;exact⟨R,τ,ρ,d,j.go e1,by unfold wB;rw[show bg Φ (.or (c'::cs)) ρ=ok x from a];exact i,λH' e=>g H' (e1.trans e)⟩
 |true =>
  rw[zac rfl]at a ⊢;cases a;cases i;exact g H1 e1
def jW{H:Hp}{Q:ah->Hp->Prop}(a:ri X F Φ [] σ H Q):Nx σ H Q:=by
 ext(⟨R,τ,ρ,d,c,b,a⟩:a);cases b;exact a _ H (aL.refl H) .nil
def fY{c:CE}{H:Hp}{Q:ah->Hp->Prop}(b:ri X F Φ (c::cs) σ H Q):Dy (tD X F Φ c) (ri X F Φ cs) σ H Q:=by
 ext(⟨R,τ,ρ,d,g,a,b⟩:b)(⟨x,j,a⟩:aI a)(⟨xs,l,a⟩:aI a);cases a;refine tD.intro g j λv H1 e1 r1=>⟨R,τ,ρ,xs,g.go e1,l,λvs H2 e2 r2=>b _ H2 (e1.trans e2) (cW.cons e1 e2 (r1.mono λi e=>aa4 _ e) (r2.mono λi e=>aay _ e))⟩
def bG{c:CE}{e:Expr}(h:cc S c e=true)(es:aj)(env:Env):cj (e::es) env=(false,eval e env)::cj es env:=by
 cases e<;>first|rfl | (cases c<;>exact(aad h).elim)
theorem yJ:∀{cs:aA} {es:aj},bW S cs es=true->∀(pos:Pos) (env:Env),(nU pos (cj es env)).any (·.1)=false
 |[],[],_,_,_=>rfl
 |[],_::_,h,_,_=>by exact(aad h).elim
 |_::_,[],h,_,_=>by exact(aad h).elim
 |c::cs,e::es,h,pos,env=>by
  replace h:=aC h;rw[bG h.1];have:=yJ h.2 pos env;unfold nU at this ⊢;simp only[zam,yaC,yaF];exact this
def r_{c:CE}{e:Expr}(h:cc S c e=true):oN e:=by
 intro o i;cases e<;>first|rfl | (cases c<;>exact(aad h).elim)
def DK{j:Nat}:PE X (.Constant .none j pos) (tD X F Φ .bX):=PE.imp El λσ H Q c=>by ext(⟨R,τ,ρ,d,e,b,a⟩:c);cases b;exact a _ H (aL.refl H) .bX
def LF{b:Bool}{j:Nat}:PE X (.Constant (.bool b) j pos) (tD X F Φ (.bl b)):=PE.imp L4 λσ H Q e=>by ext(⟨R,τ,ρ,d,g,c,a⟩:e);cases c;exact a _ H (aL.refl H) .bl
def DL{i:Int}{j:Nat}:PE X (.Constant ↑i j pos) (tD X F Φ ↑i):=PE.imp Oe λσ H Q c=>by ext(⟨R,τ,ρ,d,e,b,a⟩:c);cases b;exact a _ H (aL.refl H) .int
def DJ{i:Str}{j:Nat}:PE X (.Constant (.str i) j pos) (tD X F Φ (.str i)):=PE.imp o_ λσ H Q c=>by ext(⟨R,τ,ρ,d,e,b,a⟩:c);cases b;exact a _ H (aL.refl H) .str
def OW(L:Lk X S k Φ){y:Expr}{p:Pos}(m:fI S.sc ("range" : Str)=true)(l:("range" : Str)∈S.bl)(j:PA X [y] (ri X F Φ es))(a:bW S es [y]=true)
  (pins:au) (s:am) (σ:St) (H:Hp) (R:af) (τ:Addr->Option bw) (ρ:aV) (xs items:aa) (I:Inv X pins σ H s) (r:SI X F R τ ρ σ H) (q:b6 Φ es ρ=ok xs) (b:eP Φ .nu xs=ok items) (d:It->Hp->Prop)
  (hR:∀J H2,aL H H2->Yl X.K J (lM X F τ (caps++d_ es) H2) H2 items->d J H2) :
  ⇑0 (eval (.Call (.Name ("range" : Str) p) [y] [] BU) X.env) (λv e=>⇑0 (rO v) (HI X pins σ target d) X.xe e) X.xe s:=by
 match es,a with
 |[c],a =>
  replace a:=aC a;refine rC (L.gl m) (L.bl _ l) j (bG a.1 _ _) pins s σ H d I ⟨R,τ,ρ,xs,r,q,λvs H1 e1 g=>?_⟩;ext(⟨τt,z,i⟩:g);obtain⟨n,rfl⟩:∃n,xs=[.int n]:=by
   cases xs with
   |nil=>cases b
   |cons x t=>cases x<;>first | (cases b;done) | (cases t with|nil=>exact⟨_,rfl⟩|cons _ _=>cases b)
  cases i.ints1
  ·ext(⟨⟨c1,c2⟩,b⟩:qN b);subst b;have u:(cB:Int)=1000000:=rfl;refine⟨n,rfl,by left,by left,hR _ H1 e1 ?_⟩;have:=CY (X:=X) (lo:=0) (n:=n.toNat) (R:=lM X F τ (caps++d_ [c]) H1) (H1:=H1);simpa using this
 |[],a=>exact(aad a).elim
 |_::_::_,a=>exact(aad (aC a).2).elim
def JN(L:Lk X S k Φ){y z:Expr}{p:Pos}(q:fI S.sc ("range" : Str)=true)(l:("range" : Str)∈S.bl)(j:PA X [y,z] (ri X F Φ es))(a:bW S es [y,z]=true)
  (pins:au) (s:am) (σ:St) (H:Hp) (R:af) (τ:Addr->Option bw) (ρ:aV) (xs items:aa) (I:Inv X pins σ H s) (B:SI X F R τ ρ σ H) (r:b6 Φ es ρ=ok xs) (b:eP Φ .mI xs=ok items) (d:It->Hp->Prop)
  (hR:∀J H2,aL H H2->Yl X.K J (lM X F τ (caps++d_ es) H2) H2 items->d J H2) :
  ⇑0 (eval (.Call (.Name ("range" : Str) p) [y,z] [] BU) X.env) (λv e=>⇑0 (rO v) (HI X pins σ target d) X.xe e) X.xe s:=by
 match es,a with
 |[c,c'],a =>
  replace a:=And.intro (aC a).1 (aC (aC a).2);refine rB (L.gl q) (L.bl _ l) j (by rw[bG a.1,bG a.2.1];rfl) (bG a.2.1 _ _) pins s σ H d I ⟨R,τ,ρ,xs,B,r,λvs H1 e1 g=>?_⟩;ext(⟨τt,O,i⟩:g);obtain⟨m,n,rfl⟩:∃m n,xs=[.int m,.int n]:=by
   cases xs with
   |nil=>cases b
   |cons x t=>cases x<;>first | (cases b;done) | (cases t with
    |nil=>cases b
    |cons y u=>cases y<;>first | (cases b;done) | (cases u with|nil=>exact⟨_,_,rfl⟩|cons _ _=>cases b))
  cases i.ints2
  ·ext(⟨⟨c1,c2,W,U⟩,b⟩:qN b);subst b;have M:(cB:Int)=1000000:=rfl;exact⟨m,n,rfl,⟨by left,by left,by left,by left⟩,hR _ H1 e1 CY⟩
 |[],a=>exact(aad a).elim
 |[_],a=>exact(aad (aC a).2).elim
 |_::_::_::_,a=>exact(aad (aC (aC a).2).2).elim
def OV(L:Lk X S k Φ){c:CE}{y:Expr}(z:PE X y (tD X F Φ c))
  (pins:au) (s:am) (σ:St) (H:Hp) (R:af) (τ:Addr->Option bw) (ρ:aV) (xs items:aa) (I:Inv X pins σ H s) (g:SI X F R τ ρ σ H) (d:b6 Φ [c] ρ=ok xs) (r:eP Φ .seq xs=ok items) (j:It->Hp->Prop)
  (hR:∀J H2,aL H H2->Yl X.K J (lM X F τ (caps++d_ [c]) H2) H2 items->j J H2) :
  ⇑0 (eval y X.env) (λv M=>⇑0 (rO v) (HI X pins σ target j) X.xe M) X.xe s:=by
 ext(⟨x,B,d⟩:aI d)(⟨xs',u,d⟩:aI d);cases u;cases d;have b:∀i∈gK c,i∈caps++d_ [c]:=λi O=>aay _ (aa4 _ O);cases x with
 |tup ds =>
  cases r;refine x5 z pins s σ H j I (tD.intro g B λv H1 e1 l=>?_);ext(⟨τt,t,n⟩:l);cases n with
  | @tup _ p ys _ a m=>exact⟨p,rfl,⟨ys,a⟩,hR _ H1 e1 (CW (q:=[]) (λe=>a_.same e a) (aH.jA ⇑10 (xX g t b) m _ _))⟩
 |lst f ds =>
  cases r;refine tu z pins s σ H j I (tD.intro g B λv H1 e1 l=>?_);ext(⟨τt,t,n⟩:l);cases n with
  | @lst _ p ys _ _ a m=>exact⟨p,rfl,⟨ys,a.sq⟩,hR _ H1 e1 (CW (q:=[]) (λe=>e.seq a.sq) (aH.jA ⇑10 (xX g t b) m _ _))⟩
 |_=>cases r
def R6{R:af}{H:Hp}{xs:aa}{J:It}(l:SI X F R τ ρ σ H)(hs:∀i∈fv,i∈fv')(r:cW X.K (gP X F) R τ fv H H2 vs xs)(y:XU X.K J H2 vs xs items):
  Yl X.K J (lM X F τ fv' H2) H2 items:=by
 ext(⟨τt,j,c⟩:r);have a:∀H',aL H2 H'->aH (a_ X.K H') (nd X.K (lM X F τ fv' H2) ⇑7 ⇑8 H') [] 0 vs (ao aK xs):=λH' e =>
  (aH.jA (T':=a_ X.K H2) ⇑10 (xX l j hs) c [] 0).imp (λ_ _ h=>a_.same e h) λ_ _ _ _ h=>nd.same e h
 have st:∀H',aL H2 H'->xl X.K H2 vs xs H':=λH' e=>⟨⟨_,a H2 (aL.refl H2),λp o _ h=>e p o h⟩,λ_ _ h=>a_.same e h⟩
 exact⟨λi H' e b=>y.go i H' _ (st H' e) (a H' e) b,λi H' x d e b g=>y.y8 i H' _ x d (st H' e) (a H' e) b g,λi H' e b=>y.stop i H' _ (st H' e) (a H' e) b⟩
def OX(L:Lk X S k Φ){p:Nat}{y:Expr}(l:S.px.pi p S.sc S.bl y=↥args)(j:(decide (1100<=p)||jD target)=true)(hs:qx X F Φ es args)
  (pins:au) (s:am) (σ:St) (H:Hp) (R:af) (τ:Addr->Option bw) (ρ:aV) (xs items:aa) (I:Inv X pins σ H s) (b:SI X F R τ ρ σ H) (t:b6 Φ es ρ=ok xs) (g:eP Φ (.cJ p) xs=ok items) (a:It->Hp->Prop)
  (hR:∀J H2,aL H H2->Yl X.K J (lM X F τ (caps++d_ es) H2) H2 items->a J H2) :
  ⇑0 (eval y X.env) (λv e=>⇑0 (rO v) (HI X pins σ target a) X.xe e) X.xe s:=by
 ext(⟨d,q,n⟩:aI (show bd (Φ p xs) xW=ok items from g));exact L.pr.i X _ _ k L.pX p y args l F es target j hs pins s σ H R τ ρ xs d items I b t q n a λJ H2 vs e2 r c=>hR J H2 e2 (R6 b (λi m=>by simp[m]) r c)
def wO{i:Sx}{a:aj}(m:bU.length<=1)(g:bW i bU a=true)
  (l:∀(b:Cx) (d:af),Lk b i k Φ->∀(j:Nat) (c:CE) (e:Expr),bU[j]?=↥c->a[j]?=↥e->PE b e (tD b d Φ c)/\PT b e (jX b d Φ c)) :
  (bU=[]/\a=[])\/∃c e,bU=[c]/\a=[e]/\∀(b:Cx) (d:af),Lk b i k Φ->PT b e (jX b d Φ c):=by
 cases bU with
 |nil=>cases a with
  |nil=>exact .inl ⟨rfl,rfl⟩
  |cons _ _=>exact(aad g).elim
 |cons c cs=>cases cs with
  |cons _ _=>simp at m
  |nil=>cases a with
   |nil=>exact(aad g).elim
   |cons e a=>cases a with
    |cons _ _=>exact(aad (aC g).2).elim
    |nil=>exact .inr ⟨c,e,rfl,rfl,λb d n=>(l b d n 0 c e rfl rfl).2⟩
def V0(S:Sx)(a:IK)(es:aA)(target iter:Expr):Bool:=match a with
 |.nu=>bA (eC iter) λw=>decide (w.1=("range" : Str))&&fI S.sc w.1&&decide (w.1∈S.bl)&&bA (one w.2) λy=>bW S es [y]
 |.mI=>bA (eC iter) λw=>decide (w.1=("range" : Str))&&fI S.sc w.1&&decide (w.1∈S.bl)&&bA (two w.2) λy=>bW S es [y.1,y.2]
 |.seq=>bW S es [iter]
 |.cJ p=>WW iter&&(decide (1100<=p)||jD target)&&bA (S.px.pi p S.sc S.bl iter) λxs=>bW S es xs
def Fq(L:Lk X S k Φ){g:IK}(I:∀l,bW S es l=true->PA X l (ri X F Φ es))
  (W:∀l,bW S es l=true->∀(j:Nat) (c:CE) (e:Expr),es[j]?=↥c->l[j]?=↥e->PE X e (tD X F Φ c)/\PT X e (jX X F Φ c)) (n:∀l,bW S es l=true->qx X F Φ es l) (a:V0 S g es target iter=true) :
  ∀(pins:au) (s:am) (σ:St) (H:Hp) (R:af) (τ:Addr->Option bw) (ρ:aV) (xs items:aa),Inv X pins σ H s->SI X F R τ ρ σ H->b6 Φ es ρ=ok xs->eP Φ g xs=ok items->∀(M:It->Hp->Prop),
   (∀J H2,aL H H2->Yl X.K J (lM X F τ (caps++d_ es) H2) H2 items->M J H2) ->
   ⇑0 (eval iter X.env) (λv U=>⇑0 (rO v) (HI X pins σ target M) X.xe U) X.xe s:=by
 cases g with
 |nu =>
  ext(⟨⟨x,as⟩,i,a⟩:bu a)(⟨p,BU,rfl⟩:b9 i)(⟨t,d⟩:aC a)(⟨u,q⟩:aC t)(⟨B,r⟩:aC u);obtain rfl:x=_:=aac B;ext(⟨y,m,b⟩:bu d);obtain rfl:as=[y]:=bM m;exact OW L r (aac q) (I _ b) b
 |mI =>
  ext(⟨⟨x,as⟩,i,a⟩:bu a)(⟨p,BU,rfl⟩:b9 i)(⟨t,d⟩:aC a)(⟨u,q⟩:aC t)(⟨B,r⟩:aC u);obtain rfl:x=_:=aac B;ext(⟨⟨y,z⟩,m,b⟩:bu d);obtain rfl:as=[y,z]:=fX m;exact JN L r (aac q) (I _ b) b
 |seq =>
  ext(O:W _ a);cases es with
  |nil=>exact(aad a).elim
  |cons c cs=>cases cs with
   |cons _ _=>exact(aad (aC a).2).elim
   |nil=>exact OV L (O 0 c _ rfl rfl).1
 |cJ p =>
  ext(⟨a,d⟩:aC a)(⟨xs,Y,b⟩:bu d);exact OX L Y (aC a).2 (n _ b)
mutual
theorem bE:∀(c:CE) (X:Cx) (S:Sx) (F:af) (L:Lk X S k Φ) (e:Expr),cc S c e=true->PE X e (tD X F Φ c)/\PT X e (jX X F Φ c)
 |.cJ p cs,X,S,F,L,e,h=>by
  ext(⟨args,ha,hb⟩:bu (aC h).2);exact L.pr.e X _ _ k L.pX p e args ha F cs (j4 cs X S F L args hb)
 |.bX,X,S,F,L,e,h=>by
  ext(⟨c,m,h_1⟩:bu h)(⟨j,p,rfl⟩:uZ m)(rfl:BP h_1);exact⟨DK,cQ DK λ_=>rfl⟩
 |.bl b,X,S,F,L,e,h=>by
  ext(⟨c,m,h_1⟩:bu h)(⟨j,p,rfl⟩:uZ m)(rfl:Fw h_1);exact⟨LF,cQ LF λ_=>rfl⟩
 |.int i,X,S,F,L,e,h=>by
  ext(⟨c,m,h_1⟩:bu h)(⟨j,p,rfl⟩:uZ m)(rfl:BQ h_1);exact⟨DL,cQ DL λ_=>rfl⟩
 |.str t,X,S,F,L,e,h=>by
  ext(⟨c,m,h_1⟩:bu h)(⟨j,p,rfl⟩:uZ m)(rfl:BO h_1);exact⟨DJ,cQ DJ λ_=>rfl⟩
 |.v i,X,S,F,L,e,h=>by
  ext(⟨x,m,h'⟩:bu h)(⟨p,rfl⟩:gU m);have:=YJ (F:=F) L h;exact⟨this,cQ this λ_=>rfl⟩
 |.glo x i,X,S,F,L,e,h=>by
  ext(⟨y,m,h_1⟩:bu h)(⟨pos,rfl⟩:gU m)(⟨h_2,I⟩:aC h_1)(⟨B,s⟩:aC h_2)(⟨U,q⟩:aC B)(rfl:aac U)(⟨u,hm,r⟩:L.cs _ _ (aac s));have this:PE X (.Name y pos) (tD X F Φ (.glo y i)):=PE.imp (zR (v:=.int i) (L.gl q) hm r (dS I)) λσ H Q b_=>by ext(⟨R,τ,ρ,d,Si,O,hq⟩:b_);cases O;exact hq _ H (aL.refl H) .int
  exact⟨this,cQ this λ_=>rfl⟩
 |.bin op a b,X,S,F,L,e,h=>by
  ext(⟨⟨l,o,r⟩,m,h_1⟩:bu h)(⟨pos,rfl⟩:Ie m)(⟨h_2,s⟩:aC h_1)(⟨B,q⟩:aC h_2);obtain rfl:o=Rw op:=aac B;have:=NT (F:=F) (pos:=pos) L (op:=op) (bE a X S F L _ q).1 (bE b X S F L _ s).1;exact⟨this,cQ this λ_=>rfl⟩
 |.neg a,X,S,F,L,e,h=>by
  ext(⟨⟨o,x⟩,m,h_1⟩:bu h)(⟨pos,rfl⟩:Dc m)(⟨h_2,q⟩:aC h_1);obtain rfl:o=.USub:=aac h_2;have:=NQ (F:=F) (Φ:=Φ) (pos:=pos) (bE a X S F L _ q).1;exact⟨this,cQ this λ_=>rfl⟩
 |.not a,X,S,F,L,e,h=>by
  ext(⟨⟨o,x⟩,m,h_1⟩:bu h)(⟨pos,rfl⟩:Dc m)(⟨h_2,q⟩:aC h_1);obtain rfl:o=.Not:=aac h_2;exact⟨NP (bE a X S F L _ q).1,ND (bE a X S F L _ q).2⟩
 |.and cs,X,S,F,L,e,h=>by
  ext(⟨⟨o,vs⟩,m,h_1⟩:bu h)(⟨pos,rfl⟩:u0 m)(⟨h_2,q⟩:aC h_1);obtain rfl:o=.And:=aac h_2;exact⟨(mE cs X S F L vs q pos).1,(mE cs X S F L vs q pos).2.pt⟩
 |.or cs,X,S,F,L,e,h=>by
  ext(⟨⟨o,vs⟩,m,h_1⟩:bu h)(⟨pos,rfl⟩:u0 m)(⟨h_2,q⟩:aC h_1);obtain rfl:o=.Or:=aac h_2;exact⟨(oY cs X S F L vs q pos).1,(oY cs X S F L vs q pos).2.pt⟩
 |.cmp op a b,X,S,F,L,e,h=>by
  ext(⟨⟨l,os,rs⟩,m,h_1⟩:bu h)(⟨pos,rfl⟩:zf m)(⟨h_2,s⟩:aC h_1)(⟨B,q⟩:aC h_2)(⟨r,hr,aaJ⟩:bu s)(⟨Vk,I⟩:aC aaJ);obtain rfl:os=[Y_ op]:=aac B;obtain rfl:rs=[r]:=bM hr;exact⟨PE.imp (zS (Ex L op) (bE a X S F L _ q).1 (bE b X S F L _ Vk).1 (EI I)) λ_ _ _ B=>wU B,PT.imp (zL (Ex L op) (bE a X S F L _ q).1 (bE b X S F L _ Vk).1 (EI I)) λ_ _ _ B=>Bg B⟩
 |.qM a t,X,S,F,L,e,h=>by
  ext(⟨⟨f,as⟩,m,h_1⟩:bu h)(⟨p,pos,rfl⟩:b9 m)(⟨h_2,h5⟩:aC h_1)(⟨B,s⟩:aC h_2)(⟨U,q⟩:aC B);obtain rfl:f=_:=aac U;ext(⟨⟨e,g⟩,hw,Kb⟩:bu h5);obtain rfl:as=[e,g]:=fX hw;ext(⟨Vg,Z⟩:aC Kb)(⟨x,hn,FY⟩:bu Z);obtain⟨p',rfl⟩:∃p,g=.Name x p:=gU hn;ext(⟨FX,J⟩:aC FY)(⟨FW,I⟩:aC FX)(rfl:aac FW);have:=NS (F:=F) (p:=p) (p':=p') (pos:=pos) L q (aac s) I (aac J) (bE a X S F L _ Vg).1 (λes=>bG Vg es _);exact⟨this,cQ this λ_=>rfl⟩
 |.call f cs,X,S,F,L,e,h=>by
  ext(⟨⟨x,as⟩,m,h_1⟩:bu h)(⟨p,pos,rfl⟩:b9 m)(⟨h_2,J⟩:aC h_1)(⟨B,I⟩:aC h_2)(⟨q,s⟩:aC B)(⟨⟨y,ys⟩,Y,M⟩:bu J);obtain rfl:as=y::ys:=xI Y;cases cs with
  |nil=>exact(aad M).elim
  |cons c MP =>
   ext(Vi:aC M);have:=IJ (F:=F) (p:=p) (pos:=pos) L (aac q) s I (fZ (c::MP) X S F L (y::ys) M) (λes=>bG Vi.1 es _) (λpos=>yJ Vi.2 pos _);exact⟨this,cQ this λ_=>rfl⟩
 |.bf f cs,X,S,F,L,e,h=>by
  ext(⟨⟨x,as⟩,m,h_1⟩:bu h)(⟨p,pos,rfl⟩:b9 m)(⟨h_2,J⟩:aC h_1)(⟨B,I⟩:aC h_2)(⟨U,s⟩:aC B);obtain rfl:x=_:=aac U;ext(⟨⟨y,ys⟩,Y,M⟩:bu J);obtain rfl:as=y::ys:=xI Y;cases cs with
  |nil=>exact(aad M).elim
  |cons c MP =>
   ext(Vi:aC M);have:=S7 (F:=F) (p:=p) (pos:=pos) L s (aac I) (fZ (c::MP) X S F L (y::ys) M) (λes=>bG Vi.1 es _) (λpos=>yJ Vi.2 pos _);exact⟨this,cQ this λ_=>rfl⟩
 |.mQ a,X,S,F,L,e,h=>by
  ext(⟨⟨x,as⟩,m,h_1⟩:bu h)(⟨p,pos,rfl⟩:b9 m)(⟨h_2,J⟩:aC h_1)(⟨B,s⟩:aC h_2)(⟨U,q⟩:aC B);obtain rfl:x=_:=aac U;ext(⟨y,Y,M⟩:bu J);obtain rfl:as=[y]:=bM Y;ext(⟨⟨z,bs⟩,hw,h4_3⟩:bu M)(⟨p',pos',rfl⟩:b9 hw)(⟨aaF,h5⟩:aC h4_3)(⟨aaE,Z⟩:aC aaF)(⟨aaD,I⟩:aC aaE);obtain rfl:z=_:=aac aaD;ext(⟨u,ZS,Kb⟩:bu h5);obtain rfl:bs=[u]:=bM ZS;have:=IH (F:=F) (p:=p) (p':=p') (pos:=pos) (pos':=pos') L q (aac s) I (aac Z) (bE a X S F L _ Kb).1 (λes=>bG Kb es _);exact⟨this,cQ this λ_=>rfl⟩
 |.ix a b,X,S,F,L,e,h=>by
  ext(⟨⟨l,r⟩,m,h_1⟩:bu h)(⟨pos,rfl⟩:lE m)(⟨q,s⟩:aC h_1);have:=S0 (F:=F) (pos:=pos) L (bE a X S F L _ q).1 (bE b X S F L _ s).1 (r_ s);exact⟨this,cQ this λ_=>rfl⟩
 |.tup cs,X,S,F,L,e,h=>by
  ext(⟨es,m,h_1⟩:bu h)(⟨n,pos,rfl⟩:jU m)(⟨q,s⟩:aC h_1);have:=NO (F:=F) (n:=n) (pos:=pos) (fZ cs X S F L es q) (aac s);exact⟨this,cQ this λ_=>rfl⟩
 |.lst cs,X,S,F,L,e,h=>by
  ext(⟨es,m,h_1⟩:bu h)(⟨pos,rfl⟩:zd m)(⟨q,s⟩:aC h_1);have:=NR (F:=F) (pos:=pos) (fZ cs X S F L es q) (aac s);exact⟨this,cQ this λ_=>rfl⟩
 |.comp n t caps ik es bU elt,X,S,F,L,e,h=>by
  ext(⟨⟨kr,gens,sc⟩,m,h_1⟩:bu h)(⟨pos,rfl⟩:Dg m)(⟨⟨target,iter,W,a⟩,hg,h_2⟩:bu h_1);obtain rfl:gens=_:=bM hg;ext(⟨B,Z⟩:aC h_2)(⟨U,h5⟩:aC B)(⟨h_5,J⟩:aC U)(⟨h_6,I⟩:aC h_5)(⟨h_7,s⟩:aC h_6)(⟨h_8,q⟩:aC h_7);obtain rfl:a=0:=aac h_8;ext(pQ:λ(X':Cx) (F':af) (L':Lk X' (S.inner target caps sc) k Φ)=>jw bU X' _ F' L' W J);have this:PE X (.ListComp kr [⟨target,iter,W,0⟩] sc pos) (tD X F Φ (.comp n t caps ik es bU elt)) :=
   II L (r9 q) s (λX' F' L'=>(bE elt X' _ F' L' kr h5).1) (wO (aac I) J pQ) (Fq L (λl=>fZ es X S F L l) (λl=>jw es X S F L l) (λl=>j4 es X S F L l) Z)
  exact⟨this,cQ this λ_=>rfl⟩
theorem jw:∀(cs:aA) (X:Cx) (S:Sx) (F:af) (L:Lk X S k Φ) (es:aj),bW S cs es=true->∀(j:Nat) (c:CE) (e:Expr),cs[j]?=↥c->es[j]?=↥e->PE X e (tD X F Φ c)/\PT X e (jX X F Φ c)
 |[],X,S,F,L,_,_=>λj c e h _=>by simp at h
 |_::_,X,S,F,L,[],h=>by exact(aad h).elim
 |c::cs,X,S,F,L,e::es,h=>λj c' e' hc he=>by
  replace h:=aC h;cases j with
  |zero=>simp at hc he;subst hc he;exact bE c X S F L e h.1
  |succ j=>exact jw cs X S F L es h.2 j c' e' ⇑hc ⇑he
theorem j4:∀(cs:aA) (X:Cx) (S:Sx) (F:af) (L:Lk X S k Φ) (es:aj),bW S cs es=true->qx X F Φ cs es
 |[],X,S,F,L,[],_=>trivial
 |[],X,S,F,L,_::_,h=>by exact(aad h).elim
 |_::_,X,S,F,L,[],h=>by exact(aad h).elim
 |c::cs,X,S,F,L,e::es,h=>by
  replace h:=aC h;exact⟨(bE c X S F L e h.1).1,λl=>bG h.1 l _,r_ h.1,j4 cs X S F L es h.2⟩
theorem fZ:∀(cs:aA) (X:Cx) (S:Sx) (F:af) (L:Lk X S k Φ) (es:aj),bW S cs es=true->PA X es (ri X F Φ cs)
 |[],X,S,F,L,[],_=>PA.imp cZ λ_ _ _ h=>jW h
 |[],X,S,F,L,_::_,h=>by exact(aad h).elim
 |_::_,X,S,F,L,[],h=>by exact(aad h).elim
 |c::cs,X,S,F,L,e::es,h=>by
  replace h:=aC h;exact PA.imp (b0 (bE c X S F L e h.1).1 (fZ cs X S F L es h.2) (bG h.1 es _)) λ_ _ _ h=>fY h
theorem mE:∀(cs:aA) (X:Cx) (S:Sx) (F:af) (L:Lk X S k Φ) (es:aj),bW S cs es=true->∀pos,PE X (.BoolOp .And es pos) (tD X F Φ (.and cs))/\PW X (.BoolOp .And es pos) (jX X F Φ (.and cs))
 |[],X,S,F,L,_,_,pos=>⟨λ_ _ _ _ _ _ ⟨_,_,_,_,_,O,_⟩=>(by cases O),λ_ _ _ _ _ _ _ b_=>by ext(⟨_,_,_,_,_,O,_⟩:b_);cases O⟩
 |[c],X,S,F,L,[e],h,pos=>by
  replace h:=aC h;exact⟨PE.imp (Ek (bE c X S F L e h.1).1) λ_ _ _ h=>K_ h,PW.imp (zK (bE c X S F L e h.1).2) λ_ _ _ h=>Hc h⟩
 |[_],X,S,F,L,[],h,_=>by exact(aad h).elim
 |[_],X,S,F,L,_::_::_,h,_=>by exact(aad (aC h).2).elim
 |_::_::_,X,S,F,L,[],h,_=>by exact(aad h).elim
 |_::_::_,X,S,F,L,[_],h,_=>by exact(aad (aC h).2).elim
 |c::c'::cs,X,S,F,L,e::e'::es,h,pos=>by
  replace h:=aC h;ext(r:mE (c'::cs) X S F L (e'::es) h.2 pos);exact⟨PE.imp (Of (bE c X S F L e h.1).1 r.1) λ_ _ _ h=>Hd h,PW.imp (D3 (bE c X S F L e h.1).2 r.2) λ_ _ _ h=>Cw h⟩
theorem oY:∀(cs:aA) (X:Cx) (S:Sx) (F:af) (L:Lk X S k Φ) (es:aj),bW S cs es=true->∀pos,PE X (.BoolOp .Or es pos) (tD X F Φ (.or cs))/\PW X (.BoolOp .Or es pos) (jX X F Φ (.or cs))
 |[],X,S,F,L,_,_,pos=>⟨λ_ _ _ _ _ _ ⟨_,_,_,_,_,O,_⟩=>(by cases O),λ_ _ _ _ _ _ _ b_=>by ext(⟨_,_,_,_,_,O,_⟩:b_);cases O⟩
 |[c],X,S,F,L,[e],h,pos=>by
  replace h:=aC h;exact⟨PE.imp (Ek (bE c X S F L e h.1).1) λ_ _ _ h=>Oi h,PW.imp (D2 (bE c X S F L e h.1).2) λ_ _ _ h=>Jn h⟩
 |[_],X,S,F,L,[],h,_=>by exact(aad h).elim
 |[_],X,S,F,L,_::_::_,h,_=>by exact(aad (aC h).2).elim
 |_::_::_,X,S,F,L,[],h,_=>by exact(aad h).elim
 |_::_::_,X,S,F,L,[_],h,_=>by exact(aad (aC h).2).elim
 |c::c'::cs,X,S,F,L,e::e'::es,h,pos=>by
  replace h:=aC h;ext(r:oY (c'::cs) X S F L (e'::es) h.2 pos);exact⟨PE.imp (Tv (bE c X S F L e h.1).1 r.1) λ_ _ _ h=>Jo h,PW.imp (LK (bE c X S F L e h.1).2 r.2) λ_ _ _ h=>Eu h⟩
end
def fy(L:Lk X S k Φ)(c:CE)(e:Expr)(h:cc S c e=true):PE X e (tD X F Φ c)/\PT X e (jX X F Φ c):=bE c X S F L e h
def lL(L:Lk X S k Φ)(cs:aA)(es:aj)(h:bW S cs es=true):qx X F Φ cs es:=j4 cs X S F L es h
def n_(L:Lk X S k Φ)(cs:aA)(es:aj)(h:bW S cs es=true):PA X es (ri X F Φ cs):=fZ cs X S F L es h
end
section
variable {T T':qv}{N N':k_}
def aH.child{q:bw}(b:∀p xs,T p xs->T' p xs)(d:∀c m p xs f,N (c++(m::q)) p xs f->N' (c++(m::q)) p xs f){n:Nat}(h:aH T N q n vs ds):aH T' N' q n vs ds :=
 h.ind (P:=λn vs ds=>aH T' N' q n vs ds) (λ_=>.nil) λn _ _ _ _ h _ a=>.cons (Rep.imp (q:=n::q) (q':=n::q) b (λc p xs f h=>d c n p xs f h) h) a
end
variable {n':Nd}
section
variable {X:Cx}{F R:af}{τ:Addr->Option bw}{ρ:aV}{σ:St}{H:Hp}
def SI.own{i:Nat}(d:SI X F R τ ρ σ H)(c:ρ[i]?=↥↥(.ow\ds)):∃p xs,σ[i]?=↥↥(.ref p)/\H p=↥(.lst xs)/\xs.length=ds.length/\τ p=↥[i]/\aH (a_ X.K H) (nd X.K R ⇑7 τ H) [i] 0 xs ds:=by
 ext(⟨v,b,a⟩:d.rep i _ c);cases a with
 |lst h r=>exact⟨_,_,b,h.1,r.length,h.2,r⟩
def mD{H:Hp}{p:Addr}{n:Nd}{o:HO}(g:eN H p n){a:Addr}(h:a_ K H a ys):a_ K (upd H p o) a ys:=by
 ext(⟨c,j,i,k⟩:eN.some g);have b:∀a u,H a=↥u->u≠c->a≠p:=λa u e h z=>by subst z;rw[j]at e;cases e;exact h rfl
 ext(((h|⟨d,h⟩)|h):h)
 ·exact .inl (.inl ([bt (b a _ h λz=>i _ z.symm)]\h))
 ·exact .inl (.inr ⟨d,[bt (b a _ h λz=>k _ _ z.symm)]\h⟩)
 ·exact .inr h
def SI.Tp{i m:Nat}{v:V}{d:D}{p:Addr}{n:Nd}{o:HO}(g:SI X F R τ ρ σ H)(hi:ρ[i]?=↥↥d0)(hv:σ[i]?=↥↥(.ref p))(hp:eN H p n)(l:τ p=↥[i])
  (rs:aH (a_ X.K H) (nd X.K R ⇑7 τ H) [i] 0 xs ds) (rk:jt X R τ H v d) (xy:eN (upd H p o) p n')
  (mk:∀{N:k_},N [i] p n' .ow->aH (a_ X.K (upd H p o)) N [i] 0 xs' ds'->Rep (a_ X.K (upd H p o)) N [i] (.ref p) d1)
  (hb:∀{N:k_},aH (a_ X.K (upd H p o)) N [i] 0 xs ds->Rep (a_ X.K (upd H p o)) N (m::[i]) v d->aH (a_ X.K (upd H p o)) N [i] 0 xs' ds') :
  ∃τ',SI X F R τ' (ρ.set i ↥d1) σ (upd H p o)/\τ' p=↥[i]/\aH (a_ X.K (upd H p o)) (nd X.K R ⇑7 τ' (upd H p o)) [i] 0 xs' ds':=by
 ext(⟨τt,b,rp⟩:rk);have Mt:i<ρ.length:=by
  by_cases z:i<ρ.length
  ·exact z
  ·rw[dV ⋯]at hi;cases hi
 ext(⟨o0,RH,UD,RG⟩:eN.some hp);have U:∀a,R a->a≠p:=λa s e=>by subst e;rw[g.rt _ s]at l;cases l
 have nT:∀a q,τt a=↥q->a≠p:=λa q e z=>by subst z;rw[(b _ q e).1]at l;cases l
 have W:∀a u,H a=↥u->u≠o0->a≠p:=λa u e h z=>by subst z;rw[RH]at e;cases e;exact h rfl
 have keep:∀a,a≠p->(upd H p o) a=H a:=λa h=>bt h;have Z:∀a ys,a_ X.K H a ys->a_ X.K (upd H p o) a ys:=λa ys h=>by
  ext(((h|⟨O,h⟩)|h):h)
  ·exact .inl (.inl ([keep a (W a _ h λz=>UD _ z.symm)]\h))
  ·exact .inl (.inr ⟨O,[keep a (W a _ h λz=>RG _ _ z.symm)]\h⟩)
  ·exact .inr h
 have L:∀a (z:Nd),a≠p->eN H a z->eN (upd H p o) a z:=λa z ne h=>h.at λu e=>[keep a ne]\e
 have y:∀{M:Addr->Option bw} q q' a (z:Nd),nd X.K R ⇑7 M H q a z .sc->∀t,nd X.K R ⇑7 t (upd H p o) q' a z .sc:=λq q' a z h t=>by
  ext(⟨ys,rfl,h⟩:h.DM);exact h.elim (λ⟨O,w⟩=>.inl ⟨O,[keep a (W a _ w λz=>RG _ _ z.symm)]\w⟩) .inr
 have I:∀q a ys f,q≠[i]->nd X.K R ⇑7 τ H q a ys f->nd X.K R ⇑7 (λa=>match τt a with|↥q=>↥(q++[m,i])|none=>τ a) (upd H p o) q a ys f:=λq a ys f r h=>by
  cases f with
  |ow =>
   have ne:a≠p:=λz=>by
    subst z;have:=h.2.symm.trans l;exact r (aaI this)
   refine⟨L a ys ne h.1,?_⟩;cases z:τt a with
   |none=>simp only[z];exact h.2
   |some k=>have:=(b a k z).1;rw[h.2]at this;cases this
  |fz=>exact⟨L a ys (U a h.2) h.1,h.2⟩
  |al=>exact h.2.elim
  |sc=>exact y q q a ys h _
 have Xh:(match τt p with|↥q=>↥(q++[m,i])|none=>τ p)=↥[i]:=by
  cases z:τt p with
  |none=>exact l
  |some k=>exact absurd rfl (nT p k z)
 have B:aH (a_ X.K (upd H p o)) (nd X.K R ⇑7 (λa=>match τt a with|↥q=>↥(q++[m,i])|none=>τ a) (upd H p o)) [i] 0 xs' ds':=hb (aH.child Z (λc n a ys f h=>I _ a ys f (λz=>by
  have:=aa5 l7 z;simp at this) h) rs) (rp.imp (q:=[]) (q':=[m,i]) Z λc a ys f h=>by
  cases f with
  |ow =>
   rw[zaw]at h;exact⟨L a ys (nT a _ h.2) h.1,by simp only[h.2]⟩
  |fz=>exact⟨L a ys (U a h.2) h.1,h.2⟩
  |al=>exact h.2.elim
  |sc=>exact y _ _ a ys h _)
 refine⟨λa=>match τt a with|↥q=>↥(q++[m,i])|none=>τ a,⟨by simp[g.len],λj d' J=>?_,λa s=>?_,λa s=>?_,g.rf,λa q r=>?_,λa q r=>?_,?_⟩,Xh,B⟩
 ·by_cases Y:j=i
  ·subst Y;rw[eo Mt]at J;cases J;exact⟨.ref p,hv,mk ⟨xy,Xh⟩ B⟩
  ·rw[cb (ip Y)]at J;ext(⟨u,hu,ru⟩:g.rep j d' J);refine⟨u,hu,ru.imp (q:=[j]) (q':=[j]) Z λc a ys f h=>I _ a ys f (λz=>?_) h⟩;have:=aa5 re z;simp at this;exact Y this
 ·cases z:τt a with
  |none=>simp only[z];exact g.rt a s
  |some k=>exact absurd s (b a k z).2.1
 ·exact[keep a (U a s)]\g.rh a s
 ·by_cases x:a=p
  ·subst x;rw[aT];simp
  ·rw[keep a x];cases z:τt a with
   |none=>simp only[z]at r;exact g.th a q r
   |some k=>exact(b a k z).2.2.2
 ·cases z:τt a with
  |none=>simp only[z]at r;exact g.t0 a q r
  |some k=>exact(b a k z).2.2.1
 ·intro a u e;have ne:a≠p:=λz=>by subst z;rw[g.t0 _ _ l]at e;cases e
  exact[keep a ne]\g.same a u e
def SI.Tq{i m:Nat}{v:V}{d:D}{p:Addr}{n:Nd}{o:HO}(l:SI X F R τ ρ σ H)(j:ρ[i]?=↥↥d0)(c:σ[i]?=↥↥(.ref p))(g:eN H p n)(e:τ p=↥[i])
  (rs:aH (a_ X.K H) (nd X.K R ⇑7 τ H) [i] 0 xs ds) (b:jt X R τ H v d) (a:eN (upd H p o) p n')
  (mk:∀{N:k_},N [i] p n' .ow->aH (a_ X.K (upd H p o)) N [i] 0 xs' ds'->Rep (a_ X.K (upd H p o)) N [i] (.ref p) d1)
  (k:∀{N:k_},aH (a_ X.K (upd H p o)) N [i] 0 xs ds->Rep (a_ X.K (upd H p o)) N (m::[i]) v d->aH (a_ X.K (upd H p o)) N [i] 0 xs' ds') :
  ∃τ',SI X F R τ' (ρ.set i ↥d1) σ (upd H p o):=(l.Tp j c g e rs b a mk k).imp λ_ h=>h.1
def SI.put{i m:Nat}{v:V}{d:D}{g:ah->ah}{p:Addr}(q:SI X F R τ ρ σ H)(j:ρ[i]?=↥↥(.ow\ds))(b:σ[i]?=↥↥(.ref p))(e:H p=↥(.lst xs))(c:τ p=↥[i])
  (rs:aH (a_ X.K H) (nd X.K R ⇑7 τ H) [i] 0 xs ds) (a:jt X R τ H v d)
  (k:∀{N:k_},aH (a_ X.K (upd H p (.lst (g xs)))) N [i] 0 xs ds->Rep (a_ X.K (upd H p (.lst (g xs)))) N (m::[i]) v d->aH (a_ X.K (upd H p (.lst (g xs)))) N [i] 0 (g xs) ds') :
  ∃τ',SI X F R τ' (ρ.set i ↥(.ow\ds')) σ (upd H p (.lst (g xs))) :=
 q.Tq (n:=.l xs) (n':=.l (g xs)) j b e c rs a aT (λh r=>.lst h r) k
end
section
variable {X:Cx}{S:Sx}{k:Nat}{F:af}{Φ:aY}
protected def sP(L:Lk X S k Φ)(c:CE)(e:Expr)(h:cc S c e=true):PE X e (tK X F Φ c):=by
 by_cases g:∃i,c=.v i
 ·ext(⟨i,rfl⟩:g)(⟨x,z,J⟩:bu h)(⟨p,rfl⟩:gU z)(⟨I,j⟩:aC J)(⟨n,m⟩:aC I);unfold nS at j;simp only[zag,zbb]at j;refine PE.imp (iP (i:=i) ([L.N]\aac n) (L.WA m) j.1.1 j.1.2) λσ H Q a=>?_;ext(⟨R,τ,ρ,r,l,b,a⟩:a);simp only[kc]at b;split at b
  ·rename_i d hd;split at b
   ·cases b;ext(⟨v,τ',g,U,u⟩:l.move hd);exact⟨v,g,a v H R τ' (aL.refl H) (λ_ h=>h) U u⟩
   ·rename_i B;cases b;ext(⟨v,g,t⟩:l.rep i d hd);exact⟨v,g,a v H R τ (aL.refl H) (λ_ h=>h) l (B4 t ⇑B)⟩
  ·cases b
 ·refine PE.imp (fy (F:=F) L c e h).1 λσ H Q a=>?_;ext(⟨R,τ,ρ,r,l,b,a⟩:a);have q:bd (bg Φ c ρ) (λd=>ok (keep c d ρ))=ok r:=by
   cases c<;>first|exact b|exact absurd ⟨_,rfl⟩ g
  ext(⟨d,O,M⟩:aI q);cases M;refine tD.intro l O λv H' s y=>?_;ext(⟨R',τ',n,m,j⟩:Me l s y);exact a v H' R' τ' s n m j
end
structure Kp(R:af)(H:Hp)(R':af)(H':Hp):Prop where
 r:∀p,R p->R' p
 l:∀p (o:HO),R p->H p=↥o->H' p=↥o
 t:∀p xs,H p=↥(.tup xs)->H' p=↥(.tup xs)
 z:∀p o u,H p=↥(.iH o u)->H' p=↥(.iH o u)
def Kp.refl(R:af)(H:Hp):Kp R H R H:=⟨λ_ h=>h,λ_ _ _ h=>h,λ_ _ h=>h,λ_ _ _ h=>h⟩
def Kp.of{R:Addr->Prop}{H:Hp}(e:aL H H')(h:∀p,R p->R' p):Kp R H R' H':=⟨h,λp xs _ h=>e _ _ h,λp xs h=>e _ _ h,λp o u h=>e _ _ h⟩
def Kp.trans{R R2:Addr->Prop}{H:Hp}(a:Kp R H R1 H1)(b:Kp R1 H1 R2 H2):Kp R H R2 H2 :=
 ⟨λp h=>b.r p (a.r p h),λp xs h e=>b.l p xs (a.r p h) (a.l p xs h e),λp xs h=>b.t p xs (a.t p xs h),λp o u h=>b.z p o u (a.z p o u h)⟩
def Kp.SQ{R:Addr->Prop}{H:Hp}(a:Kp R H R' H'){p:Addr}(h:a_ K H p xs):a_ K H' p xs:=by
 ext(((h|⟨o,h⟩)|h):h)
 ·exact .inl (.inl (a.t p xs h))
 ·exact .inl (.inr ⟨o,a.z p o _ h⟩)
 ·exact .inr h
theorem Kp.nd{K:av}{R R':af}{H H':Hp}(a:Kp R H R' H'){q:bw}{p:Addr}{xs:Nd}{f:Fl}(h:DI.nd K R ⇑7 ⇑8 H q p xs f):DI.nd K R' ⇑7 ⇑8 H' q p xs f:=by
 cases f with
 |ow=>exact nomatch h.2
 |fz=>exact⟨h.1.at λo e=>a.l p o h.2 e,a.r p h.2⟩
 |al=>exact h.2.elim
 |sc =>
  ext(⟨ys,rfl,h⟩:h.DM);exact h.elim (λ⟨o,h⟩=>.inl ⟨o,a.z p o _ h⟩) .inr
def Kp.rep{R:Addr->Prop}{H:Hp}(a:Kp R H R' H'){k:bw}{v:V}{d:D}(h:Rep (a_ K H) (DI.nd K R ⇑7 ⇑8 H) k v d):Rep (a_ K H') (DI.nd K R' ⇑7 ⇑8 H') k v d :=
 h.imp (λ_ _ h=>a.SQ h) λ_ _ _ _ h=>a.nd h
def Kp.YX{R:Addr->Prop}{H:Hp}(a:Kp R H R' H'){k:bw}{n:Nat}{v:ah}{d:aa}(h:aH (a_ K H) (DI.nd K R ⇑7 ⇑8 H) k n v d):aH (a_ K H') (DI.nd K R' ⇑7 ⇑8 H') k n v d :=
 h.imp (λ_ _ h=>a.SQ h) λ_ _ _ _ h=>a.nd h
inductive Hn(X:Cx)(F:af)(H':Hp)(v:V)(d:D):Prop where
 |mk (τt:Addr->Option bw) (h1:∀p q,τt p=↥q->X.H₀ p=none) (h2:Rep (a_ X.K H') (nd X.K (gP X F) ⇑7 τt H') [] v d)
def jt.ret{R:Addr->Prop}{H:Hp}{v:V}{d:D}(c:SI X F R τ ρ σ H)(h:jt X R τ H v d):Hn X F H v d:=by
 ext(⟨τt,b,a⟩:h);exact⟨τt,λp q e=>(b p q e).2.2.1,a.imp ⇑10 λ_ _ _ _ h=>h.mono (λh=>c.rf _ h) id id⟩
def nH(X:Cx)(F:af)(D:Ends)(R:af)(H:Hp):Fo×aV->Prop
 | (.nx,ρ')=>∀a H' R' τ',SI X F R' τ' ρ' a H'->Kp R H R' H'->D.nx a H'
 | (.rt d,_)=>∀v H',aL X.H₀ H'->Hn X F H' v d->D.rt v H'
inductive mh(X:Cx)(F:af)(Φ:aY)(c:CS)(D:Ends)(σ:St)(H:Hp):Prop where
 |mk (R:af) (τ:Addr->Option bw) (ρ:aV) (r:Fo×aV) (h1:SI X F R τ ρ σ H) (h2:ic Φ c ρ=ok r) (h3:nH X F D R H r)
inductive lI(X:Cx)(F:af)(Φ:aY)(cs:ai)(D:Ends)(σ:St)(H:Hp):Prop where
 |mk (R:af) (τ:Addr->Option bw) (ρ:aV) (r:Fo×aV) (h1:SI X F R τ ρ σ H) (h2:bF Φ cs ρ=ok r) (h3:nH X F D R H r)
meta def OI(sc:Scope)(x:Str):Bool:=decide (sc.names.lookup x=↥.local)||decide (sc.names.lookup x=↥.cell)
def m7(S:Sx)(i:Nat):Expr->Bool
 |.Name x _=>decide (S.N[i]?=↥x)&&OI S.sc x
 |_=>false
def W_:Expr->Bool
 |.Name x _=>nS x
 |_=>true
def GW(S:Sx):aS->aj->Bool
 |[],es=>match es with
  |[]=>true
  |_::_=>false
 |i::is,es=>match es with
  |[]=>false
  |e::es=>m7 S i e&&GW S is es
def qS(S:Sx):Tg->Expr->Bool
 |.nm i,e=>m7 S i e
 |.tp is,e=>bA (A9 e) λes=>GW S is es
meta def iT(e:Expr):Bool:=decide (e.ctorIdx=8)
meta def isTup:Expr->Bool
 |.Tuple _ _ _=>true
 |_=>false
meta def YE(S:Sx)(tg v:Expr):Bool:=match tg,v with
 |.Name x p,.ListComp _ _ sc pos=>(S.sc.names.lookup x==↥.local)&&(p.line==pos.line)&&!(sc.names.any λ(n,k)=>n==x&&(k==.local||k==.cell))
 |_,_=>false
meta def Nf(e:Expr):Option (Str×Pos):=if h:e.ctorIdx=23 then kx (motive_1:=λ_=>Option (Str×Pos)) e h (λx p=>↥(x,p))else none
def zc{e:Expr}{x:Str}{p:Pos}(h:Nf e=↥(x,p)):e=.Name x p:=by
 ext(⟨k,h⟩:dI h);exact kx (motive_1:=λe=>∀k:e.ctorIdx=23,kx (motive_1:=λ_=>Option (Str×Pos)) e k (λx p=>↥(x,p))=↥(x,p)->e=.Name x p) e k (λ_ _ _ h=>by cases h;rfl) k h
def GV(S:Sx)(i j:Nat)(tg v:Expr):Bool :=
 bA (A9 tg) λa=>bA (two a) λt=>bA (Nf t.1) λx=>bA (Nf t.2) λy=>bA (A9 v) λvs=>bA (two vs) λw =>
  decide (S.N[i]?=↥x.1)&&decide (S.N[j]?=↥y.1)&&decide (i≠j)&&decide (S.sc.names.lookup x.1=↥.local)&&decide (S.sc.names.lookup y.1=↥.local)&&decide (x.1≠y.1) &&
   decide (x.2.line=y.2.line)&&!([w.1,w.2].all (foldedForSure 8))&&!([w.1,w.2].all (constantsAlone 8))&&decide (([w.1,w.2].any λe=>match e with|.Starred ..=>true|_=>false)=false)
def QW(S:Sx)(it:CI)(e:Expr):Bool:=match it with
 |.nu a=>bA (eC e) λw=>decide (w.1=("range" : Str))&&fI S.sc w.1&&decide (w.1∈S.bl)&&bA (one w.2) λy=>cc S a y
 |.mI a b=>bA (eC e) λw=>decide (w.1=("range" : Str))&&fI S.sc w.1&&decide (w.1∈S.bl)&&bA (two w.2) λy=>cc S a y.1&&cc S b y.2
 |.seq a=>cc S a e&&rG e
 |.L0 p es=>WW e&&bA (S.px.pi p S.sc S.bl e) λxs=>bW S es xs
meta def EC:CI->Bool
 |.L0 p _=>decide (1100<=p)
 |_=>true
meta def Ba(s:Stmt):Option (aj×Expr):=if h:s.ctorIdx=5 then uO (motive_2:=λ_=>Option (aj×Expr)) s h (λa v _=>↥(a,v))else none
def jV{s:Stmt}{a:aj}{v:Expr}(h:Ba s=↥(a,v)):∃p,s=.Assign a v p:=by
 ext(⟨k,h⟩:dI h);exact uO (motive_2:=λs=>∀k:s.ctorIdx=5,uO (motive_2:=λ_=>Option (aj×Expr)) s k (λa v _=>↥(a,v))=↥(a,v)->∃p,s=.Assign a v p) s k (λ_ _ _ _ h=>by cases h;exact⟨_,rfl⟩) k h
meta def Sg(s:Stmt):Option (Option Expr):=if h:s.ctorIdx=3 then ut (motive_2:=λ_=>Option (Option Expr)) s h (λv _=>↥v)else none
def y_{s:Stmt}{v:Option Expr}(h:Sg s=↥v):∃p,s=.Return v p:=by
 ext(⟨k,h⟩:dI h);exact ut (motive_2:=λs=>∀k:s.ctorIdx=3,ut (motive_2:=λ_=>Option (Option Expr)) s k (λv _=>↥v)=↥v->∃p,s=.Return v p) s k (λ_ _ _ h=>by cases h;exact⟨_,rfl⟩) k h
meta def WB(s:Stmt):Option Expr:=if h:s.ctorIdx=24 then xL (motive_2:=λ_=>Option Expr) s h (λv _=>↥v)else none
def oV{s:Stmt}{v:Expr}(h:WB s=↥v):∃p,s=.Expr v p:=by
 ext(⟨k,h⟩:dI h);exact xL (motive_2:=λs=>∀k:s.ctorIdx=24,xL (motive_2:=λ_=>Option Expr) s k (λv _=>↥v)=↥v->∃p,s=.Expr v p) s k (λ_ _ _ h=>by cases h;exact⟨_,rfl⟩) k h
meta def Ig(s:Stmt):Option (Expr×ny×Expr):=if h:s.ctorIdx=7 then pN (motive_2:=λ_=>Option (Expr×ny×Expr)) s h (λo p v _=>↥(o,p,v))else none
def zg{s:Stmt}{v:Expr}{p:ny}(h:Ig s=↥(o,p,v)):∃q,s=.AugAssign o p v q:=by
 ext(⟨k,h⟩:dI h);exact pN (motive_2:=λs=>∀k:s.ctorIdx=7,pN (motive_2:=λ_=>Option (Expr×ny×Expr)) s k (λo p v _=>↥(o,p,v))=↥(o,p,v)->∃q,s=.AugAssign o p v q) s k (λ_ _ _ _ _ h=>by cases h;exact⟨_,rfl⟩) k h
meta def Nh(s:Stmt):Option (Expr×aQ×aQ):=if h:s.ctorIdx=12 then H8 (motive_2:=λ_=>Option (Expr×aQ×aQ)) s h (λt x y _=>↥(t,x,y))else none
def sH{s:Stmt}{t:Expr}{x y:aQ}(h:Nh s=↥(t,x,y)):∃q,s=.If t x y q:=by
 ext(⟨k,h⟩:dI h);exact H8 (motive_2:=λs=>∀k:s.ctorIdx=12,H8 (motive_2:=λ_=>Option (Expr×aQ×aQ)) s k (λt x y _=>↥(t,x,y))=↥(t,x,y)->∃q,s=.If t x y q) s k (λ_ _ _ _ _ h=>by cases h;exact⟨_,rfl⟩) k h
meta def Sf(s:Stmt):Option (Expr×aQ×aQ):=if h:s.ctorIdx=11 then wk (motive_2:=λ_=>Option (Expr×aQ×aQ)) s h (λt x y _=>↥(t,x,y))else none
def Ib{s:Stmt}{t:Expr}{x y:aQ}(h:Sf s=↥(t,x,y)):∃q,s=.While t x y q:=by
 ext(⟨k,h⟩:dI h);exact wk (motive_2:=λs=>∀k:s.ctorIdx=11,wk (motive_2:=λ_=>Option (Expr×aQ×aQ)) s k (λt x y _=>↥(t,x,y))=↥(t,x,y)->∃q,s=.While t x y q) s k (λ_ _ _ _ _ h=>by cases h;exact⟨_,rfl⟩) k h
meta def Nj(s:Stmt):Option (Expr×Expr×aQ×aQ):=if h:s.ctorIdx=9 then C2 (motive_2:=λ_=>Option (Expr×Expr×aQ×aQ)) s h (λtg a x y _=>↥(tg,a,x,y))else none
def ze{s:Stmt}{it:Expr}{x y:aQ}(h:Nj s=↥(tg,it,x,y)):∃q,s=.For tg it x y q:=by
 ext(⟨k,h⟩:dI h);exact C2 (motive_2:=λs=>∀k:s.ctorIdx=9,C2 (motive_2:=λ_=>Option (Expr×Expr×aQ×aQ)) s k (λtg it x y _=>↥(tg,it,x,y))=↥(tg,it,x,y)->∃q,s=.For tg it x y q) s k (λ_ _ _ _ _ _ h=>by cases h;exact⟨_,rfl⟩) k h
meta def zh(e:Expr):Option (Expr×Str×Pos):=if h:e.ctorIdx=20 then p0 (motive_1:=λ_=>Option (Expr×Str×Pos)) e h (λo a p=>↥(o,a,p))else none
def oW{e:Expr}{a:Str}{p:Pos}(h:zh e=↥(o,a,p)):e=.Attribute o a p:=by
 ext(⟨k,h⟩:dI h);exact p0 (motive_1:=λe=>∀k:e.ctorIdx=20,p0 (motive_1:=λ_=>Option (Expr×Str×Pos)) e k (λo a p=>↥(o,a,p))=↥(o,a,p)->e=.Attribute o a p) e k (λ_ _ _ _ h=>by cases h;rfl) k h
meta def sI(e:Expr):Option (Expr×aj×List wh×Pos):=if h:e.ctorIdx=16 then mB (motive_1:=λ_=>Option (Expr×aj×List wh×Pos)) e h (λf as a p=>↥(f,as,a,p))else none
def mv{e f:Expr}{as:aj}{a:List wh}{p:Pos}(h:sI e=↥(f,as,a,p)):e=.Call f as a p:=by
 ext(⟨k,h⟩:dI h);exact mB (motive_1:=λe=>∀k:e.ctorIdx=16,mB (motive_1:=λ_=>Option (Expr×aj×List wh×Pos)) e k (λf as a p=>↥(f,as,a,p))=↥(f,as,a,p)->e=.Call f as a p) e k (λ_ _ _ _ _ h=>by cases h;rfl) k h
meta def isNil{a:Type}:List a->Bool
 |[]=>true
 |_::_=>false
def jE{a:Type}{l:List a}(h:isNil l=true):l=[]:=by cases l<;>first|rfl|cases h
meta def JP:Stmt->Bool
 |.Raise _ _ _=>true
 |_=>false
def uo{i:Nat}{e:Expr}(h:m7 S i e=true):∃x p,e=.Name x p:=by
 cases e<;>first|exact⟨_,_,rfl⟩|exact(aad h).elim
def BR{e:Expr}(h:iT e=true):∃x g a p,e=.ListComp x g a p:=nl (motive_1:=λe=>∃x g a p,e=.ListComp x g a p) e (aac h) λ_ _ _ _=>⟨_,_,_,_,rfl⟩
mutual
meta def qj(S:Sx):CS->Stmt->Bool
 |.asg t e,s0=>bA (Ba s0) λz=>bA (one z.1) λtg=>cc S e z.2&&qS S t tg&&!(isTup z.2&&isTup tg)&&(!iT z.2||isNm tg)
 |.par i j a b,s0=>bA (Ba s0) λz=>bA (one z.1) λtg=>cc S (.tup [a,b]) z.2&&GV S i j tg z.2
 |.ret e,s0=>bA (Sg s0) λz=>bA z λv=>cc S e v
 |.rs _,s0=>JP s0
 |.mut p i es,s0=>bA (S.px.pm p S.sc S.bl s0) λz=>m7 S i z.1&&W_ z.1&&bW S es z.2
 |.mu2 p i k e,s0=>bA (S.px.p2 p S.sc S.bl s0) λz=>m7 S i z.1&&W_ z.1&&bW S [k,e] z.2
 |.unp is e,s0=>bA (Ba s0) λz=>bA (one z.1) λtg=>cc S e z.2&&qS S (.tp is) tg&&!(isTup z.2&&isTup tg)&&!iT z.2
 |.app i e,s0=>bA (WB s0) λc=>bA (sI c) λz=>isNil z.2.2.1&&bA (zh z.1) λa=>decide (a.2.1=("append" : Str))&&m7 S i a.1&&W_ a.1&&(a.2.2.endLine==z.2.2.2.line)&&bA (one z.2.1) λv=>cc S e v
 |.aug i op e,s0=>bA (Ig s0) λz=>m7 S i z.1&&W_ z.1&&decide (z.2.1=if op then .Add else .Sub)&&cc S e z.2.2
 |.ex e,s0=>bA (WB s0) λv=>cc S e v&&!iT v
 |.ifs c a b,s0=>bA (Nh s0) λz=>cc S c z.1&&jn S a z.2.1&&jn S b z.2.2
 |.Lm c b,s0=>bA (Sf s0) λz=>isNil z.2.2&&cc S c z.1&&jn S b z.2.1
 |.fr t it b,s0=>bA (Nj s0) λz=>isNil z.2.2.2&&qS S t z.1&&QW S it z.2.1&&(jD z.1||EC it)&&jn S b z.2.2.1
meta def jn(S:Sx):ai->aQ->Bool
 |[],ss=>match ss with
  |[]=>true
  |_::_=>false
 |c::cs,ss=>match ss with
  |[]=>false
  |s::ss=>qj S c s&&jn S cs ss
end
abbrev PlM(a:Scope->aq->Stmt->Option (Expr×aj))(m:aD):Prop:=∀{Φ:aY} {n:Nat},Φ n=m->∀{X:Cx} {sc:Scope} {bl:aq} {k:Nat},PX X sc bl k->X.N.Nodup->(∀x,X.fn x=true)->∀{st:Stmt} {x:Str} {pos:Pos} {args:aj},a sc bl st=↥(.Name x pos,args)->∀{i:Nat},X.N[i]?=↥x->L2.Loc X.env.scope x->PE X (.Name x pos) (mw i)->∀{F:af} {cs:aA},qx X F Φ cs args->PS X st (mh X F Φ (.mut n i cs))
structure Hq(px:Px)(Φ:aY):Prop where
 m:∀(X:Cx) (sc:Scope) (bl:aq) (k:Nat),PX X sc bl k->X.N.Nodup->(∀x,X.fn x=true)->∀(p:Nat) (st:Stmt) (x:Str) (pos:Pos) (args:aj),px.pm p sc bl st=↥(.Name x pos,args)->∀(i:Nat),X.N[i]?=↥x->L2.Loc X.env.scope x->PE X (.Name x pos) (mw i) ->
  ∀(F:af) (cs:aA),qx X F Φ cs args->PS X st (mh X F Φ (.mut p i cs))
 m2:∀(X:Cx) (sc:Scope) (bl:aq) (k:Nat),PX X sc bl k->X.N.Nodup->(∀x,X.fn x=true)->∀(p:Nat) (st:Stmt) (x:Str) (pos:Pos) (args:aj),px.p2 p sc bl st=↥(.Name x pos,args)->∀(i:Nat),X.N[i]?=↥x->L2.Loc X.env.scope x->PE X (.Name x pos) (mw i) ->
  ∀(F:af) (c1 c2:CE),qx X F Φ [c1,c2] args->PS X st (mh X F Φ (.mu2 p i c1 c2))
structure nh(X:Cx)(S:Sx)(k:Nat)(Φ:aY):Prop extends Lk X S k Φ where
 oB:∀x,X.fn x=true
 px:PassesOwn (model X.prog X.w) X.A X.env X.xe
 fk:S.sc.kind=.function
 pm:Hq S.px Φ
section
variable {X:Cx}{S:Sx}{k:Nat}{F:af}{Φ:aY}
def nh.loc(L:nh X S k Φ){x:Str}(h:OI S.sc x=true):L2.Loc X.env.scope x:=by
 unfold L2.Loc;rw[L.sc];unfold OI at h;rw[zbj]at h;exact h.imp aac aac
def Ly(L:nh X S k Φ){x:Str}{p:Pos}{l:Nat}{elt:Expr}{gens:List ol}{sc:Scope}:mR (.ListComp elt gens sc pos) ↥(.Name x p) l X.env=pure (YE S (.Name x p) (.ListComp elt gens sc pos)):=by
 have b:X.env.blockKind=.function:=by unfold ya3;rw[L.sc,L.fk];rfl
 have a:(X.env.kindOf x==↥.local)=(S.sc.names.lookup x==↥.local):=by
  unfold Env.kindOf;rw[L.sc]
 unfold mR YE;simp only[b,a];rfl
def iD{c:CE}{e:Expr}(h:cc S c e=true)(a:iT e=false)(t:Option Expr)(l:Nat)(env:Env):mR e t l env=pure false:=by
 cases e<;>first|rfl | (cases a;done) | (cases c<;>exact(aad h).elim)
def Xv:aS->HH
 |[]=>PV
 |i::is=>F6 (pU i) (Xv is)
def Eh(L:nh X S k Φ){i:Nat}{e:Expr}(h:m7 S i e=true):PG X e (pU i):=by
 cases e<;>try (exact(aad h).elim;done)
 replace h:=aC h;exact tw L.nd ([L.N]\aac h.1) (L.loc h.2) (.inl (L.oB _))
def Ju{i:Nat}{e:Expr}(h:m7 S i e=true)(es:aj)(env:Env):hG (e::es) env=(false,Aj e env)::hG es env:=by
 cases e<;>first|rfl | (exact(aad h).elim;done)
theorem x6(L:nh X S k Φ):∀{is:aS} {es:aj},GW S is es=true->Rh X es (Xv is)/\(hG es X.env).length=is.length/\(hG es X.env).findIdx? (·.1)=none
 |[],[],_=>⟨zP,rfl,rfl⟩
 |[],_::_,h=>by exact(aad h).elim
 |_::_,[],h=>by exact(aad h).elim
 |i::is,e::es,h=>by
  replace h:=aC h;ext(⟨d,c,b⟩:x6 L h.2)(a:Ju h.1 es X.env);refine⟨vL (Eh L h.1) d (by rw[a];rfl),by rw[a];simp[c],?_⟩;rw[a,UF];simp[b]
set_option tactic.hygienic true in
theorem vp{H:Hp}{R:af}{Q:St->Hp->Prop}:∀{is:aS} {vs:ah} {ds:aa} {b:bw} {n:Nat} {σ:St} {τ:Addr->Option bw} {ρ ρ':aV},aH (a_ X.K H) (nd X.K R ⇑7 ⇑8 H) b n vs ds->SI X F R τ ρ σ H->dJ is ds ρ=ok ρ' ->
  (∀a τ',SI X F R τ' ρ' a H->Q a H)->Xv is vs σ H Q
 |[],_,_,_,_,σ,τ,_,_,.nil,Si,e,hq=>by
  cases e;exact⟨rfl,hq σ τ Si⟩
 |[],_,_,_,_,_,_,_,_,.cons _ _,_,e,_=>by cases e
 |_::_,_,_,_,_,_,_,_,_,.nil,_,e,_=>by cases e
 |i::is,_,_,_,_,σ,τ,ρ,_,.cons (v:=v) (d:=d) h t,Si,e,hq=>by
  change (if _ then _ else _)=_ at e;split at e
  ·rename_i c;ext(⟨τ',g⟩:Si.set (i:=i) (j5 (τ':=τ) (Rep.mP h)) c);exact⟨_,_,rfl,vp t g e hq⟩
  ·cases e
meta def Dv(n:Nat)(τt:Addr->Option bw):Addr->Option bw:=λp=>match τt p with|↥q=>if q.getLast?=↥n then ↥q.dropLast else none|none=>none
meta def Du(n:Nat)(τt:Addr->Option bw):Addr->Option bw:=λp=>match τt p with|↥q=>if q.getLast?=↥n then none else ↥q|none=>none
def Iq{n:Nat}{p:Addr}{q:bw}(h:Dv n τt p=↥q):τt p=↥(q++[n]):=by
 unfold Dv at h;cases e:τt p with
 |none=>rw[e]at h;cases h
 |some k =>
  rw[e]at h;by_cases c:k.getLast?=↥n
  ·simp only[c,if_true]at h;cases h;obtain⟨ys,rfl⟩:=List.getLast?_eq_some_iff.mp c;simp
  ·simp only[c,if_false]at h;cases h
def Ip{n:Nat}{p:Addr}{q:bw}(h:Du n τt p=↥q):τt p=↥q/\q.getLast?≠↥n:=by
 unfold Du at h;cases e:τt p with
 |none=>rw[e]at h;cases h
 |some k =>
  rw[e]at h;by_cases c:k.getLast?=↥n
  ·simp only[c,if_true]at h;cases h
  ·simp only[c,if_false]at h;cases h;exact⟨rfl,c⟩
theorem rq{H:Hp}{R:af}{τt:Addr->Option bw}{n:Nat}:∀{vs:ah} {ds:aa} {m:Nat},n<m->aH (a_ X.K H) (nd X.K R ⇑7 τt H) [] m vs ds->aH (a_ X.K H) (nd X.K R ⇑7 (Du n τt) H) [] m vs ds
 |_,_,_,_,.nil=>.nil
 |_,_,m,hm,.cons h t=>.cons (h.imp (q':=[m]) ⇑10 λc p xs f h=>by
   cases f with
   |ow =>
    refine⟨h.1,?_⟩;have e:=h.2;unfold Du;rw[e];have:(c++[m]).getLast?≠↥n:=by rw[List.getLast?_append];simp;left
    simp only[this,if_false]
   |fz=>exact h
   |al=>exact h
   |sc=>exact h) (rq ⋯ t)
set_option tactic.hygienic true in
theorem mF{H:Hp}{R:af}{Q:St->Hp->Prop}:∀{is:aS} {vs:ah} {ds:aa} {n:Nat} {σ:St} {τ τt:Addr->Option bw} {ρ ρ':aV},(∀p q,τt p=↥q->τ p=none/\¬ R p/\X.H₀ p=none/\H p≠none)->aH (a_ X.K H) (nd X.K R ⇑7 τt H) [] n vs ds->SI X F R τ ρ σ H->dJ is ds ρ=ok ρ' ->
  (∀a τ',SI X F R τ' ρ' a H->Q a H)->Xv is vs σ H Q
 |[],_,_,_,σ,τ,_,_,_,_,.nil,Si,e,hq=>by
  cases e;exact⟨rfl,hq σ τ Si⟩
 |[],_,_,_,_,_,_,_,_,_,.cons _ _,_,e,_=>by cases e
 |_::_,_,_,_,_,_,_,_,_,_,.nil,_,e,_=>by cases e
 |i::is,_,_,n,σ,τ,τt,ρ,_,ht,.cons (v:=v) (d:=d) h t,Si,e,hq=>by
  change (if _ then _ else _)=_ at e;split at e
  ·rename_i j;have s:=Si.SW (i:=i) (τt:=Dv n τt) (λp q b=>ht p _ (Iq b)) (h.imp (q':=[]) ⇑10 λc p xs f h=>by
    cases f with
    |ow =>
     refine⟨h.1,?_⟩;have e:=h.2;unfold Dv;rw[e,zaw];simp
    |fz=>exact h
    |al=>exact h
    |sc=>exact h) j
   refine⟨_,_,rfl,mF (τt:=Du n τt) (λp q b=>?_) (rq (abc n) t) s e hq⟩;ext(⟨g,l⟩:Ip b)(⟨r,m⟩:ht p q g);refine⟨?_,m⟩;unfold xP Dv;rw[g];simp only[l,if_false];exact r
  ·cases e
def N_{es:aj}{k:Nat}{t:HH}{n:Nat}(l:X.calm=true)(h:Rh X es t)
  (hn:(hG es X.env).length=n) (p:(hG es X.env).findIdx? (·.1)=none):PG X (.Tuple es k pos) (λv σ H Q=>∃a xs,v=.ref a/\(a_ X.K H a xs\/eA X.K H a xs)/\xs.length=n/\t xs σ H Q):=by
 intro pins s σ H v u Q I r hw;ext(⟨a,xs,e1,g,j,hw⟩:hw);subst e1;cases r;obtain⟨c,d,J,x⟩:∃c:aw,Vals xs c/\c.length=n/\∀(Q:aw->am->Prop),(∀h',rj s.heap.objs.size s.heap h'->Q c { s with heap:=h' })->⇑0 (unpackItems (.ref a) n none) Q X.xe s:=by
  ext((g|g):g)
  ·ext(⟨c,d,y,_⟩:I.tuple g);have e:c.toArray.size=n:=by simp[<- j,d.length]
   exact⟨c,d,⇑e,λQ i=>[-e]\yaN (I.ok.hd l) y λh' z=>⇑(i h' z)⟩
  ·ext(⟨c,d,m,_⟩:I.list g);have e:c.toArray.size=n:=by simp[<- j,d.length]
   exact⟨c,d,⇑e,λQ i=>[-e]\PySem.W.kun_itemsOf (I.ok.hd l) m.isList λh' z=>⇑(i h' z)⟩
 rw[assign_Tuple];refine aab (ad8 ?_);unfold unpack;rw[hn,p];refine aab (abS (x _ λh' q=>?_));have B:Inv X pins σ H { s with heap:=h' }:=I.kept (t':=s.toks) λb o e=>q b o (aaw (aan e)) e;exact h pins _ σ H xs _ Q B d hw
protected def Nm(L:nh X S k Φ)(h:qS S (.tp is) tg=true):∃g,PG X tg g/\∀(v:V) (σ:St) (H:Hp) (Q:St->Hp->Prop) (R:af) (τ:Addr->Option bw) (ρ ρ':aV) (d:D),SI X F R τ ρ σ H->jt X R τ H v d->Ih is d ρ=ok ρ' ->
  (∀a τ',SI X F R τ' ρ' a H->Q a H)->g v σ H Q:=by
 ext(⟨es,s,t⟩:bu h)(⟨nn,z,rfl⟩:jU s)(⟨y,x,u⟩:x6 L t);refine⟨_,N_ L.calm y x u,λv σ H Q R τ ρ ρ' d n q e m=>?_⟩;have len:∀(is:aS) (ds:aa) (ρ ρ':aV),dJ is ds ρ=ok ρ'->ds.length=is.length:=by
  intro is;induction is with
  |nil=>intro ds ρ ρ' e;cases ds with|nil=>rfl|cons _ _=>cases e
  |cons i is r=>intro ds ρ ρ' e;cases ds with
   |nil=>cases e
   |cons d ds =>
    change (if _ then _ else _)=_ at e;split at e
    ·rw[zae,zae,r ds _ _ e]
    ·cases e
 ext(⟨τt,l,j⟩:q);cases d<;>first|exact nk e | (cases e;done)|skip
 ·rename_i ds;have e:dJ is ds ρ=ok ρ':=e;cases j with
  | @tup _ p xs _ c b=>exact⟨p,xs,rfl,.inl c,[b.length]\len _ _ _ _ e,mF l b n e m⟩
 ·rename_i f ds;have e:dJ is ds ρ=ok ρ':=e;ext(⟨p,xs,rfl,c,b⟩:j.nI);exact⟨p,xs,rfl,.inr c.sq,[b.length]\len _ _ _ _ e,mF l b n e m⟩
protected def zl(L:nh X S k Φ){t:Tg}(h:qS S t tg=true):∃g,PG X tg g/\∀(v:V) (σ:St) (H:Hp) (Q:St->Hp->Prop) (R:af) (τ:Addr->Option bw) (ρ ρ':aV) (d:D),SI X F R τ ρ σ H->jt X R τ H v d->cn t d ρ=ok ρ' ->
  (∀a τ',SI X F R τ' ρ' a H->Q a H)->g v σ H Q:=by
 cases t with
 |nm i =>
  refine⟨pU i,Eh L h,λv σ H Q R τ ρ ρ' d j b e c=>?_⟩;simp only[cn]at e;split at e
  ·rename_i x;cases e;ext(⟨τ',M⟩:j.set b x);exact c _ τ' M
  ·cases e
 |tp is =>
  ext(⟨es,r,z⟩:bu h)(⟨nn,O,rfl⟩:jU r)(⟨J,I,B⟩:x6 L z);refine⟨_,Eg L.calm J I B,λv σ H Q R τ ρ ρ' d j b e c=>?_⟩;cases d<;>try (simp[cn]at e;done)
  rename_i ds;simp only[cn]at e;split at e
  ·cases e
  ·rename_i u;ext(⟨τt,U,n⟩:b);cases n with
   | @tup _ p xs _ s l =>
    have m:aH (a_ X.K H) (nd X.K R ⇑7 ⇑8 H) [] 0 xs ds:=aH.without (P:=cq) ⇑10 (λk k' p xs f y h=>by
     cases f with
     |ow=>cases y
     |fz=>exact h
     |al=>exact h.2.elim
     |sc=>exact h) l ⇑u _ _
    refine⟨p,xs,rfl,s,?_,vp m j e c⟩;rw[l.length];have:∀(is:aS) (ds:aa) (ρ ρ':aV),dJ is ds ρ=ok ρ'->ds.length=is.length:=by
     intro is;induction is with
     |nil=>intro ds ρ ρ' e;cases ds with|nil=>rfl|cons _ _=>cases e
     |cons i is q=>intro ds ρ ρ' e;cases ds with
      |nil=>cases e
      |cons d ds =>
       change (if _ then _ else _)=_ at e;split at e
       ·simp[q ds _ _ e]
       ·cases e
    exact this _ _ _ _ e
end
section
variable {X:Cx}{S:Sx}{k:Nat}{F:af}{Φ:aY}
def DA(L:nh X S k Φ){t:Tg}{e:CE}{v:Expr}(he:cc S e v=true)(d:qS S t tg=true)(y:(isTup v&&isTup tg)=false)(I:Ad [tg] v pos.line X.env=pure false):PS X (.Assign [tg] v pos) (mh X F Φ (.asg t e)):=by
 ext(⟨g,z,q⟩:zl (F:=F) L d);have m:(∃x p,tg=.Name x p)\/∃es n p,tg=.Tuple es n p:=by
  cases t with
  |nm i=>cases tg<;>first|exact .inl ⟨_,_,rfl⟩|exact(aad d).elim
  |tp is=>cases tg<;>first|exact .inr ⟨_,_,_,rfl⟩|exact(aad d).elim
 have each:(hG [tg] X.env).map (·.2)=[Aj tg X.env]:=by
  rcases m with ⟨x,p,rfl⟩|⟨es,n,p,rfl⟩<;>rfl
 have hw:n7 [tg] v X.env=pure none:=by
  ext((⟨x,p,rfl⟩|⟨es,n,p,rfl⟩):m)
  ·first|rfl | (cases v<;>rfl)
  ·cases v<;>first|rfl|exact absurd y (by simp[isTup])
 refine PS.imp (D9 (sP (F:=F) L.toLk e v he) z I hw each) λD σ H j=>?_;ext(⟨R,τ,ρ,r,J,a,j⟩:j)(⟨r1,O,a⟩:aI a)(⟨c,l,a⟩:aI a);cases a;exact⟨R,τ,ρ,r1,J,O,λv H' R' τ' es hR B s=>q v σ H' _ R' τ' r1.2 c r1.1 B s l λb u M=>j b H' R' u M (Kp.of es hR)⟩
def NF(L:nh X S k Φ){e:CE}{v:Expr}(he:cc S e v=true)(j:qS S (.tp is) tg=true)(t:(isTup v&&isTup tg)=false)(y:Ad [tg] v pos.line X.env=pure false):PS X (.Assign [tg] v pos) (mh X F Φ (.unp is e)):=by
 ext(⟨g,u,m⟩:Nm (F:=F) L j);have l:∃es n p,tg=.Tuple es n p:=by
  cases tg<;>first|exact⟨_,_,_,rfl⟩|exact(aad j).elim
 have each:(hG [tg] X.env).map (·.2)=[Aj tg X.env]:=by
  ext(⟨es,n,p,rfl⟩:l);rfl
 have hw:n7 [tg] v X.env=pure none:=by
  ext(⟨es,n,p,rfl⟩:l);cases v<;>first|rfl|exact absurd t (by simp[isTup])
 refine PS.imp (D9 (sP (F:=F) L.toLk e v he) u y hw each) λD σ H d=>?_;ext(⟨R,τ,ρ,r,z,a,d⟩:d)(⟨r1,I,a⟩:aI a)(⟨c,i,a⟩:aI a);cases a;exact⟨R,τ,ρ,r1,z,I,λv H' R' τ' es hR x q=>m v σ H' _ R' τ' r1.2 c r1.1 x q i λb s B=>d b H' R' s B (Kp.of es hR)⟩
protected def IC(L:nh X S k Φ){i n:Nat}{t:Tg}{J:IK}{x:Str}{p SR:Pos}{gens:List ol}{sc:Scope}
  (he:cc S (.comp n t caps J es bU elt) (.ListComp kr gens sc pos)=true) (hn:m7 S i (.Name x p)=true) (Ux:mR (.ListComp kr gens sc pos) ↥(.Name x p) SR.line X.env=pure true) :
  PS X (.Assign [.Name x p] (.ListComp kr gens sc pos) SR) (mh X F Φ (.asg (.nm i) (.comp n t caps J es bU elt))):=by
 intro pins s σ H D I j;ext(⟨R,τ,ρ,r,Si,O,j⟩:j)(⟨r1,U,O⟩:aI O)(⟨ρ',u,O⟩:aI O);cases O;have U:bd (bg Φ (.comp n t caps J es bU elt) ρ) (λd=>ok (keep (.comp n t caps J es bU elt) d ρ))=ok r1:=U;ext(⟨d,ed,U⟩:aI U);cases U;ext(hg:Eh L hn);rw[exec_Assign_Name_used _ _ _ _ Ux];refine aab (ad8 (aab ?_));ext(⟨⟨e0,g0,s0⟩,hv0,FA⟩:bu he);cases hv0;ext(⟨⟨target,iter,y,a⟩,hg1,c⟩:bu FA);obtain rfl:gens=_:=bM hg1;ext(⟨c,h6⟩:aC c)(⟨c,h5⟩:aC c)(⟨c,h4⟩:aC c)(⟨c,h3⟩:aC c)(⟨c,h2⟩:aC c)(⟨c,h1⟩:aC c);obtain rfl:a=0:=aac c;ext(hC:wO (aac h3) h4 (λ(X':Cx) (F':af) (L':Lk X' (S.inner target caps sc) k Φ)=>jw bU X' _ F' L' y h4));have run:⇑0 (comprehension (.ListComp kr [⟨target,iter,y,0⟩] sc pos) sc X.env (firstIterPos [⟨target,iter,y,0⟩] pos) (newList []) false (eval iter X.env) ↥(Aj (.Name x p) X.env)) (λ_ Y=>SP X pins D .next Y) X.xe s:=by
  refine wQ (F:=F) (k:=k) L.toLk (r9 h1) h2 (λX' F' L'=>(fy (F:=F') L' elt kr h5).1) hC ?_ (use:=↥(Aj (.Name x p) X.env)) (Post:=λ_ Y=>SP X pins D .next Y) I Si ed ?_
  ·exact Fq L.toLk (λl=>n_ (F:=F) L.toLk es l) (λl=>jw es X S F L.toLk l) (λl=>lL L.toLk es l) h6
  ·intro g C H1 W m CM hc IX sm rt;ext(⟨c1,c2,c3,c4,c5⟩:hc)(⟨R',τ',hR,eB,rk⟩:Me (e:=.comp n t caps J es bU elt) Si sm rt);have I1:Inv X pins σ H1 W:=IX W.heap (.refl ..);ext(⟨Z,esC,epC,hoC,M,hrC⟩:CM);have cfs:C∉X.fs:=λz=>by
    ext(⟨_,o,ho,_⟩:I1.ok.kR.mem z);exact absurd (aam (aan ho) c2) (abb _)
   have I2:Inv X ((C,Z)::pins) σ H1 W:=I1.j6 λq j=>by
    ext((rfl|j):c0.mp j)
    ·exact⟨hoC,c5,c1,cfs,λv z=>by rw[M]at z;cases z⟩
    ·exact I1.pin q (aay _ j)
   simp only[cn]at u;split at u
   ·rename_i hi;cases u;ext(⟨τ2,sA⟩:eB.set rk hi);show wpAny _ _ (Aj (.Name x p) X.env (.ref g)) _ _ _;refine aaX (hg ((C,Z)::pins) W σ H1 (.ref g) (.ref g) (λB H'=>B=σ.set i ↥(.ref g)/\H'=H1) I2 rfl ⟨rfl,rfl⟩) (λ_ s2 h2=>?_) λ_ _ z=>z;ext(⟨B,H',I3,rfl,rfl⟩:h2)(hC3:(I3.pin (C,Z) (aay _ aag)).1);refine⟨m,⟨Z,esC,epC,hC3,M,hrC⟩,λh' xx=>?_⟩;have I4:Inv X pins (σ.set i ↥(.ref g)) H' s2:=I3.j6 λq j=>I3.pin q (aay _ (aaj _ j));ext(I5:I4.turned (t':=s2.toks) (h':=h') (it:=C) (λb o hb e=>(xx.2 b hb).trans e) c5 c1 (.inr c2) c3 c4);exact⟨_,H',I5,j _ H' R' τ2 sA (Kp.of sm hR)⟩
   ·cases u
 exact aab (aaX run (λ_ Y h=>aaf (aaf h)) λ_ _ z=>z)
def NG(L:nh X S k Φ){e:CE}{v:Expr}(he:cc S e v=true):PS X (.Return ↥v pos) (mh X F Φ (.ret e)):=by
 refine PS.imp (mL (sP (F:=F) L.toLk e v he)) λD σ H a=>?_;ext(⟨R,τ,ρ,r,g,b,a⟩:a)(⟨r1,i,b⟩:aI b);cases b;exact⟨R,τ,ρ,r1,g,i,λv H' R' τ' es hR c d=>a v H' c.same (d.ret c)⟩
def SO(L:nh X S k Φ){e:CE}{v:Expr}(he:cc S e v=true)(i:iT v=false):PS X (.Expr v pos) (mh X F Φ (.ex e)):=by
 refine PS.imp (lN (fy (F:=F) L.toLk e v he).1 (iD he i _ _ _)) λD σ H a=>?_;ext(⟨R,τ,ρ,r,c,b,a⟩:a)(⟨d,g,b⟩:aI b);cases b;exact tD.intro c g λv H' es j=>a σ H' R τ (c.go es) (Kp.of es λ_ h=>h)
def nH.from{D:Ends}{R:Addr->Prop}{H:Hp}{r:Fo×aV}(h:nH X F D R H r)(c:Kp R H R1 H1):nH X F D R1 H1 r:=by
 ext(⟨e,b⟩:r);cases e with
 |nx=>exact λa H' R' τ' g k2=>h a H' R' τ' g (c.trans k2)
 |rt d=>exact h
def SN(L:nh X S k Φ){c:CE}{a b:ai}{t:Expr}{x y:aQ}(i:cc S c t=true)(l:gS X x (lI X F Φ a))(j:gS X y (lI X F Φ b)):PS X (.If t x y pos) (mh X F Φ (.ifs c a b)):=by
 refine PS.imp (vI (fy (F:=F) L.toLk c t i).2 l j) λD σ H e=>?_;ext(⟨R,τ,ρ,r,g,d,e⟩:e)(⟨w,m,d⟩:aI d);refine⟨R,τ,ρ,w,g,m,λH1 e1=>?_⟩;cases w with
 |true=>rw[zac rfl]at d ⊢;exact⟨R,τ,ρ,r,g.go e1,d,e.from (Kp.of e1 λ_ h=>h)⟩
 |false=>rw[zab ⇑5]at d ⊢;exact⟨R,τ,ρ,r,g.go e1,d,e.from (Kp.of e1 λ_ h=>h)⟩
def Dz(L:nh X S k Φ){c:CE}{b:ai}{t:Expr}{x:aQ}(y:cc S c t=true)(z:gS X x (lI X F Φ b)):PS X (.While t x [] pos) (mh X F Φ (.Lm c b)):=by
 refine PS.imp (D4 L.px (fy (F:=F) L.toLk c t y).2 z) λD σ H l=>?_;ext(⟨R,τ,ρ,r,O,I,l⟩:l)(⟨n,v⟩:mO I);refine⟨λm a H'=>∃R' τ' e,SI X F R' τ' e a H'/\Kp R H R' H'/\di m _ e=ok r,⟨n,R,τ,ρ,O,Kp.refl R H,v⟩,?_⟩;rintro m p H1 ⟨R1,g,j,q,k1,e1⟩;cases m with
 |zero=>simp[di]at e1
 |succ m =>
  rw[di]at e1;ext(⟨st,es,e1⟩:aI e1)(⟨w,B,es⟩:aI es);refine⟨R1,g,j,w,q,B,λH2 e2=>?_⟩;cases w with
  |false =>
   rw[zab ⇑5]at es ⊢;cases es;cases e1;exact l p H2 R1 g (q.go e2) (k1.trans (Kp.of e2 λ_ h=>h))
  |true =>
   rw[zac rfl]at es ⊢;ext(⟨⟨s,i⟩,J,es⟩:aI es);refine⟨λa H'=>∃R' τ' e,SI X F R' τ' e a H'/\Kp R H R' H'/\di m _ e=ok r,λa H' h=>⟨m,abc m,h⟩,R1,g,j,(s,i),q.go e2,J,?_⟩;have k2:Kp R H R1 H2:=k1.trans (Kp.of e2 λ_ h=>h);cases s with
   |nx=>cases es;exact λa H' R' τ' M u=>⟨R',τ',i,M,k2.trans u,e1⟩
   |rt d=>cases es;cases e1;exact l
def mf(X:Cx)(F:af)(Φ:aY)(t:Tg)(b:ai)(R1:af)(H1:Hp)(r:Fo×aV)(items:List DI.D)(i:Nat)(σ:St)(H:Hp):Prop :=
 ∃R' τ' a,SI X F R' τ' a σ H/\Kp R1 H1 R' H/\dw (λd ρ=>cn t d ρ) (λρ=>bF Φ b ρ) (items.drop i) a=ok r
def pZ{g:TG}{t:Tg}{b:ai}{D:Ends}{r:Fo×aV}{items:List DI.D}{q:bw}
  (y:∀(v:V) (σ:St) (H:Hp) (Q:St->Hp->Prop) (R:af) (τ:Addr->Option bw) (ρ ρ':aV) (d:DI.D),SI X F R τ ρ σ H->jt X R τ H v d->cn t d ρ=ok ρ'->(∀a τ',SI X F R τ' ρ' a H->Q a H)->g v σ H Q)
  (rs:aH (a_ X.K H1) (nd X.K R1 ⇑7 ⇑8 H1) q 0 xs items) (M:nH X F D R1 H1 r) (i:Nat) (x:V) (σ:St) (H:Hp) (L:xs[i]?=↥x) (h:mf X F Φ t b R1 H1 r items i σ H) :
  g x σ H λn H2=>lI X F Φ b { D with nx:=mf X F Φ t b R1 H1 r items (i+1),ct:=mf X F Φ t b R1 H1 r items (i+1),bk:=D.nx } n H2:=by
 ext(⟨R',τ',ρ',U,p,c⟩:h)(⟨d,hd,z⟩:rs.F3 L);have l:i<items.length:=by
  by_cases l:i<items.length
  ·exact l
  ·rw[dV ⋯]at hd;cases hd
 have B:items.drop i=d::items.drop (i+1):=by
  rw[zax l];rw[ce l]at hd;cases hd;rfl
 rw[B,dw]at c;ext(⟨j,e1,c⟩:aI c)(⟨⟨s,e⟩,e2,c⟩:aI c);refine y x σ H _ R' τ' ρ' j d U (j5 (Rep.mP (p.rep z))) e1 λa I O=>⟨R',I,j,(s,e),O,e2,?_⟩
 cases s with
 |nx=>exact λu Z W m Y J=>⟨W,m,e,Y,p.trans J,c⟩
 |rt d=>cases c;exact M
def oA{t:Tg}{b:ai}{D:Ends}{r:Fo×aV}{items:List DI.D}{n:Nat}(hn:n=items.length)(e:nH X F D R1 H1 r)(σ:St)(H:Hp)(h:mf X F Φ t b R1 H1 r items n σ H):D.nx σ H:=by
 ext(⟨R',τ',c,g,d,a⟩:h);subst hn;rw[XV,dw]at a;cases a;exact e σ H R' τ' g d
def Ao(ρ:aV):iH [] ρ=ρ:=by
 unfold iH;apply aea;intro i;rw[li];cases ρ[i]? with
 |none=>rfl
 |some o=>simp
def ox{R:af}{H:Hp}{v:V}{d:DI.D}(b:SI X F R τ ρ σ H)(es:aL H H')(r:ck X.K (gP X F) R τ fv H H' v d):
  ∃R' τ',(∀p,R p->R' p)/\SI X F R' τ' (if aW bS d then iH fv ρ else ρ) σ H'/\Rep (a_ X.K H') (nd X.K R' ⇑7 ⇑8 H') [] v (aJ aK d):=by
 by_cases a:aW bS d=true
 ·exact[zac a]\ue b es r
 ·rw[zab a];have e:ck X.K (gP X F) R τ [] H H' v d:=by
   ext(⟨τt,i,c⟩:r);exact⟨τt,i,Rep.lB (P:=bS) ⇑10 (λk p xs f g h=>by
    cases f with
    |ow=>exact h
    |fz=>exact h
    |al=>cases g
    |sc=>exact h) c ⇑a⟩
  have:=ue b es e;rw[Ao]at this;exact this
def F8{R:af}{H:Hp}{ds:List DI.D}(b:SI X F R τ ρ σ H)(es:aL H H')(r:cW X.K (gP X F) R τ fv H H' vs ds):
  ∃R' τ',(∀p,R p->R' p)/\SI X F R' τ' (if aR bS ds then iH fv ρ else ρ) σ H'/\aH (a_ X.K H') (nd X.K R' ⇑7 ⇑8 H') [] 0 vs (ao aK ds):=by
 by_cases a:aR bS ds=true
 ·exact[zac a]\wt b es r
 ·rw[zab a];have d:cW X.K (gP X F) R τ [] H H' vs ds:=by
   ext(⟨τt,g,c⟩:r);exact⟨τt,g,aH.lB (P:=bS) ⇑10 (λk p xs f e h=>by
    cases f with
    |ow=>exact h
    |fz=>exact h
    |al=>cases e
    |sc=>exact h) c ⇑a⟩
  have:=wt b es d;rw[Ao]at this;exact this
def wiP(X:Cx)(F:af)(Φ:aY)(p:Nat)(cs:aA):TI:=λσ H a=>∃R τ ρ xs d items,SI X F R τ ρ σ H/\b6 Φ cs ρ=ok xs/\Φ p xs=ok d/\xW d=ok items /\
 ∀J H2 vs,aL H H2->cW X.K (gP X F) R τ (d_ cs) H H2 vs xs->XU X.K J H2 vs xs items->a J H2
def IB(L:nh X S k Φ){t:Tg}{p:Nat}{b:ai}{x:aQ}(ht:qS S t tg=true)(hi:S.px.pi p S.sc S.bl iter=↥args)(hc:bW S cs args=true)(FF:WW iter=true)(Z:(decide (1100<=p)||jD tg)=true)(hb:gS X x (lI X F Φ b)):PS X (.For tg iter x [] pos) (mh X F Φ (.fr t (.L0 p cs) b)):=by
 ext(⟨g,hg,t4⟩:zl (F:=F) L ht);have jF:∀y,nv iter X.env y=pure y:=by
  intro y;cases iter<;>first|rfl | (cases FF;done)
 have pi:PI X tg iter (wiP X F Φ p cs):=λpins s σ H Rr I ⟨R,τ,ρ,xs,d,items,B,dm,ed,e,hR⟩ =>
  L.pr.i X _ _ k L.toLk.pX p iter args hi F cs tg Z (lL L.toLk cs args hc) pins s σ H R τ ρ xs d items I B dm ed e Rr hR
 refine PS.imp (kN L.px L.calm pi hg hb jF) λD σ H hq=>?_;ext(⟨R,τ,ρ,r,B,ev,hq⟩:hq)(⟨⟨items,ρ1⟩,e,ef⟩:aI ev)(⟨xs,dm,e⟩:aI e)(⟨d,ed,e⟩:aI e)(⟨Zx,ei',e⟩:aI e);cases e;refine⟨R,τ,ρ,xs,d,items,B,dm,ed,ei',λJ H2 vs e2 IS W=>?_⟩;ext(⟨R',τ',hR,eB,rs⟩:F8 B e2 IS)(B0:hq.from (Kp.of e2 hR));refine⟨λi m c H'=>m=items.length - i/\i<=items.length/\mf X F Φ t b R' H2 r items i c H',⟨_,rfl,aa7 _,R',τ',_,eB,Kp.refl R' H2,[zaV]\ef⟩,?_⟩;rintro i m j H1 ⟨rfl,Mt,hf⟩;ext(⟨R1,O,U,uH,k1,e1⟩:id hf)(NZ:k1.YX rs);have Y:xl X.K H2 vs xs H1:=⟨⟨R',rs,k1.l⟩,λa ys h=>k1.SQ h⟩
 by_cases z:i<items.length
 ·refine .inr ⟨W.go i H1 R1 Y NZ z,λc H'=>mf X F Φ t b R' H2 r items (i+1) c H',λc H' h=>⟨items.length - (i+1),by left,rfl,z,h⟩,λv H3 hy=>?_⟩;ext(⟨e3,dd,hd,rd⟩:W.y8 i H1 R1 v H3 Y NZ z hy);have pP:items.drop i=dd::items.drop (i+1):=by
   rw[zax z];rw[ce z]at hd;cases hd;rfl
  rw[pP,dw]at e1;ext(⟨u,eb,e1⟩:aI e1)(⟨⟨fo,q⟩,e4,e1⟩:aI e1);have k3:Kp R' H2 R1 H3:=k1.trans (Kp.of e3 λ_ h=>h);refine t4 v j H3 _ R1 O U u dd (uH.go e3) (j5 rd) eb λc oQ Hj=>⟨R1,oQ,u,(fo,q),Hj,e4,?_⟩
  cases fo with
  |nx=>exact λσ3 H4 R3 M Lc k4=>⟨R3,M,q,Lc,k3.trans k4,e1⟩
  |rt d=>cases e1;exact B0
 ·exact .inl ⟨W.stop i H1 R1 Y NZ ⋯,oA (n:=i) ⋯ B0 j H1 hf⟩
theorem aH.ints{T:qv}{N:k_}:∀(is:ae) {k:bw} {n:Nat},aH T N k n (is.map V.int) (is.map DI.D.int)
 |[],_,_=>.nil
 |i::is,_,_=>.cons ↑i (aH.ints is)
protected def NI(L:nh X S k Φ){t:Tg}{it:CI}{b:ai}{x:aQ}(ht:qS S t tg=true)(B:QW S it iter=true)(hnp:(jD tg||EC it)=true)(hb:gS X x (lI X F Φ b)):PS X (.For tg iter x [] pos) (mh X F Φ (.fr t it b)):=by
 ext(⟨g,hg,t4⟩:zl (F:=F) L ht);have jF:∀y,nv iter X.env y=pure y:=by
  intro y;cases iter<;>first|rfl | (cases it<;>first|exact(aad B).elim|exact(aad (aC B).2).elim)
 have nu:∀{lo:Int} {n:Nat} {D:Ends} {R:af} {τ:Addr->Option bw} {ρ:aV} {σ:St} {H H1:Hp} {r:Fo×aV},SI X F R τ ρ σ H->aL H H1->nH X F D R H r ->
   dw (λd ρ=>cn t d ρ) (λρ=>bF Φ b ρ) ((eg n).map λ(k:Nat)=>DI.D.int (lo+(k:Int))) ρ=ok r ->
   ∃W:Nat->Nat->L2.St->Hp->Prop,(∃m,W 0 m σ H1)/\∀i m σ H,W i m σ H ->
    ((CD lo n).stop i H/\D.nx σ H)\/((CD lo n).go i H/\∃N:L2.St->Hp->Prop,(∀j H',N j H'->∃m',m'<m/\W (i+1) m' j H')/\∀x H',(CD lo n).y8 i H x H'->g x σ H' λσ2 H2=>lI X F Φ b { D with nx:=N,ct:=N,bk:=D.nx } σ2 H2):=by
  intro lo n D R τ ρ σ H H1 r q e1 z J;have u:aH (a_ X.K H1) (nd X.K R ⇑7 ⇑8 H1) [] 0 ((eg n).map λ(k:Nat)=>V.int (lo+(k:Int))) ((eg n).map λ(k:Nat)=>DI.D.int (lo+(k:Int))):=by
   have:=aH.ints (T:=a_ X.K H1) (N:=nd X.K R ⇑7 ⇑8 H1) ((eg n).map λ(k:Nat)=>lo+(k:Int)) (k:=[]) (n:=0);rw[zah,zah]at this;exact this
  have M:=z.from (Kp.of e1 (R':=R) λ_ h=>h);refine Ca (mf X F Φ t b R H1 r _) ⟨R,τ,ρ,q.go e1,Kp.refl R H1,[zaV]\J⟩ (λi j H' Pp h=>?_) (λj H' h=>oA ⇑5 M j H' h);exact pZ t4 u M i ↑(lo+i) j H' (by rw[bv,vj Pp];rfl) h
 intro pins s σ H D I RF;cases it with
 |L0 p cs =>
  ext(⟨FF,hz⟩:aC B)(⟨args,ha,Mm⟩:bu hz);exact IB L ht ha Mm FF ([Bool.or_comm]\hnp) hb pins s σ H D I RF
 |nu a =>
  ext(⟨R,τ,ρ,r,q,U,z⟩:RF)(⟨⟨items,ρ1⟩,l,J⟩:aI U)(⟨⟨y,as⟩,hv,hz⟩:bu B)(⟨p,BU,rfl⟩:b9 hv)(⟨Xf,Mm⟩:aC hz)(⟨ZM,h2⟩:aC Xf)(⟨ZL,h1⟩:aC ZM);obtain rfl:y=_:=aac ZL;ext(⟨e,hu,Y⟩:bu Mm);obtain rfl:as=[e]:=bM hu;have pa:PA X [e] (ri X F Φ [a]):=PA.imp (b0 (fy (F:=F) L.toLk a e Y).1 cZ (bG Y _ _)) λ_ _ _ h=>by
   have:=fY h;ext(⟨R,τ,ρ,d,q,U,z⟩:this);exact⟨R,τ,ρ,d,q,U,λv H' e r=>jW (z v H' e r)⟩
  refine kN L.px L.calm (rC (L.gl h1) (L.bl _ (aac h2)) pa (bG Y _ _)) hg hb jF pins s σ H D I ?_;ext(⟨d,Z,l⟩:aI l);cases d<;>try (simp at l;done)
  rename_i n;simp at l;ext(⟨⟨c1,c2⟩,rfl,rfl⟩:l);have mT:(cB:Int)=1000000:=rfl;refine⟨R,τ,ρ,[.int n],q,by show bd (bg Φ a ρ) _=_;rw[Z];rfl,λvs H1 e1 O=>?_⟩;ext(⟨τt,fr,u⟩:O);cases u.ints1
  ·refine⟨n,rfl,by left,by left,?_⟩;refine nu (lo:=0) q e1 z ?_;simpa using J
 |mI a c =>
  ext(⟨R,τ,ρ,r,q,U,z⟩:RF)(⟨⟨items,ρ1⟩,l,J⟩:aI U)(⟨⟨y,as⟩,hv,hz⟩:bu B)(⟨p,BU,rfl⟩:b9 hv)(⟨Xf,Mm⟩:aC hz)(⟨ZM,h2⟩:aC Xf)(⟨ZL,h1⟩:aC ZM);obtain rfl:y=_:=aac ZL;ext(⟨⟨e,e'⟩,hu,h34⟩:bu Mm);obtain rfl:as=[e,e']:=fX hu;ext(⟨Y,h4⟩:aC h34);have pa:PA X [e,e'] (ri X F Φ [a,c]):=n_ L.toLk [a,c] [e,e'] (by show(cc S a e&&(cc S c e'&&true))=true;rw[Y,h4];rfl);refine kN L.px L.calm (rB (L.gl h1) (L.bl _ (aac h2)) pa (by rw[bG Y,bG h4];rfl) (bG h4 _ _)) hg hb jF pins s σ H D I ?_;ext(⟨d,Z,l⟩:aI l)(⟨d',ed',l⟩:aI l);cases d<;>try (simp at l;done)
  cases d'<;>try (simp at l;done)
  rename_i m _ n;simp at l;ext(⟨⟨c1,c2,c3,c4⟩,rfl,rfl⟩:l);have mT:(cB:Int)=1000000:=rfl;refine⟨R,τ,ρ,[.int m,.int n],q,by show bd (bg Φ a ρ) _=_;rw[Z];show bd (bd (bg Φ c ρ) _) _=_;rw[ed'];rfl,λvs H1 e1 O=>?_⟩;ext(⟨τt,fr,u⟩:O);cases u.ints2
  ·refine⟨m,n,rfl,⟨by left,by left,by left,by left⟩,?_⟩;exact nu (lo:=m) q e1 z J
 |seq a =>
  ext(⟨R,τ,ρ,r,q,U,z⟩:RF)(⟨⟨items,ρ1⟩,l,J⟩:aI U);replace B:=aC B;ext(⟨d,Z,l⟩:aI l)(pe:(fy (F:=F) L.toLk a iter B.1).1);cases d<;>try (simp at l;done)
  ·rename_i ds;simp at l;ext(⟨rfl,rfl⟩:l);refine kN L.px L.calm (x5 pe) hg hb jF pins s σ H D I (tD.intro q Z λv H1 e1 O=>?_);ext(⟨R',τ',hR,eB,rp⟩:ox q e1 O);rw[aJ]at rp;cases rp with
   | @tup _ p xs _ hp u =>
    have M:=z.from (Kp.of e1 hR);refine⟨p,rfl,⟨xs,hp⟩,oy (xs:=xs) (mf X F Φ t b R' H1 r (ao aK ds)) ⟨R',τ',_,eB,Kp.refl R' H1,[zaV]\J⟩ (λi j H' _ h=>?_) (λi x j H' hx h=>pZ t4 u M i x j H' hx h) (λj H' h=>oA (u.length) M j H' h)⟩;ext(⟨R2,τ2,ρ2,_,kp,_⟩:h);exact kp.SQ hp
  ·rename_i f ds;simp at l;ext(⟨rfl,rfl⟩:l);refine kN L.px L.calm (tu pe) hg hb jF pins s σ H D I (tD.intro q Z λv H1 e1 O=>?_);ext(⟨R',τ',hR,eB,rp⟩:ox q e1 O);rw[aJ]at rp;ext(⟨p,xs,rfl,hp,u⟩:rp.nI);have M:=z.from (Kp.of e1 hR);refine⟨p,rfl,⟨xs,hp.sq⟩,oy (xs:=xs) (mf X F Φ t b R' H1 r (ao aK ds)) ⟨R',τ',_,eB,Kp.refl R' H1,[zaV]\J⟩ (λi j H' _ h=>?_) (λi x j H' hx h=>pZ t4 u M i x j H' hx h) (λj H' h=>oA (u.length) M j H' h)⟩;ext(⟨R2,τ2,ρ2,_,kp,_⟩:h);exact(kp.nd hp).sq
def pG{R:Addr->Prop}{ρ':aV}{H:Hp}{p:Addr}{q:bw}{n:Nd}{o:HO}(j:SI X F R' τ' ρ' σ H1)(es:aL H H1)(hR:∀p,R p->R' p)(d:eN H1 p n)(b:τ' p=↥q):Kp R H R' (upd H1 p o):=by
 ext(⟨r,c,i,l⟩:eN.some d);exact⟨hR,λa u g e=>by
  have ne:a≠p:=λz=>by subst z;rw[j.rt _ (hR _ g)]at b;cases b
  rw[bt ne];exact es _ _ e,λa m e=>by
  ext(e1:es _ _ e);have ne:a≠p:=λz=>by subst z;rw[c]at e1;cases e1;exact i _ rfl
  rw[bt ne];exact e1,λa o u e=>by
  ext(e1:es _ _ e);have ne:a≠p:=λz=>by subst z;rw[c]at e1;cases e1;exact l _ _ rfl
  rw[bt ne];exact e1⟩
protected def W9(L:nh X S k Φ){i:Nat}(h:m7 S i o=true)(d:∀x p,o=.Name x p->nS x=true):∃x p,o=.Name x p/\X.N[i]?=↥x/\L2.Loc X.env.scope x/\PE X o (mw i):=by
 cases o<;>try (exact(aad h).elim;done)
 rename_i x p;ext(a:d x p rfl);replace h:=aC h;unfold nS at a;simp only[zag,zbb]at a;have c:X.N[i]?=↥x:=[L.N]\aac h.1
 ext(b:L.loc h.2);exact⟨x,p,rfl,c,b,iP c (b.imp id .inl) a.1.1 a.1.2⟩
protected def Ki{e:CE}{r:DI.D×aV}{i:Nat}{ds:List DI.D}(h:kc Φ e ρ=ok r)(a:r.2[i]?=↥↥(.ow\ds)):ρ[i]?=↥↥(.ow\ds):=by
 by_cases c:∃j,e=.v j
 ·ext(⟨j,rfl⟩:c);simp only[kc]at h;split at h
  ·split at h
   ·cases h;by_cases g:i=j
    ·subst g;rw[xz]at a;simp at a
    ·rw[cb (ip g)]at a;exact a
   ·cases h;exact a
  ·cases h
 ·have h':bd (bg Φ e ρ) (λd=>ok (keep e d ρ))=ok r:=by
   cases e<;>first|exact h|exact absurd ⟨_,rfl⟩ c
  ext(⟨d,_,m⟩:aI h');cases m;unfold keep at a;split at a
  ·ext(⟨d',l,b⟩:Ap _ _ _ _ a);split at b
   ·cases d'<;>simp[aJ]at b;rename_i f ds';cases f<;>simp[aK]at b
   ·exact[b]\l
  ·exact a
protected def NK(L:nh X S k Φ){i:Nat}{e:CE}{x:Str}{v:Expr}{p I B:Pos}(hn:m7 S i (.Name x p)=true)(hx:nS x=true)(he:cc S e v=true)(Y:(I.endLine==B.line)=true):PS X (.Expr (.Call (.Attribute (.Name x p) ("append" : Str) I) [v] [] B) pos) (mh X F Φ (.app i e)):=by
 ext(⟨_,_,z,hN,hl,pe⟩:W9 L hn (λy q e=>by cases e;exact hx));cases z;refine PS.imp (lN (En adp adg C4 rH pe (b0 (sP (F:=F) L.toLk e v he) cZ (bG he _ _)) (hfew:=by rw[bG he];rfl) (hline:=Y) (hs:=bG he _ _))) λD σ H t=>?_;ext(⟨R,τ,ρ,r,J,b,t⟩:t)(⟨r1,U,b⟩:aI b);split at b
 ·rename_i ds c;split at b
  ·rename_i hc;cases b;ext(c:Jm c)(⟨a,xs,s,ha,hxl,ZU,_⟩:J.own (Ki U c));refine⟨.ref a,s,⟨rfl,_,eA.of ha⟩,R,τ,ρ,r1,J,U,λw H1 R1 W es hR j rk=>?_⟩;ext(⟨a1,Ll,M,u,ZN,O,NZ⟩:j.own c);rw[s]at M;cases M;have hz:sizeLine=16777216:=acj;have mT:cB=1000000:=rfl;refine⟨a,Ll,w,rfl,rfl,u,by left,?_⟩;ext(⟨d,Z⟩:j.put (m:=ds.length) (g:=λys=>ys++[w]) c s u O NZ rk λrs r=>aH.snoc rs ⇑r);exact t σ _ R1 d Z (pG (n:=.l _) j es hR u O)
  ·cases b
 ·cases b
protected def NJ(L:nh X S k Φ){i:Nat}{b:Bool}{e:CE}{x:Str}{v:Expr}{p:Pos}(hn:m7 S i (.Name x p)=true)(J:nS x=true)(he:cc S e v=true):PS X (.AugAssign (.Name x p) (if b then .Add else .Sub) v pos) (mh X F Φ (.aug i b e)):=by
 ext(⟨_,_,z,U,M,Y⟩:W9 L hn (λy q e=>by cases e;exact J));cases z;have I:Wt X (if b then .Add else .Sub) (ZD λy z=>if b then y+z else y - z):=by
  cases b
  ·exact O5
  ·exact O7
 refine PS.imp (D8 L.nd U M (fy (F:=F) L.toLk e v he).1 I (.inl (L.oB _))) λD σ H j=>?_;ext(⟨R,τ,ρ,r,m,c,j⟩:j)(⟨n,en,c⟩:aI c)(⟨d,W,en⟩:aI en)(en:JR en);subst en;split at c
 ·rename_i a l;cases c;ext(⟨w,hw,B⟩:m.rep i _ l);cases B;have O:i<ρ.length:=by
   by_cases z:i<ρ.length
   ·exact z
   ·rw[dV ⋯]at l;cases l
  refine⟨_,hw,tD.intro m W λu H1 e1 t=>?_⟩;cases t.isInt;refine⟨_,_,rfl,rfl,?_⟩;ext(⟨g,s⟩:(m.go e1).set (i:=i) (v:=.int (if b then a+n else a - n)) (d:=.int (if b then a+n else a - n)) ⟨λ_=>none,λ_ _ h=>by simp at h,.int _⟩ O);exact j _ H1 R g s (Kp.of e1 λ_ h=>h)
 ·cases c
end
section
variable {X:Cx}{S:Sx}{k:Nat}{F:af}{Φ:aY}
def N8(x:Str)(p:Pos):(mA x p).pos=p:=rfl
def xS{x y:Str}{px d pt u:Pos}{l:Nat}{a b:Expr}(q:env.scope.kind=.function)(n:env.scope.names.lookup x=↥.local)(m:env.scope.names.lookup y=↥.local)(c:x≠y)(p:px.line=d.line)
  (t:[a,b].all (foldedForSure 8)=false) (s:[a,b].all (constantsAlone 8)=false) (g:([a,b].any λe=>match e with|.Starred ..=>true|_=>false)=false) :
  n7 [.Tuple [.Name x px,.Name y d] l pt] (.Tuple [a,b] k2 u) env=pure ↥[x,y]:=by
 have r:env.blockKind=.function:=by unfold ya3;rw[q];rfl
 have j:env.kindOf x=↥.local:=n;have i:env.kindOf y=↥.local:=m;have e1:([x,y].eraseDups.length != [x,y].length)=false:=by
  have:¬ (y==x)=true:=by simp;exact λz=>c z.symm
  have h':(y==x)=false:=⇑this
  simp[List.eraseDups_cons,List.filter,h',c]
 unfold n7;simp only[r,g,zaX,List.filterMap_nil,j,i,p,N8,List.head?_cons,zbX,Option.getD_some,t,s];simp only[zbd,yaH,if_true];rw[zab ⇑5];refine(ad0 ?_).trans ?_
 ·intro z;exact aad (g.symm.trans z)
 rw[zab (by
  rw[e1];simp),zab zal,zab zal]
def o7{R:Addr->Prop}{H:Hp}{a:bw}{v:V}{d:DI.D}(h:Rep (a_ X.K H) (nd X.K R A τ H) a v d)(hf:aW anyF d=false):jt X R' τ' H v d :=
 ⟨λ_=>none,λ_ _ h=>by simp at h,Rep.without (P:=anyF) ⇑10 (λk k' p xs f hf h=>by cases hf) h hf _⟩
def NH(L:nh X S k Φ){i j:Nat}{a b:CE}{v:Expr}(he:cc S (.tup [a,b]) v=true)(hp:GV S i j tg v=true):PS X (.Assign [tg] v pos) (mh X F Φ (.par i j a b)):=by
 ext(⟨ts,Pd,q1⟩:bu hp)(⟨kt,pt,rfl⟩:jU Pd)(⟨⟨t1,t2⟩,z,q2⟩:bu q1);obtain rfl:ts=[t1,t2]:=fX z;ext(⟨⟨x,px⟩,u,q3⟩:bu q2);obtain rfl:t1=_:=zc u;ext(⟨⟨y,py⟩,t,q4⟩:bu q3);obtain rfl:t2=_:=zc t;ext(⟨vs,s,q5⟩:bu q4)(⟨k2,Rt,rfl⟩:jU s)(⟨⟨ea,eb⟩,q,q6⟩:bu q5);obtain rfl:vs=[ea,eb]:=fX q
 ·ext(⟨q7,PR⟩:aC q6)(⟨q8,I⟩:aC q7)(⟨q9,J⟩:aC q8)(⟨Y7,M⟩:aC q9)(⟨p,O⟩:aC Y7)(⟨n,d⟩:aC p)(⟨m,e⟩:aC n)(⟨l,U⟩:aC m)(⟨Y,W⟩:aC l);replace Y:S.N[i]?=↥x:=aac Y;replace W:S.N[j]?=↥y:=aac W;replace U:=aac U;replace e:=aac e;replace d:=aac d;replace O:=aac O;replace M:=aac M;replace J:=dS J;replace I:=dS I;replace PR:=aac PR;replace he:=aC he;ext(pa:n_ (F:=F) L.toLk [a,b] [ea,eb] he.1);refine PS.imp (N7 L.calm L.nd ([L.N]\Y) ([L.N]\W) U ([L.sc]\e) ([L.sc]\d) pa (xS ([L.sc]\L.fk) ([L.sc]\e) ([L.sc]\d) O M J I PR)) λD σ H B=>?_;ext(⟨R,τ,ρ,r,Si,c,B⟩:B)(⟨d1,ed1,c⟩:aI c)(⟨d2,Z,c⟩:aI c);simp only[Mk]at c;ext(⟨⟨f1,f2,l1,l2⟩,rfl⟩:c);refine⟨R,τ,ρ,[d1,d2],Si,by show bd (bg Φ a ρ) _=_;rw[ed1];show bd (bd (bg Φ b ρ) _) _=_;rw[Z];rfl,λvs H1 e1 rv=>?_⟩;ext(⟨τt,fr,rs⟩:rv)(⟨v1,v2,rfl,r1,r2⟩:rs.two)
  ·ext(⟨τ1,S1⟩:(Si.go e1).set (i:=i) (o7 r1 f1) l1)(⟨g,S2⟩:S1.set (i:=j) (o7 r2 f2) ⇑l2);exact⟨v1,v2,rfl,B _ H1 R g S2 (Kp.of e1 λ_ h=>h)⟩
def Bk{X:Cx}{F:af}{Φ:aY}{c:CS}{cs:ai}{g:aQ}(n:PS X st (mh X F Φ c))(m:gS X g (lI X F Φ cs)):gS X (st::g) (lI X F Φ (c::cs)):=by
 refine gS.imp (cG n m) λD σ H b=>?_;ext(⟨R,τ,ρ,r,q,e,b⟩:b)(⟨⟨i,a⟩,e1,e⟩:aI e);refine⟨R,τ,ρ,(i,a),q,e1,?_⟩;cases i with
 |nx=>exact λj H' R' τ' p l=>⟨R',τ',a,r,p,e,b.from l⟩
 |rt d=>cases e;exact b
mutual
theorem xU(L:nh X S k Φ):∀(c:CS) (st:Stmt),qj S c st=true->PS X st (mh X F Φ c)
 |.asg t e,st,h=>by
  ext(⟨⟨M,v⟩,n,q1⟩:bu h)(⟨pos,rfl⟩:jV n)(⟨tg,u,q2⟩:bu q1);obtain rfl:M=[tg]:=bM u;ext(⟨B,s⟩:aC q2)(⟨I,l⟩:aC B)(⟨d,g⟩:aC I);have d:cc S e v=true:=d;replace l:(isTup v&&isTup tg)=false:=dS l;cases Y:iT v with
  |false=>exact DA L d g l (iD d Y _ _ _)
  |true =>
   have s:(!iT v||isNm tg)=true:=s;rw[Y]at s;ext(⟨x,p,rfl⟩:ou s)(⟨kr,gens,sc,Se,rfl⟩:BR Y);cases e<;>try (exact(aad d).elim)
   cases t with
   |tp is=>exact(aad g).elim
   |nm i =>
    cases hb:YE S (.Name x p) (.ListComp kr gens sc Se)with
    |true=>exact IC L d g ⇑[Ly L,hb]
    |false=>exact DA L d g l (by
      show mR (.ListComp kr gens sc Se) ↥(.Name x p) pos.line X.env=_;rw[Ly L,hb])
 |.par i j a b,st,h=>by
  ext(⟨⟨M,v⟩,n,q1⟩:bu h)(⟨pos,rfl⟩:jV n)(⟨tg,u,q2⟩:bu q1);obtain rfl:M=[tg]:=bM u;exact NH L (aC q2).1 (aC q2).2
 |.ret e,st,h=>by
  ext(⟨z,n,q1⟩:bu h)(⟨pos,rfl⟩:y_ n)(⟨v,u,q2⟩:bu q1);obtain rfl:z=↥v:=u;exact NG L q2
 |.rs c,st,h=>λ_ _ _ _ _ _ b_=>by ext(⟨R,τ,ρ,r,Si,ev,hq⟩:b_);cases ev
 |.ex e,st,h=>by
  ext(⟨v,n,q1⟩:bu h)(⟨pos,rfl⟩:oV n);exact SO L (aC q1).1 (dS (aC q1).2)
 |.mut p i es,st,h=>by
  ext(⟨⟨o,args⟩,Z,q1⟩:bu h)(⟨q2,l⟩:aC q1)(⟨d,g⟩:aC q2)(⟨x,O,rfl,hN,W,U⟩:W9 L d (λy q e=>by cases e;exact g));exact L.pm.m X _ _ k L.toLk.pX L.nd L.oB p st x O args Z i hN W U F es (lL L.toLk es args l)
 |.mu2 p i k e,st,h=>by
  ext(⟨⟨o,args⟩,Z,q1⟩:bu h)(⟨q2,l⟩:aC q1)(⟨d,g⟩:aC q2)(⟨x,O,rfl,hN,W,U⟩:W9 L d (λy q e=>by cases e;exact g));exact L.pm.m2 X _ _ _ L.toLk.pX L.nd L.oB p st x O args Z i hN W U F k e (lL L.toLk [k,e] args l)
 |.unp is e,st,h=>by
  ext(⟨⟨M,v⟩,n,q1⟩:bu h)(⟨pos,rfl⟩:jV n)(⟨tg,u,q2⟩:bu q1);obtain rfl:M=[tg]:=bM u;ext(⟨B,s⟩:aC q2)(⟨I,l⟩:aC B)(⟨d,g⟩:aC I);have d:cc S e v=true:=d;replace l:(isTup v&&isTup tg)=false:=dS l;exact NF L d g l (iD d (dS s) _ _ _)
 |.app i e,st,h=>by
  ext(⟨c,n,q1⟩:bu h)(⟨pos,rfl⟩:oV n)(⟨⟨fn,as,ks,p2⟩,u,q2⟩:bu q1);obtain rfl:c=_:=mv u;ext(⟨B,I⟩:aC q2);obtain rfl:ks=[]:=jE B;ext(⟨⟨o,a,p1⟩,v3,q5⟩:bu I);obtain rfl:fn=_:=oW v3;ext(⟨q6,q7⟩:aC q5)(⟨v,v4,s⟩:bu q7);obtain rfl:as=[v]:=bM v4;ext(⟨q8,h5⟩:aC q6)(⟨q9,g⟩:aC q8)(⟨Y7,d⟩:aC q9);obtain rfl:a=_:=aac Y7;obtain⟨x,p,rfl⟩:∃x p,o=.Name x p:=uo d;exact NK L d g s h5
 |.aug i op e,st,h=>by
  ext(⟨⟨o,p,v⟩,n,q1⟩:bu h)(⟨pos,rfl⟩:zg n)(⟨q2,s⟩:aC q1)(⟨B,l⟩:aC q2)(⟨d,g⟩:aC B);obtain rfl:p=_:=aac l;obtain⟨x,O,rfl⟩:∃x p,o=.Name x p:=uo d;exact NJ L d g s
 |.ifs c a b,st,h=>by
  ext(⟨⟨t,x,y⟩,n,q1⟩:bu h)(⟨pos,rfl⟩:sH n)(⟨q2,l⟩:aC q1)(⟨d,g⟩:aC q2);exact SN L d (iM L a _ g) (iM L b _ l)
 |.Lm c b,st,h=>by
  ext(⟨⟨t,x,y⟩,n,q1⟩:bu h)(⟨pos,rfl⟩:Ib n)(⟨q2,l⟩:aC q1)(⟨d,g⟩:aC q2);obtain rfl:y=[]:=jE d;exact Dz L g (iM L b _ l)
 |.fr t it b,st,h=>by
  ext(⟨⟨tg,iter,x,y⟩,n,q1⟩:bu h)(⟨pos,rfl⟩:ze n)(⟨q2,h5⟩:aC q1)(⟨B,s⟩:aC q2)(⟨I,l⟩:aC B)(⟨d,g⟩:aC I);obtain rfl:y=[]:=jE d;exact NI L g l s (iM L b _ h5)
theorem iM(L:nh X S k Φ):∀(cs:ai) (J:aQ),jn S cs J=true->gS X J (lI X F Φ cs)
 |[],[],_=>gS.imp tj λD σ H b_=>by ext(⟨R,τ,ρ,r,Si,ev,hq⟩:b_);cases ev;exact hq σ H R τ Si (Kp.refl R H)
 |[],_::_,h=>by exact(aad h).elim
 |_::_,[],h=>by exact(aad h).elim
 |c::cs,st::J,h=>by
  replace h:=aC h;have d:PS X st (mh X F Φ c):=xU L c st h.1;have g:gS X J (lI X F Φ cs):=iM L cs J h.2;exact Bk d g
end
end
def P5{N:aq}{body:ai}{r:D}{H:Hp}(y:X.H₀=H)(hpl:ds.length<=N.length)
  (rs:aH (a_ X.K H) (nd X.K F ⇑7 ⇑8 H) [] 0 vs ds) (g:qG Φ N.length body ds=ok r)
  (k:∀v H',aL H H'->(∃τt:Addr->Option bw,(∀p q,τt p=↥q->H p=none)/\Rep (a_ X.K H') (nd X.K (λp=>F p\/H p=none) ⇑7 τt H') [] v r)->Q v H') :
  lI X F Φ body { nx:=λ_ H'=>Q .bX H',rt:=Q } (start N vs) H:=by
 subst y;unfold qG at g;ext(⟨⟨l,j⟩,B,g⟩:aI g);have s:vs.length=ds.length:=rs.length;refine⟨λp=>F p/\X.H₀ p≠none,λ_=>none,_,(l,j),⟨?_,λi d e=>?_,λ_ _=>rfl,λp h=>h.2,λp h=>.inl h.1,λ_ _ h=>by simp at h,λ_ _ h=>by simp at h,aL.refl _⟩,B,?_⟩
 ·unfold L2.start;simp[s]
 ·have n:i<ds.length:=by
   by_cases m:i<ds.length
   ·exact m
   ·rw[d6 ⇑m]at e;rw[hY]at e;split at e<;>simp at e
  rw[d7 ⇑n,bv]at e;have hd:ds[i]?=↥d:=by
   cases q:ds[i]? with
   |none=>rw[q]at e;cases e
   |some z=>rw[q]at e;simp at e;rw[e]
  ext(⟨v,x,u⟩:rs.get hd);refine⟨v,?_,u.imp (q:=[0+i]) (q':=[i]) ⇑10 λc p xs f h=>?_⟩
  ·unfold L2.start;rw[d7 ([zaa,s]\n),bv,x];rfl
  ·cases f with
   |ow=>exact nomatch h.2
   |fz=>exact⟨h.1,h.2,h.1.ne⟩
   |al=>exact h.2.elim
   |sc=>exact h
 ·cases l with
  |nx =>
   cases g;exact λt H' R' τ' I J=>k .bX H' I.same ⟨λ_=>none,λ_ _ h=>by simp at h,.bX⟩
  |rt d =>
   cases g;exact λv H' es ⟨a,b,c⟩=>k v H' es ⟨a,b,c⟩
variable {mg:Str->Option Value}{ps:aq}{qual:Str}
def wx{x:Str}{f:Addr}{a:hA}{k:Nat}{N bl:aq}{cs:List (Str×GK)}{px:Px}{c:Nat->Option Str}{m:aD}{body:ai}
  (J:CF K x qual st f a) (b:e_ N ps (aE st)) (M:jn ⟨aE st,N,c,bl,cs,px⟩ body (bC st)=true) (O:nZ px Φ) (I:Hq px Φ)
  (j:∀y∈bl,mg y=none) (p:∀y i,(y,i)∈cs->∃u,mg y=↥u/\xp K i u)
  (n:∀g y,c g=↥y->∃(f:Addr) (a:hA) (ps:aq),fQ P w K mg base uR k f a ps (Hx K ps.length (Φ g))/\mg y=↥(.ref f)/\hO K (.ref f)=true/\Binds K a ps []/\∀ds r,Φ g ds=ok r->ds.length=ps.length)
  (v:∀ds r,m ds=ok r->ds.length=ps.length/\qG Φ N.length body ds=ok r):fQ P w K mg base uR (k+1) f a ps (Hx K ps.length m):=by
 refine J.ok (N:=N) b (λvs H Q E ⟨_,_,_,h,_⟩=>h) λz A outer s H vs Q E q e=>?_;ext(⟨F,ds,r,R,l,B,t⟩:e)(⟨U,d⟩:v ds r B)
 let X:=(jr uR P w K mg base N qual (aE st) f z A outer s H E).ya
 have L:nh X ⟨aE st,N,c,bl,cs,px⟩ k Φ:=⟨⟨rfl,rfl,b.nd,rfl,q,j,λg y h=>⟨n g y h⟩,p,O⟩,λ_=>rfl,PL,b.kind,I⟩
 exact⟨lI X F Φ body,iM L body _ M,P5 rfl (by have:=aa5 l7 b.pre;rw[zar]at this;left) l d t⟩
structure Ent(P:aG)(w:World)(K:av)(mg:aU)(base:Heap)(k:Nat)(y:Str)(m:aD):Prop where
 ex:∃(f:Addr) (fd:hA) (ps:aq),fQ P w K mg base uR k f fd ps (Hx K ps.length m)/\mg y=↥(.ref f)/\hO K (.ref f)=true/\Binds K fd ps []/\∀ds r,m ds=ok r->ds.length=ps.length
def Ent.up{k k':Nat}{y:Str}{m:aD}(h:Ent P w K mg base k y m)(a:k<=k'):Ent P w K mg base k' y m:=by
 ext(⟨f,d,ps,c,b⟩:h.ex);exact⟨f,d,ps,c.mono a,b⟩
def ent{x:Str}{f:Addr}{a:hA}{k:Nat}{N bl:aq}{cs:List (Str×GK)}{px:Px}{b:Nat->Option Str}{m:aD}{body:ai}
  (d:CF K x qual st f a) (hmg:mg x=↥(.ref f)) (n:Binds K a ps []) (p:e_ N ps (aE st)) (s:jn ⟨aE st,N,b,bl,cs,px⟩ body (bC st)=true) (t:nZ px Φ) (q:Hq px Φ) (e:∀y∈bl,mg y=none) (l:∀y i,(y,i)∈cs->∃u,mg y=↥u/\xp K i u)
  (j:∀g y,b g=↥y->Ent P w K mg base k y (Φ g)) (c:∀ds r,m ds=ok r->ds.length=ps.length/\qG Φ N.length body ds=ok r):Ent P w K mg base (k+1) x m :=
 ⟨f,a,ps,wx d p s t q e l (λg y h=>(j g y h).ex) c,hmg,d.kp,n,λds r h=>(c ds r h).1⟩
def bO{b:Type}(P:b->Prop):List b->Prop
 |[]=>True
 |a::l=>P a/\bO P l
theorem bO.mem{b:Type}{P:b->Prop}:∀{l:List b},bO P l->∀a∈l,P a
 |[],_,_,h=>by cases h
 |_::_,h,_,hm=>(c0.mp hm).elim (λe=>e▸h.1) (bO.mem h.2 _)
theorem bO.tab{c:Type}{P:Nat->c->Prop}:∀{l:List (Nat×c)},bO (λp=>P p.1 p.2) l->∀g y,l.lookup g=↥y->P g y
 |[],_,_,_,h=>by cases h
 | (k,b)::l,h,g,y,e=>by
  rw[zan]at e;cases a:g==k with
  |true=>rw[a]at e;cases e;exact[eq_of_beq a]\h.1
  |false=>rw[a]at e;exact bO.tab h.2 g y e
def bO.two{b a:Type}{P:b->a->Prop}{l:List (b×a)}(h:bO (λp=>P p.1 p.2) l)(y:b)(i:a)(c:(y,i)∈l):P y i:=bO.mem h _ c
def T_{b:Type}{l:List b}(h:l.length=1):∃a,l=[a]:=List.length_eq_one_iff.mp h
def OK{c:Type}{l:List c}(h:l.length=2):∃a b,l=[a,b]:=by
 cases l with
 |nil=>cases h
 |cons a l=>ext(⟨b,rfl⟩:T_ (Xm h));exact⟨a,b,rfl⟩
meta def pL:aa->Option (ae)
 |[]=>↥[]
 |.int i::ds=>(pL ds).map (i :: ·)
 |_::_=>none
theorem pK:∀ns:ae,pL (ns.map D.int)=↥ns
 |[]=>rfl
 |n::ns=>by simp[pL,pK ns]
theorem vQ:∀{ds:aa} {ns:ae},pL ds=↥ns->ds=ns.map D.int
 |[],ns,h=>by simp[pL]at h;subst h;rfl
 |d::ds,ns,h=>by
  cases d<;>simp[pL]at h;ext(⟨ms,a,rfl⟩:h);rw[vQ a];rfl
def tO:aD
 |[.sc\ds]=>match pL ds with
  |some ns=>if ns.length<=63 then ok (.bl true)else none
  |none=>none
 |_=>none
def JA(h:ns.length<=63):tO [.sc\(ns.map D.int)]=ok (.bl true):=by
 simp[tO,pK,h]
protected def EX{n:Nat}{b:ai}(h:∀ns:ae,ns.length<=63->qG Φ n b [.sc\(ns.map D.int)]=ok (.bl true)):∀ds r,tO ds=ok r->ds.length=1/\qG Φ n b ds=ok r:=by
 intro ds r e
 match ds,e with
 |[.sc\ds],e =>
  simp only[tO]at e;split at e
  ·rename_i ns c;split at e
   ·rename_i a;cases e;ext(rfl:vQ c);exact⟨rfl,h ns a⟩
   ·cases e
  ·cases e
def ON(K:av)(H:Hp)(a:Addr)(ns:ae)(m:aD)(c:m [.sc\(ns.map D.int)]=ok (.bl true))(e:Le H)(d:eA K H a (ns.map V.int)):Hx K 1 m [.ref a] H (λv _=>v=.bl true) λ_ _ _=>False:=by
 refine⟨λ_=>True,_,.bl true,rfl,.cons (.lst ?_ (aH.ints ns)) .nil,c,λv H' _ g=>by ext(⟨τt,_,b⟩:g);cases b;rfl⟩;ext(((h|h)|h):d)
 ·ext((z|⟨o,xs,z⟩):e a)
  ·rw[h]at z;cases z
  ·rw[h]at z;cases z
 ·exact .inl h
 ·exact .inr h
section
variable {X:Cx}{pins:au}{σ:St}{H:Hp}{s:am}{h':Heap}
def Ii(I:Inv X pins σ H s)(hf:∀b∈ch,qq X pins H b)(k:∀b u,b∉ch->s.heap.get? b=↥u->h'.get? b=↥u):Inv X pins σ H { s with heap:=h',toks:=t' }:=by
 have i:∀b u,H b=↥u->b∉ch:=λb u e z=>by rw[(hf b z).1]at e;cases e
 refine I.step (g':=s.gens) (d':=s.drawn) (ch:=ch) (λb c=>⟨(hf b c).2.2.2.1,(hf b c).2.1,(hf b c).2.2.2.2.1,(hf b c).2.2.2.2.2⟩) (λb o _ _ a e _=>k b o a e) (λb o _ _ a e _=>⟨o.slots,k b o a e⟩) (λ_ _ _ _ n=>n)
  (λb o a e=>⟨o,k b o a e⟩) (λ_ _ e=>e) (λ_ _ _ e=>e) (λm g=>?_) (λb u e=>?_) I.bare
 ·ext(⟨o,es,ep,d,r⟩:g);exact⟨o,es,ep,k _ o (λz=>(hf _ z).2.1 rfl) d,r⟩
 ·exact(I.cI b u e).lK λv=>k b v (i b u e)
def Ij{T:Addr}{o:HO}(I:Inv X pins σ H s)(hf:∀b∈ch,qq X pins H b)(k:∀b u,b∉ch->s.heap.get? b=↥u->h'.get? b=↥u)(g:s.heap.objs.size<=T)(new:cN (upd H T o) h' T o):
  Inv X pins σ (upd H T o) { s with heap:=h',toks:=t' }:=by
 have l:∀b u,H b=↥u->b∉ch:=λb u e z=>by rw[(hf b z).1]at e;cases e
 have d:H T=none:=I.cI.fresh g;have ne:∀b (u:Obj),s.heap.get? b=↥u->b≠T:=λb u e z=>absurd (aan e) ([z]\mn.mpr g);have up:∀b u,H b=↥u->upd H T o b=↥u:=λb u e=>[bt (dQ e d)]\e
 refine I.step (g':=s.gens) (d':=s.drawn) (ch:=ch) (λb c=>⟨(hf b c).2.2.2.1,(hf b c).2.1,(hf b c).2.2.2.2.1,(hf b c).2.2.2.2.2⟩) (λb o _ _ a e _=>k b o a e) (λb o _ _ a e _=>⟨o.slots,k b o a e⟩) (λb u _ e n=>[bt (ne b u e)]\n)
  (λb o a e=>⟨o,k b o a e⟩) (λ_ _ e=>up _ _ e) (λ_ _ _ e=>up _ _ e) (λm j=>?_) (Ae (λb u e=>?_) d new) I.bare
 ·ext(⟨o,es,ep,i,r⟩:j);exact⟨o,es,ep,k _ o (λz=>(hf _ z).2.1 rfl) i,r⟩
 ·exact(I.cI b u e).lK λv=>k b v (l b u e)
end
def Itz(K:av)(a b:Addr):It :=
  ⟨λi H=>∃xs ys x y,eA K H a xs/\eA K H b ys/\xs[i]?=↥x/\ys[i]?=↥y,
   λi H v H'=>∃T x y,(∀xs,eA K H a xs->xs[i]?=↥x)/\(∀ys,eA K H b ys->ys[i]?=↥y)/\H T=none/\v=.ref T/\H'=upd H T (.tup [x,y]),
   λi H=>∃xs ys,eA K H a xs/\eA K H b ys/\(xs.length<=i\/ys.length<=i)⟩
def zj{H:Hp}{T:Addr}{x y:V}{u v:Value}(b:RelV x u)(a:RelV y v)(e:h.get? T=some { cls:=.type "tuple",data:=.seq #[u,v] }):cN H h T (.tup [x,y]) :=
 ⟨by rw[i8];simp,[u,v],.cons b (.cons a .nil),⟨_,e,rfl,_,rfl⟩⟩
def dj{a b:Addr}{o u:Obj}(e:h.get? a=↥o)(c:h.get? b=↥u)(d:o.cls≠u.cls):a≠b:=λz=>by
 subst z;rw[e]at c;cases c;exact d rfl
def Dj{tp:Pos}{a b z TI TO:Addr}(Y:TI≠TO)(Kc:i1≠i2):
  Turn P w K (.Tuple elts n1 tp) (Itz K a b) [z,TI,TO,i1,i2] z (λi h=>IsZip h z TI TO .none/\ul h TI (.ref i1) (.ref i2)/\(∃x y,ul h TO x y)/\h.IsListIter i1 a i/\h.IsListIter i2 b i):=by
 have apart:∀{h:Heap} {x y:Value} {xs ys:aZ} {i:Nat},IsZip h z TI TO .none->ul h TI (.ref i1) (.ref i2)->ul h TO x y->h.IsListIter i1 a i->h.IsListIter i2 b i->h.IsList a xs->h.IsList b ys->JV z TI TO i1 i2 a b:=by
  intro h x y xs ys i d l j l1 l2 ha hb;ext(⟨r,e1,c1,_⟩:l1)(⟨o2,e2,c2,_⟩:l2)(⟨oa,J,M,_⟩:ha)(⟨ob,B,L,_⟩:hb);exact⟨dj l d ⇑5,dj j d ⇑5,dj e1 d (by rw[c1];simp),dj e2 d (by rw[c2];simp),Y,dj l e1 (by rw[c1];simp),dj l e2 (by rw[c2];simp),dj j e1 (by rw[c1];simp),dj j e2 (by rw[c2];simp),Kc,
   dj J d (by rw[M];simp),dj J j (by rw[M];simp),dj J e1 (by rw[M,c1];simp),dj J e2 (by rw[M,c2];simp),dj B d (by rw[L];simp),dj B j (by rw[L];simp),dj B e1 (by rw[L,c1];simp),dj B e2 (by rw[L,c2];simp)⟩
 refine⟨by simp,λi h st c g=>?_,λi h h' st k=>?_,?_,?_,λA i s Q E st hQ=>GE st.1 hQ⟩
 ·ext(⟨d,l,⟨x,y,j⟩,⟨r,e1,_,d1⟩,⟨o2,e2,_,d2⟩⟩:st);simp only[zau,zav,or_false]at g;ext((rfl|rfl|rfl|rfl|rfl):g)
  ·exact⟨_,d,λv q=>by cases q⟩
  ·exact⟨_,l,λv q=>by cases q⟩
  ·exact⟨_,j,λv q=>by cases q⟩
  ·exact⟨r,e1,λv q=>by rw[d1]at q;cases q⟩
  ·exact⟨o2,e2,λv q=>by rw[d2]at q;cases q⟩
 ·ext(⟨d,l,⟨x,y,j⟩,l1,l2⟩:st);exact⟨k z ⇑5 _ d,k TI ⇑5 _ l,⟨x,y,k TO ⇑5 _ j⟩,l1.at λo e=>k i1 ⇑5 o e,l2.at λo e=>k i2 ⇑5 o e⟩
 ·intro X Z hw hK g i pins s σ H E I t st W;subst Z hw hK;ext(⟨xs,ys,x,y,q1,q2,ex,ey⟩:W)(⟨d,l,⟨x0,y0,j⟩,l1,l2⟩:st)(⟨aP,R,p,_⟩:I.list q1)(⟨n,CJ,p',_⟩:I.list q2)(⟨u,hu,ru⟩:R.get ex)(⟨u',Mo,U⟩:CJ.get ey)(D:apart d l j l1 l2 p.isList p'.isList);refine Vs D d l j l1 l2 p.isList p'.isList (x:=u) (y:=u') ⇑hu ⇑Mo λh1 z1 r a1 b1 t1 WK k1=>⟨_,rfl,?_⟩
  refine wpAny_letOwnedTupleGo_zip z1 λh2 z2 m=>?_;have O:s.heap.objs.size≠z:=aaH (aan d);have kk:∀c o,c∉[z,TI,TO,i1,i2]->s.heap.get? c=↥o->h2.get? c=↥o:=λc o g e=>by
   simp only[zau,zav,or_false,not_or]at g;exact m.extBut c o g.1 (k1 c o g.1 g.2.2.1 g.2.2.2.1 g.2.2.2.2 e)
  have hT:h2.get? s.heap.objs.size=some { cls:=.type "tuple",data:=.seq #[u,u'] }:=m.extBut _ _ O t1;have hn:H s.heap.objs.size=none:=I.cI.fresh (aao _);refine⟨.ref s.heap.objs.size,upd H s.heap.objs.size (.tup [x,y]),Ij (s:=s) (h':=h2) (t':=s.toks) I t kk (aao _) (zj ru U hT),rfl,⟨_,x,y,λzs d=>[I.lQ d q1]\ex,λzs d=>[I.lQ d q2]\ey,hn,rfl,rfl⟩,⟨z2,m.extBut _ _ D.TIz (k1 _ _ D.TIz D.TITO D.TIi1 D.TIi2 l),⟨_,_,m.extBut _ _ D.TOz r⟩,a1.extBut m.extBut D.i1z,b1.extBut m.extBut D.i2z⟩,λc g=>?_⟩;rw[bt]
  ·exact(t c g).1
  ·intro z;subst z;simp only[zau,zav,or_false]at g;ext((e|e|e|e|e):g)
   ·exact absurd (aan d) ([-e]\abb _)
   ·exact absurd (aan l) ([-e]\abb _)
   ·exact absurd (aan j) ([-e]\abb _)
   ·ext(⟨_,w,_⟩:l1);exact absurd (aan w) ([-e]\abb _)
   ·ext(⟨_,w,_⟩:l2);exact absurd (aan w) ([-e]\abb _)
 ·intro X Z hw hK g i pins s σ H E I t st W;subst Z hw hK;ext(⟨xs,ys,q1,q2,hl⟩:W)(⟨d,l,⟨x0,y0,j⟩,l1,l2⟩:st)(⟨aP,R,p,_⟩:I.list q1)(⟨n,CJ,p',_⟩:I.list q2);have e1:=R.length;have e2:=CJ.length;refine YP (I.ok.hd g) (apart d l j l1 l2 p.isList p'.isList) d l j l1 l2 p.isList p'.isList (by simp;left) λh1 k1=>⟨rfl,Ii (t':=s.toks) I t λc o g e=>?_⟩
  simp only[zau,zav,or_false,not_or]at g;exact k1 c o g.1 g.2.2.1 g.2.2.2.1 g.2.2.2.2 e
variable {ta:TA}
def N9{l p:Pos}(B:Gl X "zip")(y:X.mg "zip" = none)(J:PA X [e1,e2] ta)(hs:∀es,cj (e1::es) X.env=(false,eval e1 X.env)::cj es X.env)(M:∀es,cj (e2::es) X.env=(false,eval e2 X.env)::cj es X.env):
  PI X (.Tuple elts n1 l) (.Call (.Name "zip" p) [e1,e2] [] pos) (λσ H R=>ta σ H λvs H1=>∃a b,vs=[.ref a,.ref b]/\(∃xs,eA X.K H1 a xs)/\(∃ys,eA X.K H1 b ys)/\R (Itz X.K a b) H1):=by
 intro pins s σ H R I h;refine Call_ (fB I B y boot_zip (aa3 (dD (J pos pins s σ H _ I h) λO c L=>?_) (hs _) (by rw[M];rfl)));ext(⟨vs,H1,d,r1,q1⟩:L)(⟨a,b,e,⟨xs,q1⟩,⟨ys,q2⟩,q⟩:q1);subst e;ext(⟨u,v,rfl,n,m⟩:vals2 r1);cases n;cases m;ext(⟨U,_,x,_⟩:d.list q1)(⟨g,_,r,_⟩:d.list q2);refine call_zip_2 x.isList r.isList λh' z t o l1 l2 sz k=>GE z ?_;refine⟨c.heap.objs.size+4,[c.heap.objs.size+4,c.heap.objs.size+2,c.heap.objs.size+3,c.heap.objs.size,c.heap.objs.size+1],_,_,H1,rfl,d.kept (t':=c.toks) k,Dj (aaw (abc _)) (aaw (abc _)),⟨z,t,⟨_,_,o⟩,l1,l2⟩,λb i=>?_,q⟩;have j:c.heap.objs.size<=b:=by
  simp only[zau,zav,or_false]at i;rcases i with rfl|rfl|rfl|rfl|rfl<;>first|exact aaG .. |exact aao _
 exact d.Kf j (d.cI.fresh j)
def qi(sc:Scope)(bl:aq)(e:Expr):Option (aj):=(eC e).bind λz=>(two z.2).bind λ_=>if z.1=("zip" : Str)/\fI sc z.1=true/\z.1∈bl then ↥z.2 else none
def se{sc:Scope}{bl:aq}{e:Expr}(h:qi sc bl e=↥args):∃p pos a b,e=.Call (.Name ("zip" : Str) p) [a,b] [] pos/\args=[a,b]/\fI sc ("zip" : Str)=true/\("zip" : Str)∈bl:=by
 ext(⟨⟨x,as⟩,c,h⟩:bT h)(⟨⟨a,b⟩,hw,h⟩:bT h)(⟨d,h⟩:gT h);cases h;ext(⟨rfl,i,g⟩:d)(⟨p,pos,rfl⟩:b9 c)(rfl:fX hw);exact⟨p,pos,a,b,rfl,rfl,i,g⟩
def mM{a b:Expr}(h:qx X F Φ cs [a,b]):(∃c d,cs=[c,d]/\PE X a (tD X F Φ c)/\PE X b (tD X F Φ d))/\PA X [a,b] (ri X F Φ cs)/\(∀es,cj (a::es) X.env=(false,eval a X.env)::cj es X.env)/\(∀es,cj (b::es) X.env=(false,eval b X.env)::cj es X.env):=by
 match cs,h with
 |[c,d],h =>
  ext(⟨j,i,_,g,e,_,_⟩:h);exact⟨⟨c,d,rfl,j,g⟩,PA.imp (b0 j (PA.imp (b0 g (PA.imp cZ λ_ _ _ h=>jW h) (e _)) λ_ _ _ h=>fY h) (i _)) λ_ _ _ h=>fY h,i,e⟩
 |[],h=>exact h.elim
 |[_],h=>exact h.2.2.2.elim
 |_::_::_::_,h=>exact h.2.2.2.2.2.2.elim
def Rep.to0{R:af}{H:Hp}{k:bw}{v:V}{d:D}(e:aL H H')(h:Rep (a_ K H) (nd K R ⇑7 ⇑8 H) k v d):Rep (a_ K H') (nd K R ⇑7 ⇑8 H') k' v d :=
 (Rep.mP h (k':=k')).imp (λ_ _ h=>a_.same e h) λ_ _ _ _ h=>nd.same e h
def HU{p q:Addr}{g:Fl}{a b:aa}:XU K (Itz K p q) H2 [.ref p,.ref q] [.lst f a,.lst g b] (ao aK (gb (λx y=>.tup [x,y]) a b)):=by
 have len:(ao aK (gb (λx y=>D.tup [x,y]) a b)).length=min a.length b.length:=by rw[aN];simp
 have two:∀{H':Hp} {R':af},aH (a_ K H') (nd K R' ⇑7 ⇑8 H') [] 0 [.ref p,.ref q] (ao aK [.lst f a,.lst g b]) ->
   ∃xs ys,eA K H' p xs/\eA K H' q ys/\aH (a_ K H') (nd K R' ⇑7 ⇑8 H') [0] 0 xs (ao aK a)/\aH (a_ K H') (nd K R' ⇑7 ⇑8 H') [1] 0 ys (ao aK b):=by
  intro H' R' h;rw[ao,aJ,ao,aJ,ao]at h;cases h with
  |cons h t=>cases t with
   |cons h' t=>cases h with
    |lst h r=>cases h' with
     |lst h' j=>exact⟨_,_,h.sq,h'.sq,r,j⟩
 refine⟨λi H' R' _ h e=>?_,λi H' R' x H _ h e m=>?_,λi H' R' _ h e=>?_⟩
 ·ext(⟨xs,ys,d,c,r1,r2⟩:two h);rw[len]at e;have l1:=r1.length;have l2:=r2.length;rw[aN,zaa]at l1 l2;exact⟨xs,ys,xs[i]'⋯,ys[i]'⋯,d,c,aaA _,aaA _⟩
 ·ext(⟨xs,ys,d,c,r1,r2⟩:two h)(⟨T,u,v,z,s,n,rfl,rfl⟩:m)(⟨d1,e1,l⟩:r1.F3 (z xs d))(⟨B,e2,k⟩:r2.F3 (s ys c));have es:aL H' (upd H' T (.tup [u,v])):=aL.upd n;refine⟨es,.tup [d1,B],?_,.tup (a_.of aT) (.cons (l.to0 es) (.cons (k.to0 es) .nil))⟩;rw[aN,bv]at e1 e2 ⊢;ext(⟨c1,q1,rfl⟩:im.mp e1)(⟨c2,q2,rfl⟩:im.mp e2);rw[List.getElem?_zipWith,q1,q2];simp[aJ,ao]
 ·ext(⟨xs,ys,d,c,r1,r2⟩:two h);rw[len]at e;have l1:=r1.length;have l2:=r2.length;rw[aN,zaa]at l1 l2;exact⟨xs,ys,d,c,by left⟩
def M3:PlI (qi) (HS):=by
 intro Φ n i X sc bl k L e args J F cs tg z B pins s σ H R τ ρ xs d items I Y W c U Z hR;ext(⟨p,pos,a,b,rfl,rfl,O,M⟩:se J);cases tg<;>try (cases z;done)
 ext(⟨_,u,m,l⟩:mM B);refine N9 (L.gl O) (L.bl _ M) u m l pins s σ H Z I ⟨R,τ,ρ,xs,Y,W,λvs H1 e1 j=>?_⟩;have g:=j;ext(⟨τt,fr,t⟩:j);rw[i]at c;unfold HS at c;split at c
 ·cases c;cases U;ext(⟨v,w,rfl,r,q⟩:t.two);cases r with
  |lst y _=>cases q with
   |lst x _=>exact⟨_,_,rfl,⟨_,y.sq⟩,⟨_,x.sq⟩,hR _ H1 _ e1 g HU⟩
 ·cases c
theorem aH.Gy{T:qv}{N:k_}{k:bw}:∀(j:Nat) {n:Nat} {vs:ah} {ds:aa},aH T N k n vs ds->aH T N k (n+j) (vs.drop j) (ds.drop j)
 |0,_,_,_,h=>h
 |j+1,_,_,_,.nil=>.nil
 |j+1,n,_,_,.cons h t=>by
  rw[show n+(j+1)=n+1+j by left];exact aH.Gy j t
theorem aH.Lu{T:qv}{N:k_}{k:bw}:∀(j:Nat) {n:Nat} {vs:ah} {ds:aa},aH T N k n vs ds->aH T N k n (vs.take j) (ds.take j)
 |0,_,_,_,_=>[zby,zby]\.nil
 |j+1,_,_,_,.nil=>.nil
 |j+1,n,_,_,.cons h t=>.cons h (aH.Lu j t)
meta def js{a:Type}(b:Bool)(k:Nat)(xs:List a):List a:=if b then xs.drop k else xs.take k
def Tb(K:av)(b:Bool):V->Option Int->Option Int->Hp->VK->Prop:=λx c d H Q=>∃(a:Addr) (xs:ah) (k:Nat),x=.ref a/\eA K H a xs/\c=(if b then ↥(k:Int) else none)/\d=(if b then none else ↥(k:Int))/\∀p,H p=none->Q (.ref p) (upd H p (.lst (js b k xs)))
def sS(b:Bool):SlR X (Tb X.K b):=by
 intro pins s σ H x v z y J L B Q I i t m l h;ext(⟨a,xs,k,rfl,p,rfl,rfl,q⟩:h);cases i;ext(⟨c,r,u,d⟩:I.list p)(g:dK u);have hlen:c.length=xs.length:=r.length.symm;refine⟨"list",_,Es.lookup,g.typeIs,Rq g t m l .none ⇑5 ?_ ([zad,hlen]\d)⟩;have e:slicePick c.toArray (if b then ↥(k:Int) else none) (if b then none else ↥(k:Int)) none=(js b k c).toArray:=by
  cases b with
  |true=>exact slicePick_from' c.toArray k
  |false=>exact slicePick_upto' c.toArray k
 have j:Vals (js b k xs) (js b k c):=by
  cases b with
  |true=>exact r.drop k
  |false=>exact r.take k
 have n:(js b k xs).length<=xs.length:=by
  cases b with
  |true=>show(xs.drop k).length<=_;rw[zbp];left
  |false=>show(xs.take k).length<=_;rw[zar];left
 exact[e]\⟨.ref s.heap.objs.size,_,I.OJ (t':=s.toks) j (aav n d),rfl,q _ I.fresh⟩
def cutD(b:Bool)(xs:aa):O D:=match two xs with
 |some z=>match z.1 with
  |.lst _ ds=>match z.2 with
   |.int k=>if 0<=k then ok (.ow\(ao bq (js b k.toNat ds)))else none
   |_=>none
  |_=>none
 |none=>none
protected def KJ{b:Bool}{x y d:D}(h:cutD b [x,y]=ok d):∃(f:Fl) (ds:aa) (k:Nat),x=.lst f ds/\y=.int k/\d=.ow\(ao bq (js b k ds)):=by
 cases x<;>first|exact nk h | (cases h;done) | (cases y<;>first|exact nk h | (cases h;done)|skip)
 ext(⟨c,a⟩:qN h);rename_i f ds k;exact⟨f,ds,k.toNat,rfl,by rw[Int.toNat_of_nonneg c],a.symm⟩
meta def Sh(b:Bool)(e:Expr):Option Expr:=match e with
 |.Slice a c st _=>match st with
  |none=>match b with
   |true=>match c with
    |none=>a
    |some _=>none
   |false=>match a with
    |none=>c
    |some _=>none
  |some _=>none
 |_=>none
protected def Ic{b:Bool}{e k:Expr}(h:Sh b e=↥k):∃p,e=.Slice (if b then ↥k else none) (if b then none else ↥k) none p:=by
 cases e<;>first|exact nk h | (cases h;done)|skip
 rename_i a c st p;cases st with
 |some _=>cases h
 |none=>cases b with
  |true=>cases c with
   |some _=>cases h
   |none=>cases h;exact⟨p,rfl⟩
  |false=>cases a with
   |some _=>cases h
   |none=>cases h;exact⟨p,rfl⟩
def m9(b:Bool)(_:Scope)(_:aq)(e:Expr):Option (aj):=(xH e).bind λz=>(Sh b z.2).bind λk=>↥[z.1,k]
def sf{b:Bool}{sc:Scope}{bl:aq}{e:Expr}(h:m9 b sc bl e=↥args):∃a k p pos,e=.Subscript a (.Slice (if b then ↥k else none) (if b then none else ↥k) none p) pos/\args=[a,k]:=by
 ext(⟨⟨a,s⟩,c,h⟩:bT h)(⟨k,hw,h⟩:bT h);cases h;ext(⟨pos,rfl⟩:lE c)(⟨p,rfl⟩:Ic hw);exact⟨a,k,p,pos,rfl,rfl⟩
def GL{b:Bool}:MZ (m9 b) (cutD b):=by
 intro Φ n B X sc bl k L e args he F cs Y;ext(⟨a,m,p,pos,rfl,rfl⟩:sf he)(⟨c,c',rfl⟩:Y.c2)(⟨h1,_,_,Z,_,_,_⟩:Y);have this:PE X (.Subscript a (.Slice (if b then ↥m else none) (if b then none else ↥m) none p) pos) (tD X F Φ (.cJ n [c,c'])):=by
  have go:∀{tl t:TO},PO X (if b then ↥m else none) tl->PO X (if b then none else ↥m) t->(∀(H1:Hp) (R:af) (τ:Addr->Option bw) (ρ:aV) (k:Nat) (σ:St) (Q:Option Int->Option Int->Hp->Prop),SI X F R τ ρ σ H1->bg Φ c' ρ=ok ↑k->(∀H2,aL H1 H2->Q (if b then ↥(k:Int) else none) (if b then none else ↥(k:Int)) H2)->tl σ H1 λl H2=>t σ H2 λu U=>Q l u U)->PE X (.Subscript a (.Slice (if b then ↥m else none) (if b then none else ↥m) none p) pos) (tD X F Φ (.cJ n [c,c'])):=by
   intro tl t pl pu hh;refine PE.imp (vM (sS b) h1 pl pu) λσ H Q I=>?_;ext(⟨R,τ,ρ,d,g,s,I⟩:I)(⟨x,y,ex,ey,s⟩:Tt s);rw[B]at s;ext(⟨f,ds,j,rfl,rfl,rfl⟩:KJ s);refine tD.intro g ex λv H1 e1 r1=>hh H1 R τ ρ j σ (λl u U=>Tb X.K b v l u U Q) (g.go e1) ey λH2 e2=>?_;ext(r2:(r1.go e2).mono (fv':=gK (.cJ n [c,c'])) λi hi=>aa4 _ hi)(⟨τt,fr,rp⟩:r2)(⟨q,xs,rfl,hn,W⟩:rp.nI)(O:e1.trans e2);refine⟨q,xs,j,rfl,hn.sq,rfl,rfl,λl r=>I _ _ (O.trans (aL.upd r)) (ck.qJ (O.free r) (O.trans (aL.upd r)) aT ?_)⟩;have z:∃n',aH (a_ X.K H2) (nd X.K R (k9 (gP X F) τ (gK (.cJ n [c,c']))) τt H2) [] n' (js b j xs) (js b j ds):=by
    cases b with
    |true=>exact⟨_,W.Gy j⟩
    |false=>exact⟨_,W.Lu j⟩
   ext(⟨n',z⟩:z);exact(z.gQ g fr).imp (λ_ _ h=>a_.same (aL.upd r) h) λ_ _ _ _ h=>nd.same (aL.upd r) h
  cases b with
  |true =>
   refine go (tm Z) tq λH1 R τ ρ k σ Q g M J=>tD.intro g M λv H2 e2 r2=>?_;cases r2.isInt;exact⟨k,rfl,J H2 e2⟩
  |false =>
   refine go tq (tm Z) λH1 R τ ρ k σ Q g M J=>tD.intro g M λv H2 e2 r2=>?_;cases r2.isInt;exact⟨k,rfl,J H2 e2⟩
 exact⟨this,cQ this λ_=>by cases b<;>rfl⟩
section
open PySem.SeqAt
open PySem.AutoSeq1 (wpAny_loadPart')
open PySem.MeetsSeq PySem.MeetsSeq2 PySem.MeetsSeq3
def km(g:Bool)(ns ms:ae):Bool:=bif g then !HT.lexLt ns ms else HT.lexLt ns ms
meta def MQ(g:Bool)(a c:Int):Bool:=bif g then decide (a ≥ c)else decide (a<c)
def D1(A:aF)(s:am)(a:Int)(t:Tok)(c:Int)(u:Tok)(prog:aG)(w:World)(E:aB)(Q:aB)(h:Q (.bool (decide (a ≥ c))) s):⇑1 (richCompare .GtE (.int a t) (.int c u)) Q E s :=
 (ybT h:⇑1 (kq .GtE (.int a t) (.int c u)) Q E s)
def D0(A:aF)(s:am)(a:Int)(t:Tok)(c:Int)(u:Tok)(prog:aG)(w:World)(E:aB)(Q:aB)(h:Q (.bool (decide (a<c))) s):⇑1 (richCompare .Lt (.int a t) (.int c u)) Q E s :=
 (ybS h:⇑1 (kq .Lt (.int a t) (.int c u)) Q E s)
def BH(g:Bool)(a c:Int)(ns ms:ae):km g (a::ns) (c::ms)=if a=c then km g ns ms else MQ g a c:=by
 by_cases e:a=c
 ·subst e;cases g<;>simp[km,HT.dR]
 ·cases g<;>simp only[km,MQ,HT.dR,e,ip e,if_false]<;>by_cases q:a<c<;>by_cases q':c<a<;>simp[q,q']<;>left
def Fb{vs ws:aw}{m n:Nat}(g:Bool)(e:h9 vs ns)(d:h9 ws ms)(hz:vs.zip ws=[])(b:ns.length+n=ms.length+m):km g ns ms=MQ g m n:=by
 cases e with
 |nil=>cases d with
  |nil=>simp only[zaQ]at b;cases g<;>simp[km,MQ,HT.kA]<;>left
  |cons c u h=>simp only[zaQ,zae]at b;cases g<;>simp[km,MQ,HT.cK,show ∀(x:Int) l,HT.lexLt [] (x::l)=true from λ_ _=>rfl]<;>left
 |cons a t h=>cases d with
  |nil=>simp only[zaQ,zae]at b;cases g<;>simp[km,MQ,HT.cK,show ∀(x:Int) l,HT.lexLt [] (x::l)=true from λ_ _=>rfl]<;>left
  |cons c u h=>rw[Uf]at hz;cases hz
def iL(g:Bool)(l b:Addr)(items m:aZ)(n n2:Nat)(dd Cm:Option Addr)(sl Z:Array (Option Value))(ns ms:ae)(W:h9 items.toList ns)(U:h9 m.toList ms):
  Meets ((match g with|false=>nf.«tuple.__lt__» |true=>nf.«tuple.__ge__») ⟨[.ref l,.ref b],[]⟩) (λ_ R s=>s.heap.get? l=some { cls:=.type "tuple",dict:=dd,data:=.seq items n,slots:=sl }/\s.heap.get? b=some { cls:=.type "tuple",dict:=Cm,data:=.seq m n2,slots:=Z }/\R (.ok (.ret (.bool (km g ns ms)))) s) :=
 .of_wp λprog w A R s h=>by
  ext(⟨v,gl,d,tk,k⟩:s)(⟨hl,hb,h⟩:h);have f2:=AutoSeq1.sub_tuple_tuple;have z1:items.size=ns.length:=by rw[<- W.length];simp
  have z2:m.size=ms.length:=by rw[<- U.length];simp
  obtain⟨G,J⟩:∃G,G=g:=⟨g,rfl⟩
  rw[<- J]at h;cases g<;>(
   wp_walk using vr hl,vr hb,wpAny_forIn_list _ (λrest b B=>b.1=none/\B=⟨v,gl,d,tk,k⟩/\∃(vs ws:aw) (j z:ae),rest=vs.zip ws/\h9 vs j/\h9 ws z/\j.length+m.size=z.length+items.size/\R (.ok (.ret (.bool (km G j z)))) ⟨v,gl,d,tk,k⟩) _
   case turn =>
    rintro ⟨y,x⟩ rest b B ⟨O,rfl,vs,ws,j,z,i,L,M,hlen,hR⟩;cases L with
    |nil=>rw[List.zip_nil_left]at i;cases i
    |cons a t r=>cases M with
     |nil=>rw[List.zip_nil_right]at i;cases i
     |cons c u p =>
      rw[Uf]at i;injection i with hyx UB
      injection hyx with hy hx
      subst hy hx;rw[BH]at hR;simp only[zae]at hlen;ext(⟨e,he,Y⟩:HT.Gn A.in1 ⟨v,gl,d,tk,k⟩ a t c u);refine aab (he prog w _ _ ?_);cases e with
      |true =>
       rw[zac (Y.mp rfl)]at hR
       wp_walk
       exact⟨rfl,rfl,_,_,_,_,UB,r,p,by left,hR⟩
      |false =>
       have lU:¬ a=c:=λq=>absurd (Y.mpr q) aad;rw[zab lU]at hR;subst J;ext(I:D1 A.in1 ⟨v,gl,d,tk,k⟩ a t c u prog w)(H:D0 A.in1 ⟨v,gl,d,tk,k⟩ a t c u prog w)
       wp_walk using I,H
       exact⟨_,rfl,by simpa [MQ]using hR⟩
   case fin =>
    rintro ⟨b1,b2⟩ B ⟨O,rfl,vs,ws,j,z,i,L,M,hlen,hR⟩;simp only at O;subst O;rw[Fb _ L M i.symm hlen]at hR;subst J
    wp_walk
    exact⟨_,rfl,by simpa [MQ,ya6]using hR⟩
   case h=>exact⟨rfl,rfl,items.toList,m.toList,ns,ms,rfl,W,U,by left,h⟩)
def OG{A:aF}{s:am}{l b:Addr}{items d:aZ}{Q:aB}(q:IsTup s.heap l items)(u:IsTup s.heap b d)(t:h9 items.toList ns)(r:h9 d.toList ms)
  (p:A.units<cLine) (h:Q (.bool (HT.lexLt ns ms)) s):⇑1 (kq .Lt (.ref l) (.ref b)) Q E s:=by
 ext(⟨⟨y,v,data,k⟩,g,i,n,hd⟩:id q)(⟨⟨B,z,data2,j⟩,e,c,m,a⟩:id u);simp only at i hd c a;subst i hd c a;exact UV (op:=.Lt) ⟨_,g,rfl⟩ ⟨_,e,rfl⟩ adG FZ (FB _ _) (iL false l b items d n m v z k j ns ms t r)
  ⟨g,e,show lX (HT.lexLt ns ms)≠M2/\Q (.bool (HT.lexLt ns ms)) s from⟨(λx=>nomatch x),h⟩⟩ p
end
def Ta(K:av):R2:=λx y H Q=>∃a b ns ms,x=.ref a/\y=.ref b/\a_ K H a (ns.map V.int)/\a_ K H b (ms.map V.int)/\Q (.bl (km true ns ms)) H
def Ew(z:X.A.units<cLine):oO X (kq .GtE) (Ta X.K):=by
 intro pins s σ H x y v u Q I p m h;ext(⟨a,b,ns,ms,rfl,rfl,J,B,q⟩:h);cases p;cases m;ext(⟨O,r1,⟨⟨M,L,data,l⟩,g,i,n,hd⟩,_⟩:I.tuple J)(⟨r,r2,⟨⟨U,R,data2,j⟩,e,d,t,c⟩,_⟩:I.tuple B);simp only at i hd d c;subst i hd d c;ext(k:iL true a b O.toArray r.toArray n t L R l j ns ms (intsAre_of r1) (intsAre_of r2));have q':lX (km true ns ms)≠M2/\EP X pins σ Q (.bool (km true ns ms)) s:=⟨(λx=>nomatch x),⟨.bl _,H,I,rfl,q⟩⟩
 exact UV (op:=.GtE) ⟨_,g,rfl⟩ ⟨_,e,rfl⟩ PySem.F.slot_tuple_ge PySem.F.entry_tuple_ge (PySem.F.args_tuple_ge_2 _ _) k ⟨g,e,q'⟩ z
def RQ(xs:aa):O D:=match two xs with
 |some z=>match z.1 with
  |.tup a=>match z.2 with
   |.tup b=>match intsOf a with
    |some ns=>match intsOf b with
     |some ms=>ok (.bl (km true ns ms))
     |none=>none
    |none=>none
   |_=>none
  |_=>none
 |none=>none
protected def Vw{x y d:D}(h:RQ [x,y]=ok d):∃ns ms:ae,x=.tup (ns.map D.int)/\y=.tup (ms.map D.int)/\d=.bl (km true ns ms):=by
 cases x<;>first|exact nk h | (cases h;done) | (cases y<;>first|exact nk h | (cases h;done)|skip)
 rename_i a b;have h:(match intsOf a with|↥ns=>(match intsOf b with|↥ms=>ok (D.bl (km true ns ms))|none=>none)|none=>none)=ok d:=h;cases c:intsOf a with
 |none=>rw[c]at h;exact nk h
 |some ns=>cases e:intsOf b with
  |none=>rw[c,e]at h;cases h
  |some ms =>
   rw[c,e]at h;cases h;exact⟨ns,ms,by rw[dX c],by rw[dX e],rfl⟩
def GZ(_:Scope)(_:aq)(e:Expr):Option (aj):=(Nk e).bind λz=>(one z.2.2).bind λr=>if z.2.1=[.GtE]then ↥[z.1,r] else none
def KU{sc:Scope}{bl:aq}{e:Expr}(h:GZ sc bl e=↥args):∃l r p,e=.Compare l [.GtE] [r] p/\args=[l,r]:=by
 ext(⟨⟨l,d,c⟩,a,h⟩:bT h)(⟨r,hw,h⟩:bT h)(⟨b,h⟩:gT h);cases h;ext(rfl:b)(⟨p,rfl⟩:zf a)(rfl:bM hw);exact⟨l,r,p,rfl,rfl⟩
def Vu:MZ GZ RQ:=by
 intro Φ n m X sc bl k L e args O F cs s;ext(⟨l,r,p,rfl,rfl⟩:KU O);have q:X.A.units<cLine:=by have:=L.room.units;left
 ext(⟨c,c',rfl⟩:s.c2)(⟨z,_,_,t,_,_,_⟩:s);have j:∀{σ:St} {H:Hp} {R:af} {τ:Addr->Option bw} {ρ:aV} {d:D} {Q:VK},SI X F R τ ρ σ H->bg Φ (.cJ n [c,c']) ρ=ok d->(∀b H2,d=.bl b->aL H H2->Q (.bl b) H2)->Nw (Ta X.K) (tD X F Φ c) (tD X F Φ c') σ H Q:=by
  intro σ H R τ ρ d Q i g a;ext(⟨x,y,W,U,g⟩:Tt g);rw[m]at g;ext(⟨ns,ms,rfl,rfl,rfl⟩:Vw g);refine tD.intro i W λv H1 e1 r1=>tD.intro (i.go e1) U λu H2 e2 r2=>?_;ext(⟨_,_,M⟩:r1.go e2)(⟨_,_,J⟩:r2);cases M with
  |tup t1 I=>cases J with
   |tup t2 B =>
    cases I.ofInts;cases B.ofInts;exact⟨_,_,ns,ms,rfl,rfl,t1,t2,a _ H2 rfl (e1.trans e2)⟩
 refine⟨PE.imp (zS (Ew q) z t (EF _ ⇑4 ⇑4)) λσ H Q a=>?_,PT.imp (zL (Ew q) z t (EF _ ⇑4 ⇑4)) λσ H Q a=>?_⟩
 ·ext(⟨R,τ,ρ,d,i,g,a⟩:a);exact j i g λb H2 e es=>a _ H2 es (by subst e;exact .bl)
 ·ext(⟨R,τ,ρ,b,i,g,a⟩:a)(⟨d,Z,Y⟩:aI g);refine j i Z λb' H2 e es=>?_;subst e;cases Y;exact⟨_,rfl,a H2 es⟩
abbrev yY(h:Heap)(z TI TO a:Addr)(f:Bool):Prop :=
 h.get? z=some { cls:=.type "zip",dict:=none,data:=.fields #[vv a,.bool f,.bool false,.ref TI,.ref TO],slots:=#[] }
variable {oa:Obj}
section
variable {prog:aG}{w:World}{A:aF}{E:aB}{s:am}
def CV{a:Addr}{o:Obj}{Q:Option Obj->am->Prop}(b:s.heap.get? a=↥o)(h:Q ↥o s):⇑1 (loadIfAlive a) Q E s:=by
 have h':Q (s.heap.get? a) s:=[b]\h
 exact λ_ _ _=>h'
def HP{z TI TO a:Addr}{f:Bool}{Q:Bool->am->Prop}(hz:yY s.heap z TI TO a f)(e:s.heap.get? a=↥oa)(c:∀h',yY h' z TI TO a true->iS z s.heap h'->Q false { s with heap:=h' }):
  ⇑1 (j8 (.ref z)) Q E s:=by
 unfold j8;refine aab (ad5 hz rfl (x:=vv a) rfl ?_);show wpAny _ _ (loadIfAlive ((a:Int).toNat) >>= _) _ _ _;rw[zaj];refine aab (CV e ?_);simp only[Option.isNone_some,zaq,if_false];refine aab (ad5 hz rfl (x:=.bool f) rfl ?_);cases f with
 |true =>
  rw[zab (show ¬ ((lX true != lX true)=true) from zal)];exact aaf (c s.heap hz (yb7 _ _))
 |false =>
  rw[zac (show(lX false != lX true)=true from rfl)];exact aab (wpAny_setField_rec hz ⇑5 λb g d=>aaf (c b g d))
def M0{z TI TO a:Addr}{f:Bool}{xs ys:aZ}{Q:aB}(D:JV z TI TO i1 i2 l1 l2)
  (hz:yY s.heap z TI TO a f) (L:s.heap.get? a=↥oa) (W:ul s.heap TI (.ref i1) (.ref i2))
  (u:s.heap.IsListIter i1 l1 k1) (t:s.heap.IsListIter i2 l2 k2) (B:s.heap.IsList l1 xs) (H:s.heap.IsList l2 ys)
  (M:∀x y,xs[k1]?=↥x->ys[k2]?=↥y->∀h',yY h' z TI TO a true->h'.IsListIter i1 l1 (k1+1)->h'.IsListIter i2 l2 (k2+1)->ul h' s.heap.objs.size x y->h'.objs.size=s.heap.objs.size+1 ->
   (∀c o,c≠z->c≠i1->c≠i2->s.heap.get? c=↥o->h'.get? c=↥o)->Q (.ref s.heap.objs.size) { s with heap:=h' })
  (l:xs[k1]?=none\/ys[k2]?=none->A.handled=none/\∀h' e,(∀c o,c≠z->c≠i1->c≠i2->s.heap.get? c=↥o->h'.get? c=↥o)->(∃o,h'.get? e=↥o/\o.cls=.type "StopIteration")->E (.ref e) { s with heap:=h' }) :
  ⇑1 (nf.«zip.__next__» ⟨[.ref z],[]⟩) (λfin I=>∃v,fin=.done (.ret v)/\Q v I) E s:=by
 show wpAny _ _ (field (.ref z) 2 >>= _) _ _ _;refine aab (ad5 hz rfl (x:=.bool false) rfl ?_);show wpAny _ _ (field (.ref z) 3 >>= _) _ _ _;refine aab (ad5 hz rfl (x:=.ref TI) rfl ?_);refine aab (wpAny_seqItems W rfl ?_);show wpAny _ _ (j8 (.ref z) >>= _) _ _ _;refine aab (HP hz L λh₁ U d=>?_);simp only[zaq,if_false];refine aab ?_;rw[<- Array.forIn_toList];simp only[zbW,List.forIn_nil];refine aab (aab (abS ?_));show wpAny _ _ (sB (.ref i1) >>= _) _ _ _;cases n:xs[k1]? with
 |none =>
  ext(⟨q,l⟩:l (.inl n));refine aab (Vt q (u.extBut d.extBut D.i1z) (B.extBut d.extBut D.l1z) n λi e g r=>?_);exact l i e (λc o c1 c2 p x=>g _ _ c2 (d.extBut _ _ c1 x)) r
 |some x =>
  refine aab (UR (u.extBut d.extBut D.i1z) (B.extBut d.extBut D.l1z) n λi O g=>aaf ?_);refine aaf ?_;refine aab (aab (abS ?_));show wpAny _ _ (sB (.ref i2) >>= _) _ _ _;cases m:ys[k2]? with
  |none =>
   ext(⟨q,l⟩:l (.inr m));refine aab (Vt q ((t.extBut d.extBut D.i2z).extBut g.extBut D.i12.symm) ((H.extBut d.extBut D.l2z).extBut g.extBut D.l2i1) m λb e k r=>?_);exact l b e (λc o c1 c2 p x=>k _ _ p (g.extBut _ _ c2 (d.extBut _ _ c1 x))) r
  |some y =>
   refine aab (UR ((t.extBut d.extBut D.i2z).extBut g.extBut D.i12.symm) ((H.extBut d.extBut D.l2z).extBut g.extBut D.l2i1) m λb R k=>aaf ?_);refine aaf ?_;refine aaf ?_;have j:b.objs.size=s.heap.objs.size:=by rw[k.1,g.1,d.1]
   refine aab (wpAny_newTuple ?_ (by show 2<=_;rw[i8];decide));refine aaf ⟨_,rfl,?_⟩;show Q (.ref b.objs.size) _;have Y:∀{c o},b.get? c=↥o->c≠b.objs.size:=λe=>aaw (aan e);have J:∀c o,c≠z->c≠i1->c≠i2->s.heap.get? c=↥o->(b.push { cls:=.type "tuple",data:=.seq #[x,y] }).get? c=↥o:=λc o c1 c2 p e=>aai _ (k.extBut _ _ p (g.extBut _ _ c2 (d.extBut _ _ c1 e)));rw[j];refine M x y n m _ (aai _ (k.extBut _ _ D.i2z.symm (g.extBut _ _ D.i1z.symm U))) ((O.extBut k.extBut D.i12).at λo e=>aai _ e) (R.at λo e=>aai _ e) ?_ ⇑[va,j] J;exact[-j]\aax _ rfl
def qX{z TI TO a:Addr}{f:Bool}{xs ys:aZ}{Q:Option Value->am->Prop}(D:JV z TI TO i1 i2 l1 l2)
  (hz:yY s.heap z TI TO a f) (l:s.heap.get? a=↥oa) (q:ul s.heap TI (.ref i1) (.ref i2))
  (p:s.heap.IsListIter i1 l1 k1) (n:s.heap.IsListIter i2 l2 k2) (r:s.heap.IsList l1 xs) (t:s.heap.IsList l2 ys)
  (m:∀x y,xs[k1]?=↥x->ys[k2]?=↥y->∀h',yY h' z TI TO a true->h'.IsListIter i1 l1 (k1+1)->h'.IsListIter i2 l2 (k2+1)->ul h' s.heap.objs.size x y->h'.objs.size=s.heap.objs.size+1 ->
   (∀c o,c≠z->c≠i1->c≠i2->s.heap.get? c=↥o->h'.get? c=↥o)->Q ↥(.ref s.heap.objs.size) { s with heap:=h' })
  (g:xs[k1]?=none\/ys[k2]?=none->A.handled=none/\∀h',(∀c o,c≠z->c≠i1->c≠i2->s.heap.get? c=↥o->h'.get? c=↥o)->Q none { s with heap:=h' }):⇑1 (o1 (.ref z)) Q E s:=by
 have d:s.TypeIs (.ref z) "zip":=⟨_,hz,rfl⟩
 unfold o1;exact aab (adD (acO (name:=tv "__next__") d IA
  (abP IA d PySem.F.entry_zip_next
   (M0 D hz l q p n r t (λx y e1 e2 h' a1 a2 a3 a4 a5 a6=>aaf (m x y e1 e2 h' a1 a2 a3 a4 a5 a6)) λz=>⟨(g z).1,λh' e j ⟨o,i,k⟩=>aab (GM (T:="StopIteration") (b:=true) ⟨o,i,k⟩ Ps (aaf ((g z).2 _ j)))⟩) (PySem.F.args_zip_next_1 _))))
end
def M1:yaO (.type "zip") "__len__" = pure none:=by rw[typeLookup_type,W4];kernel_rfl
def R5:yaO (.type "zip") "__length_hint__" = pure none:=by rw[typeLookup_type,W4];kernel_rfl
section
variable {prog:aG}{w:World}{A:aF}{E:aB}{s:am}
def HN{z:Addr}(b:s.TypeIs (.ref z) "zip"){Q:Bool->am->Prop}(h:Q true s):⇑1 (vl (.ref z)) Q E s:=by
 unfold vl;refine aab (wpAny_specialOf b M1 ?_);refine Ls (λa=>absurd a ⇑4) (λ_=>?_);refine Ls (λa=>absurd a ⇑4) (λ_=>?_);refine aab (wpAny_specialOf b R5 ?_);exact aaf h
end
structure Zl(h:Heap)(z TI TO i1 i2 l1 l2 S:Addr)(xs ys:aZ)(i:Nat):Prop where
 st:(IsZip h z TI TO .none/\∃a b,ul h TO a b)\/∃a f oa,yY h z TI TO a f/\h.get? a=↥oa/\S<a
 ti:ul h TI (.ref i1) (.ref i2)
 w1:h.IsListIter i1 l1 i
 w2:h.IsListIter i2 l2 i
 q1:h.IsList l1 xs
 q2:h.IsList l2 ys
structure Below(z TI TO i1 i2 l1 l2 S:Addr):Prop where
 D:JV z TI TO i1 i2 l1 l2
 z:z<S
 TI:TI<S
 TO:TO<S
 i1:i1<S
 i2:i2<S
 l1:l1<S
 l2:l2<S
section
variable {prog:aG}{w:World}{A:aF}{E:aB}{s:am}{z TI TO i1 i2 l1 l2 S:Addr}{xs ys:aZ}{i:Nat}
def Zl.keep(B:Below z TI TO i1 i2 l1 l2 S)(Z:Zl h z TI TO i1 i2 l1 l2 S xs ys i)(c:∀b o,b≠S->h.get? b=↥o->h'.get? b=↥o):Zl h' z TI TO i1 i2 l1 l2 S xs ys i:=by
 have n:∀{b},b<S->b≠S:=λh=>aaw h;refine⟨?_,c _ _ (n B.TI) Z.ti,Z.w1.at λo e=>c _ o (n B.i1) e,Z.w2.at λo e=>c _ o (n B.i2) e,Z.q1.at λo e=>c _ o (n B.l1) e,Z.q2.at λo e=>c _ o (n B.l2) e⟩;ext((⟨g,a,b,d⟩|⟨a,f,oa,g,d,j⟩):Z.st)
 ·exact .inl ⟨c _ _ (n B.z) g,a,b,c _ _ (n B.TO) d⟩
 ·exact .inr ⟨a,f,oa,c _ _ (n B.z) g,c _ _ (aaH j) d,j⟩
def HL{x y:Value}{Q:Option Value->am->Prop}(B:Below z TI TO i1 i2 l1 l2 S)(Z:Zl s.heap z TI TO i1 i2 l1 l2 S xs ys i)(v:S<s.heap.objs.size)(l:xs[i]?=↥x)(k:ys[i]?=↥y)
  (r:∀h',Zl h' z TI TO i1 i2 l1 l2 S xs ys (i+1)->ul h' s.heap.objs.size x y->h'.objs.size=s.heap.objs.size+1->(∀c o,c≠z->c≠TO->c≠i1->c≠i2->s.heap.get? c=↥o->h'.get? c=↥o)->Q ↥(.ref s.heap.objs.size) { s with heap:=h' }) :
  ⇑1 (o1 (.ref z)) Q E s:=by
 have D:=B.D;ext((⟨j,a,b,J⟩|⟨a,f,oa,j,q,d⟩):Z.st)
 ·refine Vs D j Z.ti J Z.w1 Z.w2 Z.q1 Z.q2 l k λh' g O a1 m t1 p k1=>r h' ?_ t1 p k1;exact⟨.inr ⟨s.heap.objs.size,false,_,g,t1,v⟩,k1 _ _ D.TIz D.TITO D.TIi1 D.TIi2 Z.ti,a1,m,Z.q1.at λo e=>k1 _ o D.l1z D.l1TO D.l1i1 D.l1i2 e,Z.q2.at λo e=>k1 _ o D.l2z D.l2TO D.l2i1 D.l2i2 e⟩
 ·refine qX D j q Z.ti Z.w1 Z.w2 Z.q1 Z.q2 (λM L u t h' g a1 m t1 p k1=>r h' ?_ (by rw[l]at u;rw[k]at t;cases u;cases t;exact t1) p λc o c1 _ I H e=>k1 c o c1 I H e) λz=>by rw[l,k]at z;simp at z
  have n:∀{b},b<S->a≠b:=λh=>aaH (acY h d);exact⟨.inr ⟨a,true,oa,g,k1 _ _ (n B.z) (n B.i1) (n B.i2) q,d⟩,k1 _ _ D.TIz D.TIi1 D.TIi2 Z.ti,a1,m,Z.q1.at λo e=>k1 _ o D.l1z D.l1i1 D.l1i2 e,Z.q2.at λo e=>k1 _ o D.l2z D.l2i1 D.l2i2 e⟩
def HQ{Q:Option Value->am->Prop}(j:A.handled=none)(B:Below z TI TO i1 i2 l1 l2 S)(Z:Zl s.heap z TI TO i1 i2 l1 l2 S xs ys i)(g:xs[i]?=none\/ys[i]?=none)
  (l:∀h',(∀c o,c≠z->c≠TO->c≠i1->c≠i2->s.heap.get? c=↥o->h'.get? c=↥o)->Q none { s with heap:=h' }):⇑1 (o1 (.ref z)) Q E s:=by
 have D:=B.D;ext((⟨d,a,b,u⟩|⟨a,f,oa,d,m,n⟩):Z.st)
 ·exact YP j D d Z.ti u Z.w1 Z.w2 Z.q1 Z.q2 g l
 ·exact qX D d m Z.ti Z.w1 Z.w2 Z.q1 Z.q2 (λx y q p=>by rw[q,p]at g;simp at g) λ_=>⟨j,λh' k=>l h' λc o c1 _ t r e=>k c o c1 t r e⟩
end
structure Wi(xs ys:aZ)(lo:Addr)(h:Heap)(as:aX):Prop where
 above:∀a∈as,lo<a
 nd:as.Nodup
 pairs:∀(j:Nat) (a:Addr),as[j]?=↥a->∃x y,xs[j]?=↥x/\ys[j]?=↥y/\ul h a x y
section
variable {prog:aG}{w:World}{A:aF}{s:am}{R:yaz->am->Prop}{z TI TO i1 i2 l1 l2 S:Addr}{xs ys:aZ}
def HK(hh:A.handled=none)(B:Below z TI TO i1 i2 l1 l2 S)(hn:min xs.size ys.size<=sizeLine)(res:Value) 
  (hR:∀h' tk d c as,(∀b o,b≠S->b≠z->b≠TO->b≠i1->b≠i2->h₁.get? b=↥o->h'.get? b=↥o)->h'.get? S=some { cls:=.type "list",dict:=none,data:=.seq d c,slots:=#[] }->as.length=min xs.size ys.size->Wi xs ys S h' as ->
   d.toList=as.map em->R (.ok (.ret res)) { s with heap:=h',toks:=tk }) :
  ∀(k i:Nat) (h:Heap) (tk c:Nat) (d:aZ) (as:aX),min xs.size ys.size - i=k->i<=min xs.size ys.size->Zl h z TI TO i1 i2 l1 l2 S xs ys i->(∀b o,b≠S->b≠z->b≠TO->b≠i1->b≠i2->h₁.get? b=↥o->h.get? b=↥o) ->
   h.get? S=some { cls:=.type "list",dict:=none,data:=.seq d c,slots:=#[] }->d.toList=as.map em->as.length=i->Wi xs ys S h as ->
   pp (model prog w) A (.builtin "list.extend.loop" ⟨[.ref S,.ref z,res],[]⟩) R { s with heap:=h,toks:=tk }:=by
 have nz:S≠z:=aaH B.z;have nO:S≠TO:=aaH B.TO;have n1:S≠i1:=aaH B.i1;have n2:S≠i2:=aaH B.i2;have r:∀{a:Addr},S<a->a≠z/\a≠TO/\a≠i1/\a≠i2:=λh=>⟨aaH (acY B.z h),aaH (acY B.TO h),aaH (acY B.i1 h),aaH (acY B.i2 h)⟩
 intro k;induction k with
 |zero =>
  intro i h tk c d as hk hi Z Y L O J l;refine abW AT ?_;rw[kB lc _];show wpAny _ A.in1 (o1 (.ref z) >>= _) _ _ _;have FL:xs[i]?=none\/ys[i]?=none:=by
   ext((q|q):yb4 xs.size ys.size)
   ·exact .inl (hF ⋯)
   ·exact .inr (hF ⋯)
  refine aab (HQ (s:={ s with heap:=h,toks:=tk }) (A:=A.in1) hh B Z FL λh' W=>?_);refine aaf (hR h' tk d c as (λb o M I H v u e=>W b o I H v u (Y b o M I H v u e)) (W S _ nz nO n1 n2 L) ⋯ ⟨l.above,l.nd,λj a g=>?_⟩ O);ext(⟨x,y,e1,e2,e3⟩:l.pairs j a g)(⟨a1,a2,a3,a4⟩:r (l.above a (aa6 g)));exact⟨x,y,e1,e2,W a _ a1 a2 a3 a4 e3⟩
 |succ k ih =>
  intro i h tk c d as hk hi Z Y L O J l;have dg:i<min xs.size ys.size:=by left
  have hx:xs[i]?=↥(xs[i]'⋯):=ab3 _;have hy:ys[i]?=↥(ys[i]'⋯):=ab3 _;have t:d.size=i:=by rw[<- zao,O,zaa,J]
  have p:S<h.objs.size:=aan L;refine abW AT ?_;rw[kB lc _];show wpAny _ A.in1 (o1 (.ref z) >>= _) _ _ _;refine aab (HL (s:={ s with heap:=h,toks:=tk }) B Z p hx hy λh' Z' ht hz U=>?_);dsimp only at ht hz U ⊢;ext(ua:U S _ nz nO n1 n2 L);have up:∀b o,b≠S->h'.get? b=↥o->(h'.update S (ej (·.push (em h.objs.size)))).get? b=↥o:=λb o m e=>(abY _ _ (acW m)).trans e;show wpAny _ A.in1 (Wp S (·.push (em h.objs.size)) >>= _) _ _ _;refine aab ?_;refine ad2 ua rfl (aaf ⟨ad9 lc _,ih (i+1) _ tk _ (d.push (em h.objs.size)) (as++[h.objs.size]) ⋯ dg (Z'.keep B up)
   (λb o M I H v u e=>up b o M (U b o I H v u (Y b o M I H v u e))) (abO _ ua rfl) (by rw[zaK,O,zak];rfl) (by rw[zaf,J];rfl) ⟨?_,?_,?_⟩⟩) (by rw[t];left) (by show(d.push (em h.objs.size)).size<=sizeLine+1;rw[Array.size_push,t];left)
  ·intro a n;ext((n|n):dz.mp n)
   ·exact l.above a n
   ·exact[bn.mp n]\p
  ·refine pS.mpr ⟨l.nd,gj.mpr ⟨zn,ace⟩,λa n b m e=>?_⟩;rw[bn.mp m]at e;subst e;ext(⟨j,g⟩:g7.mp n)(⟨_,_,_,_,e⟩:l.pairs j _ g);exact absurd (aan e) (abb _)
  ·intro j b g;ext((q|q|q):adv j as.length)
   ·rw[d7 q]at g;ext(⟨x',y',e1,e2,e3⟩:l.pairs j b g)(m:l.above b (aa6 g))(⟨a1,a2,a3,a4⟩:r m);exact⟨x',y',e1,e2,up b _ (aaH m) (U b _ a1 a2 a3 a4 e3)⟩
   ·subst q;have m:h.objs.size=b:=⇑g
    subst m;exact⟨_,_,[J]\hx,[J]\hy,up _ _ (aaH p) ht⟩
   ·have UL:(as++[h.objs.size])[j]?=none:=dV (by rw[zaf,zaC];left);rw[UL]at g;exact nk g
def A4(x:A.handled=none)(B:Below z TI TO i1 i2 l1 l2 S)(hn:min xs.size ys.size<=sizeLine)(Z:Zl s.heap z TI TO i1 i2 l1 l2 S xs ys 0)(r:IsZip s.heap z TI TO .none)(res:Value)(d:Nat)(p:s.heap.get? S=some { cls:=.type "list",data:=.seq #[] d })
  (hR:∀h' tk g c as,(∀b o,b≠S->b≠z->b≠TO->b≠i1->b≠i2->s.heap.get? b=↥o->h'.get? b=↥o)->h'.get? S=some { cls:=.type "list",dict:=none,data:=.seq g c,slots:=#[] }->as.length=min xs.size ys.size->Wi xs ys S h' as ->
   g.toList=as.map em->R (.ok (.ret res)) { s with heap:=h',toks:=tk }) :
  wpAny (model prog w) A.in1 (gh (.ref S) (.ref z) res)
   (λfin i=>match fin with|.done f=>R (.ok f) i|.again c'=>c'.quiet=true/\pp (model prog w) A c' R i) (λe i=>R (.error e) i) s:=by
 have k:S≠z:=aaH B.z;have n:s.TypeIs (.ref z) "zip":=⟨_,r,rfl⟩
 unfold gh;refine aab (Vr (T:="zip") n ?_);have l:wS (.ref S) (.ref z)=false:=by simp[wS,k]
 have I:(f0 "zip" == f0 "list")=false:=by decide
 have H:(f0 "zip" == f0 "tuple")=false:=by decide
 simp only[l,I,H,Bool.or_false,zaq,if_false];refine aab (GE r ?_);refine aab (abS (HN n ?_));refine Ls (λ_=>?_) (λu=>absurd rfl u);refine aab (acf ?_);refine aab ?_;show wpAny _ _ (Wp S (·.push .none) >>= λ_=>Wp S (·.pop)) _ _ _;refine aab (ad2 p rfl ?_);ext(t:abO (ej (·.push ft)) p rfl);refine ad2 (hz:=by seq_fits) t rfl ?_;ext(J:abO (ej (·.pop)) t rfl);have q:∀b o,b≠S->s.heap.get? b=↥o->((s.heap.update S (ej (·.push ft))).update S (ej (·.pop))).get? b=↥o:=λb o m e=>(abY _ _ (acW m)).trans ((abY _ _ (acW m)).trans e);refine aaf ⟨ad9 lc _,?_⟩;exact HK x B hn res (s:=s) (h₁:=s.heap) hR (min xs.size ys.size) 0 _ s.toks _ #[] [] (Nat.sub_zero _) (aa7 _) (Z.keep B q) (λb o l _ _ _ _ e=>q b o l e) J rfl rfl ⟨(λ_ y=>nomatch y),ace,λj a v=>by simp at v⟩
def HM(n:A.handled=none)(B:Below z TI TO i1 i2 l1 l2 S)(hn:min xs.size ys.size<=sizeLine)(Z:Zl s.heap z TI TO i1 i2 l1 l2 S xs ys 0)(y:IsZip s.heap z TI TO .none)(g:s.heap.get? S=some { cls:=.type "list",data:=.seq #[] })
  (hR:∀h' tk a c as,(∀b o,b≠S->b≠z->b≠TO->b≠i1->b≠i2->s.heap.get? b=↥o->h'.get? b=↥o)->h'.get? S=some { cls:=.type "list",dict:=none,data:=.seq a c,slots:=#[] }->as.length=min xs.size ys.size->Wi xs ys S h' as ->
   a.toList=as.map em->R (.ok (.ret .none)) { s with heap:=h',toks:=tk }) :
  wpAny (model prog w) A.in1 (nf.«list.__init__» ⟨[.ref S,.ref z],[]⟩)
   (λfin d=>match fin with|.done f=>R (.ok f) d|.again c'=>c'.quiet=true/\pp (model prog w) A c' R d) (λe d=>R (.error e) d) s:=by
 show wpAny _ _ (do let old <- zm (.ref S);xA (.ref S) (λ_=>#[]);letGo old.toList.reverse;gh (.ref S) (.ref z) .none) _ _ s;refine aab ?_;unfold zm;refine aab (wpAny_seqItems g rfl (aaf ?_));show wpAny _ _ (Wp S (λ_=>#[]) >>= λ_=>letGo (#[]:aZ).toList.reverse >>= λ_=>gh (.ref S) (.ref z) .none) _ _ s;refine aab (ad2 g rfl ?_);ext(H:abO (ej (λ_=>(#[]:aZ))) g rfl);have i:∀b o,b≠S->s.heap.get? b=↥o->(s.heap.update S (ej (λ_=>(#[]:aZ)))).get? b=↥o :=
  λb o p e=>(abY _ _ (acW p)).trans e
 refine aab (wpAny_letGo ?_);refine A4 n B hn (Z.keep B i) (i _ _ (aaw B.z) y) .none _ H λh' tk a c as m k l q x=>?_;exact hR h' tk a c as (λb o j v u t r e=>m b o j v u t r (i b o j e)) k l q x
end
section
variable {prog:aG}{w:World}{A:aF}{E:aB}{s:am}{z TI TO i1 i2 l1 l2:Addr}{xs ys:aZ}
def HR{Q:aB}(t:A.handled=none)(D:JV z TI TO i1 i2 l1 l2)(hn:min xs.size ys.size<=sizeLine)(hz:IsZip s.heap z TI TO .none)(n:ul s.heap TI (.ref i1) (.ref i2)){a b:Value}(m:ul s.heap TO a b)(l:s.heap.IsListIter i1 l1 0)(j:s.heap.IsListIter i2 l2 0)(q1:s.heap.IsList l1 xs)(q2:s.heap.IsList l2 ys)
  (u:∀h' tk d c as,(∀b o,b≠z->b≠TO->b≠i1->b≠i2->s.heap.get? b=↥o->h'.get? b=↥o)->h'.get? s.heap.objs.size=some { cls:=.type "list",dict:=none,data:=.seq d c,slots:=#[] }->as.length=min xs.size ys.size->Wi xs ys s.heap.objs.size h' as ->
   d.toList=as.map em->Q (.ref s.heap.objs.size) { s with heap:=h',toks:=tk }) :
  ⇑1 (call (.type "list") [.ref z]) Q E s:=by
 refine callType_codes (Q₁:=λi g=>i=.ref s.heap.objs.size/\g={ s with heap:=s.heap.push { cls:=.type "list",data:=.seq #[] } }) PySem.F.called_list (PySem.F.typeCall_list_1 _) PySem.F.entry_list_init
  (code_list_new _ ⟨rfl,rfl⟩) λi g h₁=>?_
 ext(⟨rfl,rfl⟩:h₁);have k:(s.heap.push { cls:=.type "list",data:=.seq #[] }).get? s.heap.objs.size=some { cls:=.type "list",data:=.seq #[] }:=aax _ rfl;have up:∀b o,s.heap.get? b=↥o->(s.heap.push { cls:=.type "list",data:=.seq #[] }).get? b=↥o:=λb o e=>aai _ e;have B:Below z TI TO i1 i2 l1 l2 s.heap.objs.size:=⟨D,aan hz,aan n,aan m,(by ext(⟨_,e,_⟩:l);exact aan e),(by ext(⟨_,e,_⟩:j);exact aan e),(by ext(⟨_,e,_⟩:q1);exact aan e),(by ext(⟨_,e,_⟩:q2);exact aan e)⟩
 refine⟨⟨_,k,rfl⟩,PySem.F.args_list_init_2 _ _,HM (A:=A.in1) t B hn ⟨.inl ⟨up _ _ hz,a,b,up _ _ m⟩,up _ _ n,l.at λo e=>up _ o e,j.at λo e=>up _ o e,q1.at λo e=>up _ o e,q2.at λo e=>up _ o e⟩ (up _ _ hz) k λh' tk d c as r p q v I=>?_⟩;exact⟨rfl,u h' tk d c as (λb o j H y x e=>r b o (aaw (aan e)) j H y x (up b o e)) p q v I⟩
end
def rK(xs:aa):O D:=match xs with
 |[]=>none
 |x::xs=>match x with
  |.int a=>match xs with
   |[]=>none
   |y::ys=>match y with
    |.int b=>match ys with
     |[]=>if gG a b then ok ↑(a*b) else none
     |_::_=>none
    |_=>none
  |_=>none
def wb{x y d:D}(h:rK [x,y]=ok d):∃a b,x=.int a/\y=.int b/\gG a b=true/\d=.int (a*b):=by
 cases x<;>first|exact nk h | (cases h;done) | (cases y<;>first|exact nk h | (cases h;done)|skip)
 ext(⟨e,c⟩:qN h);exact⟨_,_,rfl,rfl,e,c.symm⟩
def oH(_:Scope)(_:aq)(st:Stmt):Option (Expr×aj):=match Ig st with
 |some z=>if z.2.1=.Mult then ↥(z.1,[z.2.2]) else none
 |none=>none
def yM{sc:Scope}{bl:aq}(h:oH sc bl st=↥(o,args)):∃v pos,st=.AugAssign o .Mult v pos/\args=[v]:=by
 unfold oH at h;cases a:Ig st with
 |none=>rw[a]at h;exact nk h
 |some z =>
  ext(⟨c,p,v⟩:z);rw[a]at h;ext(⟨pos,rfl⟩:zg a);replace h:(if p=.Mult then ↥(c,[v]) else none)=↥(o,args):=h;by_cases b:p=.Mult
  ·rw[zac b]at h;subst b;cases h;exact⟨v,pos,rfl,rfl⟩
  ·rw[zab b]at h;cases h
def O6:Wt X .Mult (λx y H Q=>∃i j,x=.int i/\y=.int j/\gG i j=true/\Q ↑(i*j) H):=by
 intro pins s σ H x y v u Q I r1 r2 h;ext(⟨i,j,e1,e2,a,q⟩:h);subst e1;subst e2;ext(⟨t,rfl⟩:r1)(⟨t',rfl⟩:r2);exact imul_int ⟨.int _,H,I.tok _,⟨_,rfl⟩,q⟩ (vU a)
protected def JT:PlM oH rK:=by
 intro Φ n q X sc bl k L hN W st x pos args he i hi Z pe F cs M;ext(⟨v,pos',rfl,rfl⟩:yM he)(⟨c,rfl⟩:M.c1);refine PS.imp (D8 hN hi Z M.1 O6 (.inl (W _))) λD σ H s=>?_;ext(⟨R,τ,ρ,r,J,e,s⟩:s)(⟨xs,I,e⟩:aI e)(⟨y,ey,I⟩:aI I);cases I;have p:∃a b,y=.int b/\ρ[i]?=↥↥↑a/\gG a b=true/\r=(.nx,ρ.set i ↥↑(a*b)):=by
  have e:tJ Φ n i (lT [c] [y] ρ)=ok r:=e;unfold tJ at e;split at e
  ·rename_i d0 g;ext(⟨d',j,B⟩:aI e);rw[q]at j;unfold lT at j g B;split at j
   ·rename_i l;ext(⟨a,b,e1,e2,_,_⟩:wb (y:=aJ aK y) j);cases y<;>first | (cases e2;done) | (cases l;done)
   ·rename_i l;ext(⟨a,b,rfl,rfl,t,rfl⟩:wb j);rw[zab l]at g;rw[zab l]at B;cases B;exact⟨a,b,rfl,g,t,rfl⟩
  ·cases e
 ext(⟨a,b,rfl,g,t,rfl⟩:p)(⟨w,hw,Y⟩:J.rep i _ g);cases Y;have eI:i<ρ.length:=by
  by_cases z:i<ρ.length
  ·exact z
  ·rw[dV ⋯]at g;cases g
 refine⟨_,hw,tD.intro J ey λu H1 e1 U=>?_⟩;cases U.isInt;refine⟨_,_,rfl,rfl,t,?_⟩;ext(⟨m,O⟩:(J.go e1).set (i:=i) (v:=.int (a*b)) (d:=.int (a*b)) ⟨λ_=>none,λ_ _ h=>by simp at h,.int _⟩ eI);exact s _ H1 R m O (Kp.of e1 λ_ h=>h)
def gn(f:Str)(sc:Scope)(bl:aq)(e:Expr):Option (aj):=(eC e).bind λz=>(one z.2).bind λ_=>if z.1=f/\fI sc z.1=true/\z.1∈bl then ↥z.2 else none
def kf{f:Str}{sc:Scope}{bl:aq}{e:Expr}(h:gn f sc bl e=↥args):∃p pos a,e=.Call (.Name f p) [a] [] pos/\args=[a]/\fI sc f=true/\f∈bl:=by
 ext(⟨⟨x,as⟩,b,h⟩:bT h)(⟨a,hw,h⟩:bT h)(⟨c,h⟩:gT h);cases h;ext(⟨rfl,g,d⟩:c)(⟨p,pos,rfl⟩:b9 b)(rfl:bM hw);exact⟨_,_,_,rfl,rfl,g,d⟩
def Inv.Ud{pins:au}{H:Hp}{s:am}(I:Inv X pins σ H s)(k:∀b u,s.heap.get? b=↥u->h'.get? b=↥u)(up:∀b u,H b=↥u->H' b=↥u)
  (a:∀b u,H' b=↥u->H b=↥u\/(s.heap.objs.size<=b/\cN H' h' b u)):Inv X pins σ H' { s with heap:=h',toks:=t' }:=by
 refine I.step (g':=s.gens) (d':=s.drawn) (ch:=[]) (λb g=>nomatch g) (λb o _ _ _ e _=>k b o e) (λb o _ _ _ e _=>⟨o.slots,k b o e⟩) (λb u _ e n=>?_)
  (λb o _ e=>⟨o,k b o e⟩) (λ_ _ e=>up _ _ e) (λ_ _ _ e=>up _ _ e) (λm d=>?_) (λb u e=>?_) I.bare
 ·cases q:H' b with
  |none=>rfl
  |some v =>
   ext((z|⟨z,_⟩):a b v q)
   ·rw[n]at z;exact nk z
   ·exact absurd (aan e) (mn.mpr z)
 ·ext(⟨o,es,ep,c,r⟩:d);exact⟨o,es,ep,k _ o c,r⟩
 ·ext((e|⟨_,e⟩):a b u e)
  ·exact(I.cI b u e).lK (k b)
  ·exact e
def qK(H:Hp):List (Addr×V×V)->Hp
 |[]=>H
 |q::r=>upd (qK H r) q.1 (.tup [q.2.1,q.2.2])
theorem lR{H:Hp}{b:Addr}{u:HO}(e:H b=↥u):∀{r:List (Addr×V×V)},(∀q∈r,H q.1=none)->qK H r b=↥u
 |[],_=>e
 |q::r,h=>by
  have c:b≠q.1:=λz=>by rw[z,h q zbl]at e;cases e
  show upd (qK H r) q.1 _ b=_;exact[bt c]\lR e λq a=>h q (aaj _ a)
theorem z8{H:Hp}:∀{r:List (Addr×V×V)},(r.map (·.1)).Nodup->∀q∈r,qK H r q.1=↥(.tup [q.2.1,q.2.2])
 |[],_,_,h=>nomatch h
 |q'::r,hn,q,h=>by
  show upd (qK H r) q'.1 _ q.1=_;ext(a:gj.mp hn)((rfl|h):c0.mp h)
  ·exact aT
  ·have:q.1≠q'.1:=λz=>a.1 (by show q'.1∈_;rw[<- z];exact abJ h);exact[bt this]\z8 a.2 q h
theorem vZ{H:Hp}{b:Addr}{u:HO}:∀{r:List (Addr×V×V)},qK H r b=↥u->H b=↥u\/∃q∈r,q.1=b/\u=.tup [q.2.1,q.2.2]
 |[],e=>.inl e
 |q::r,e=>by
  replace e:upd (qK H r) q.1 (.tup [q.2.1,q.2.2]) b=↥u:=e;by_cases z:b=q.1
  ·subst z;rw[aT]at e;cases e;exact .inr ⟨q,aag,rfl,rfl⟩
  ·rw[bt z]at e;ext((h|⟨q',c,a⟩):vZ e)
   ·exact .inl h
   ·exact .inr ⟨q',aaj _ c,a⟩
def tLZ(K:av)(ta:TA):TE:=λσ H Q=>ta σ H λvs H1=>∃a b xs ys,vs=[.ref a,.ref b]/\eA K H1 a xs/\eA K H1 b ys /\
 ∀(l:Addr) (r:List (Addr×V×V)),H1 l=none->(∀q∈r,H1 q.1=none)->(r.map (·.1)).Nodup->l∉r.map (·.1)->r.map (·.2)=xs.zip ys->Q (.ref l) (upd (qK H1 r) l (.lst (r.map λq=>V.ref q.1)))
def Ji{p:Pos}(hc:X.calm=true)(UT:Gl X "list")(R:X.mg "list" = none)(hg:Gl X "zip")(U:X.mg "zip" = none)(ha:PA X [e1,e2] ta)(hs:∀es,cj (e1::es) X.env=(false,eval e1 X.env)::cj es X.env)(RD:∀es,cj (e2::es) X.env=(false,eval e2 X.env)::cj es X.env):
  PE X (.Call (.Name "list" p') [.Call (.Name "zip" p) [e1,e2] [] pos] [] pos') (tLZ X.K ta):=by
 intro pins s σ H Q I h;refine ab1 (fB I UT R boot_list ?_);refine aa3 ?_;show wpAny _ _ (yaf ((false,eval (.Call (.Name "zip" p) [e1,e2] [] pos) X.env)::nU pos' (cj [] X.env))) _ _ s;refine adb ?_;refine Call_ (fB I hg U boot_zip (aa3 (dD (ha pos pins s σ H _ I h) λus d b_=>?_) (hs _) (by rw[RD];rfl)));ext(⟨vs,H1,m,r1,q1⟩:b_)(⟨a,b,xs,ys,e,q1,q2,i⟩:q1);subst e;ext(⟨u,v,rfl,ru,rv⟩:vals2 r1);cases ru;cases rv;ext(⟨aP,rx,M,Xf⟩:m.list q1)(⟨g,ry,L,Mm⟩:m.list q2);refine call_zip_2 M.isList L.isList λh' z t o l1 l2 sz k=>adu ?_;have Ms:h'.IsList a aP.toArray:=M.isList.at λo e=>k _ o e;have Af:h'.IsList b g.toArray:=L.isList.at λo e=>k _ o e;have cls:∀{x y:Addr} {o u:Obj},h'.get? x=↥o->h'.get? y=↥u->o.cls≠u.cls->x≠y:=λh1 h2 h3=>dj h1 h2 h3;have al:@LT.lt Nat _ a d.heap.objs.size:=by ext(⟨_,e,_⟩:M.isList);exact aan e
 have bl:@LT.lt Nat _ b d.heap.objs.size:=by ext(⟨_,e,_⟩:L.isList);exact aan e
 have D:JV (d.heap.objs.size+4) (d.heap.objs.size+2) (d.heap.objs.size+3) d.heap.objs.size (d.heap.objs.size+1) a b:=by
  constructor<;>first|exact aaw ⋯|exact aaH ⋯
 have lx:=rx.length;have ly:=ry.length;have hn:min aP.toArray.size g.toArray.size<=sizeLine:=by simp;left
 refine HR (s:={ d with heap:=h' }) (m.ok.hd hc) D hn z t o l1 l2 Ms Af λZ tk acc c as W Y hl l dG=>?_;dsimp only at W Y l ⊢;have hlen:as.length=(xs.zip ys).length:=by rw[hl,zaZ];simp;left
 have keep:∀b o,d.heap.get? b=↥o->Z.get? b=↥o:=λb o e=>by
  have:@LT.lt Nat _ b d.heap.objs.size:=aan e;exact W b o (aaw ⋯) (aaw ⋯) (aaw ⋯) (aaw ⋯) (k b o e)
 have fresh:∀c,d.heap.objs.size<=c->H1 c=none:=λc h=>m.cI.fresh h;have hS5:h'.objs.size=d.heap.objs.size+5:=sz
 let r:List (Addr×V×V):=as.zip (xs.zip ys)
 have r1:r.map (·.1)=as:=List.map_fst_zip ⋯;have r2:r.map (·.2)=xs.zip ys:=Xs ⋯;have n:∀c∈as,@LT.lt Nat _ h'.objs.size c:=l.above;have ZW:∀q∈r,H1 q.1=none:=λq i=>fresh _ (by have:=n q.1 ([-r1]\abJ i);left);have tY:H1 h'.objs.size=none:=fresh _ ⋯;have Xl:h'.objs.size∉r.map (·.1):=[r1]\λz=>absurd (n _ z) (abb _)
 have nB:(r.map (·.1)).Nodup:=[r1]\l.nd
 have FI:(as.map V.ref)=r.map λq=>V.ref q.1:=by rw[<- r1,zah];rfl
 refine⟨.ref h'.objs.size,upd (qK H1 r) h'.objs.size (.lst (r.map λq=>V.ref q.1)),?_,rfl,i _ r tY ZW nB Xl r2⟩;refine Inv.Ud (s:=d) (t':=tk) m keep (λb u e=>?_) λb u e=>?_
 ·rw[bt λz=>by rw[z,tY]at e;cases e];exact lR e ZW
 ·by_cases zb:b=h'.objs.size
  ·subst zb;rw[aT]at e;cases e;refine .inr ⟨by left,?_,acc.toList,c,?_,[zbu]\Y⟩
   ·rw[<- FI,zaa,hlen,zaZ];left
   ·rw[<- FI,dG];clear dG FI l hl hlen r1 n nB r r2 ZW Xl Y W keep;induction as with
    |nil=>exact .nil
    |cons a as ih=>exact .cons rfl ih
  ·rw[bt zb]at e;ext((e|⟨q,i,rfl,rfl⟩):vZ e)
   ·exact .inl e
   ·have U:q.1∈as:=[-r1]\abJ i
    refine .inr ⟨by have:=n _ U;left,?_⟩;ext(⟨j,hj⟩:g7.mp i);have yq:as[j]?=↥q.1/\(xs.zip ys)[j]?=↥q.2:=by
     have:=lp.mp hj;exact this
    ext(⟨x,y,ex,ey,hp⟩:l.pairs j q.1 yq.1);obtain⟨e1,e2⟩:xs[j]?=↥q.2.1/\ys[j]?=↥q.2.2:=lp.mp yq.2;ext(⟨u1,ZT,J⟩:rx.get e1)(⟨u2,O,B⟩:ry.get e2);rw[Pc,ZT]at ex;rw[Pc,O]at ey;cases ex;cases ey;exact zj J B hp
meta def pairD(x y:D):D:=.tup [x,y]
def T7(xs:aa):O D:=match two xs with
 |some z=>match z.1 with
  |.lst _ a=>match z.2 with
   |.lst _ b=>ok (.ow\(ao bq (gb pairD a b)))
   |_=>none
  |_=>none
 |none=>none
def OF{x y d:D}(h:T7 [x,y]=ok d):∃f a g b,x=.lst f a/\y=.lst g b/\d=.ow\(ao bq (gb pairD a b)):=by
 cases x<;>first|exact nk h | (cases h;done)|skip
 cases y<;>first|exact nk h | (cases h;done)|skip
 cases h;exact⟨_,_,_,_,rfl,rfl,rfl⟩
def GY(sc:Scope)(bl:aq)(e:Expr):Option (aj):=(eC e).bind λz=>(one z.2).bind λi=>if z.1=("list" : Str)/\fI sc z.1=true/\z.1∈bl then qi sc bl i else none
def GX{sc:Scope}{bl:aq}{e:Expr}(h:GY sc bl e=↥args):∃p pos i,e=.Call (.Name ("list" : Str) p) [i] [] pos/\fI sc ("list" : Str)=true/\("list" : Str)∈bl/\qi sc bl i=↥args:=by
 ext(⟨⟨x,as⟩,c,h⟩:bT h)(⟨a,hw,h⟩:bT h)(⟨d,b⟩:gT h)(⟨rfl,j,g⟩:d)(⟨p,pos,rfl⟩:b9 c)(rfl:bM hw);exact⟨p,pos,a,rfl,j,g,b⟩
theorem vB{T:qv}{N:k_}(c:∀k k' p xs f,N k p xs f->N k' p xs f):∀{r:List (Addr×V×V)} {xs ys:ah} {a b:aa} {k1 k2 k:bw} {n1 d n:Nat},aH T N k1 n1 xs a->aH T N k2 d ys b->r.map (·.2)=xs.zip ys->(∀q∈r,T q.1 [q.2.1,q.2.2])->aH T N k n (r.map λq=>V.ref q.1) (gb pairD a b)
 |[],xs,ys,a,b,_,_,_,_,_,_,r1,r2,e,_=>by
  have l1:=r1.length;have l2:=r2.length;ext(l:aa5 l7 e);rw[zaZ]at l;have:gb pairD a b=[]:=List.eq_nil_of_length_eq_zero (by rw[List.length_zipWith];simp at l;left);exact[this]\.nil
 |q::r,xs,ys,a,b,k1,k2,k,n1,d,n,r1,r2,e,ht=>by
  cases r1 with
  |nil=>cases e
  |cons t t1=>cases r2 with
   |nil=>cases e
   |cons s t2 =>
    have e1:q.2=(_,_):=(acP e).1;ext(e2:(acP e).2);refine .cons (.tup (ht q aag) ?_) (vB c t1 t2 e2 λq m=>ht q (aaj _ m));rw[e1];ext(j:Rep.jA (T':=T) (N':=N) (g:=id) ⇑10 c t (0::n::k))(i:Rep.jA (T':=T) (N':=N) (g:=id) ⇑10 c s (1::n::k));rw[eY]at j i;exact .cons j (.cons i .nil)
theorem gI(g:Fl->Fl):∀a b:aa,ao g (gb pairD a b)=gb pairD (ao g a) (ao g b)
 |[],_=>by cases ‹aa› <;> rfl
 |_::_,[]=>rfl
 |x::a,y::b=>by
  show aJ g (pairD x y)::ao g (gb pairD a b)=_;rw[gI g a b];rfl
def T6:MZ GY T7:=by
 intro Φ n t X sc bl k L e args he F cs hs;ext(⟨p,pos,i,rfl,h1,h2,u⟩:GX he)(⟨p',pos',a,b,rfl,rfl,h3,h4⟩:se u)(⟨⟨c,d,rfl,_,_⟩,pa,U,O⟩:mM hs);have this:PE X (.Call (.Name ("list" : Str) p) [.Call (.Name ("zip" : Str) p') [a,b] [] pos'] [] pos) (tD X F Φ (.cJ n [c,d])):=by
  refine PE.imp (Ji L.calm (L.gl h1) (L.bl _ h2) (L.gl h3) (L.bl _ h4) pa U O) λσ H Q m=>?_;ext(⟨R,τ,ρ,d',I,j,m⟩:m)(⟨xs,dm,j⟩:aI j);rw[t]at j;refine⟨R,τ,ρ,xs,I,dm,λvs H1 e1 r1=>?_⟩;ext(⟨τt,M,Z⟩:r1);have s:∃x y,xs=[x,y]:=by
   unfold T7 at j;cases hw:two xs with
   |none=>rw[hw]at j;exact nk j
   |some z=>exact⟨z.1,z.2,fX hw⟩
  ext(⟨x,y,rfl⟩:s)(⟨f,da,g,db,rfl,rfl,rfl⟩:OF j)(⟨v,w,rfl,Y,W⟩:Z.two);cases Y with
  |lst hx ax=>cases W with
   |lst hy ay =>
    refine⟨_,_,_,_,rfl,hx.sq,hy.sq,λl r s J hn Xl u=>m _ _ ?_ ?_⟩
    ·intro b o e;ext(B:e1 b o e);rw[bt λz=>by rw[z,s]at B;cases B];exact lR B J
    ·have sm:aL H1 (upd (qK H1 r) l (.lst (r.map λq=>V.ref q.1))):=λb o e=>by
      rw[bt λz=>by rw[z,s]at e;cases e];exact lR e J
     refine ck.qJ (e1.free s) (e1.trans sm) aT ?_;rw[gI];refine vB nd.rS ((ax.gQ I M (k':=[]) (n':=0)).imp (λ_ _ h=>a_.same sm h) λ_ _ _ _ h=>nd.same sm h) ((ay.gQ I M (k':=[]) (n':=0)).imp (λ_ _ h=>a_.same sm h) λ_ _ _ _ h=>nd.same sm h) u λq m=>?_;have B0:q.1≠l:=λz=>Xl ([-z]\abJ m);exact a_.of ([bt B0]\z8 hn q m)
 exact⟨this,cQ this λ_=>rfl⟩
section
variable {prog:aG}{w:World}{A:aF}{E:aB}{s:am}
theorem vY{fin:Bool}{Q:Bool->am->Prop}:∀{c d:aw} {ns ms:ae} (i:Nat),h9 c ns->h9 d ms->fin=decide (c.length<d.length)->Q (HT.lexLt ns ms) s->PySem.W.KatLex prog w A true fin Q (c.zip d) i s
 |_,_,_,_,i,.nil,.nil,hf,h=>by subst hf;exact h
 |_,_,_,_,i,.nil,.cons _ _ _,hf,h=>by subst hf;exact h
 |_,_,_,_,i,.cons _ _ _,.nil,hf,h=>by subst hf;exact h
 |_,_,_,_,i,.cons (ns:=ns) a t h1,.cons (ns:=ms) b u h2,hf,h=>by
  rw[HT.dR]at h;refine PySem.W.kat_cons (wpAny_eqBool_int (PySem.W.kat_go (λe=>?_) λe=>?_))
  ·have e:a=b:=⇑e
   rw[zac e]at h;exact PySem.W.kat_yes (vY (i+1) h1 h2 (by rw[hf];simp) h)
  ·have e:¬ a=b:=⇑e
   rw[zab e]at h;refine PySem.W.kat_no ?_;rw[zbB];cases i==0 with
   |true=>exact oneLt_int h
   |false=>exact Tl _ _ (lt_int h)
end
meta def cH(ns:ae):D:=.tup (ns.map D.int)
theorem aH.Wg{T:qv}{N:k_}{q:bw}:∀{n:Nat} {vs ws:ah} {ds es:aa},aH T N q n vs ds->aH T N q (n+ds.length) ws es->aH T N q n (vs++ws) (ds++es)
 |_,_,_,_,_,.nil,h=>h
 |n,_,_,_,_,.cons (ds:=ds) h t,h'=>.cons h (aH.Wg t (by
   rw[zae,zbr ds.length 1,<- zaG]at h';exact h'))
def jZ{H:Hp}{p a:Addr}{o:HO}(b:H p=↥(.lst xs))(h:a_ K H a ys):a_ K (upd H p o) a ys:=by
 ext(((h|⟨c,h⟩)|h):h)
 ·exact .inl (.inl (by rw[bt (λz=>by subst z;rw[b]at h;cases h)];exact h))
 ·exact .inl (.inr ⟨c,by rw[bt (λz=>by subst z;rw[b]at h;cases h)];exact h⟩)
 ·exact .inr h
protected def zX{n i:Nat}{xs:aa}{r:Fo×aV}(a:tJ Φ n i (lT cs xs ρ)=ok r)(b:aR bS xs=false):∃d d',ρ[i]?=↥↥d/\Φ n (d::xs)=ok d'/\r=(.nx,ρ.set i ↥d'):=by
 unfold lT at a;rw[zab ([b]\zal)]at a;unfold tJ at a;split at a
 ·rename_i d hd;ext(⟨d',e,c⟩:aI a);cases c;exact⟨d,d',hd,e,rfl⟩
 ·cases a
protected def EK{n i:Nat}{xs:aa}{r:Fo×aV}(a:tJ Φ n i (lT cs xs ρ)=ok r)(b:aR bS xs=true):∃d d',Φ n (d::ao aK xs)=ok d':=by
 unfold lT at a;rw[zac b]at a;unfold tJ at a;split at a
 ·rename_i d hd;ext(⟨d',c,e⟩:aI a);exact⟨d,d',c⟩
 ·cases a
def Ep:D->Option (aa)
 |.lst f ds=>if cq f then ↥ds else none
 |_=>none
protected def x_{d:D}(h:Ep d=↥ds):d=.ow\ds:=by
 cases d<;>first|exact nk h | (cases h;done)|skip
 rename_i f es;have h:(if cq f then ↥es else none)=↥ds:=h;cases f<;>first | (cases h;rfl) | (cases h;done)
def Cb(xs:aa):O D:=match two xs with
 |some z=>match Ep z.1 with
  |some ds=>match Ep z.2 with
   |some es=>if aR anyF es=false/\ds.length+es.length<=cB then ok (.ow\(ds++es))else none
   |none=>none
  |none=>none
 |none=>none
def Au{x y d:D}(h:Cb [x,y]=ok d):∃ds es,x=.ow\ds/\y=.ow\es/\aR anyF es=false/\ds.length+es.length<=cB/\d=.ow\(ds++es):=by
 have h:(match Ep x with|↥ds=>(match Ep y with|↥es=>if aR anyF es=false/\ds.length+es.length<=cB then ok (.ow\(ds++es))else none|none=>none)|none=>none)=ok d:=h;cases a:Ep x with
 |none=>rw[a]at h;exact nk h
 |some ds=>cases b:Ep y with
  |none=>rw[a,b]at h;cases h
  |some es =>
   rw[a,b]at h;ext(⟨⟨g,e⟩,c⟩:qN h);exact⟨ds,es,x_ a,x_ b,g,e,c.symm⟩
def uY(m:Str)(st:Stmt):Option (Expr×aj):=(WB st).bind λc=>(sI c).bind λz=>(zh z.1).bind λy=>if y.2.1=m/\z.2.2.1.isEmpty=true/\(y.2.2.endLine==z.2.2.2.line)=true then ↥(y.1,z.2.1) else none
def oU{m:Str}{as:aj}(h:uY m st=↥(o,as)):∃d b pos,st=.Expr (.Call (.Attribute o m d) as [] b) pos/\(d.endLine==b.line)=true:=by
 ext(⟨c,j,h⟩:bT h)(⟨⟨f,n,l,b⟩,i,h⟩:bT h)(⟨⟨k,a,d⟩,g,h⟩:bT h)(⟨e,h⟩:gT h);cases h;ext(⟨pos,rfl⟩:oV j)(rfl:mv i)(rfl:oW g)(rfl:Jv e.2.1)(rfl:e.1);exact⟨d,b,pos,rfl,e.2.2⟩
def G0(_:Scope)(_:aq)(st:Stmt):Option (Expr×aj):=(uY ("extend" : Str) st).bind λz=>(one z.2).bind λ_=>↥z
protected def Qu:PlM G0 Cb:=by
 intro Φ n j X sc bl k L hN qu st x pos args p i hi hl pe F cs e;ext(⟨⟨o,as⟩,h1,p⟩:bT p)(⟨v,h2,p⟩:bT p);cases p;ext(rfl:bM h2)(⟨p1,p2,pos',rfl,tY⟩:oU h1)(⟨c,rfl⟩:e.c1);refine PS.imp (lN (En adp PySem.F.slot_list_extend PySem.F.type_list_extend BC pe (b0 e.1 cZ (e.2.1 _)) (hfew:=by rw[e.2.1];rfl) (hline:=tY) (hs:=e.2.1 _))) λD σ H O=>?_;ext(⟨R,τ,ρ,r,Y,s,O⟩:O)(⟨xs,W,s⟩:aI s)(⟨y,ey,W⟩:aI W);cases W;have I:∃ds es,y=.ow\es/\ρ[i]?=↥↥(.ow\ds)/\aR anyF es=false/\ds.length+es.length<=cB/\r=(.nx,ρ.set i ↥(.ow\(ds++es))):=by
  cases J:aR bS [y]with
  |true =>
   ext(⟨d,d',h⟩:EK s J);rw[j]at h;ext(⟨ds,es,_,q,_⟩:Au h);cases y<;>first|exact nk q | (cases q;done)|skip
   rename_i f MD;cases f<;>cases q
  |false =>
   ext(⟨d,d',h,h',rfl⟩:zX s J);rw[j]at h';ext(⟨ds,es,rfl,rfl,q,h4,rfl⟩:Au h');exact⟨ds,es,rfl,h,q,h4,rfl⟩
 ext(⟨ds,es,rfl,U,hf,hc,rfl⟩:I)(⟨a,xs,M,ha,hxl,ZU,_⟩:Y.own U);refine⟨.ref a,M,⟨rfl,_,eA.of ha⟩,tD.intro Y ey λu H1 e1 ru=>?_⟩;ext(B:Y.go e1)(⟨a1,Ll,Pd,t,ZN,FD,NZ⟩:B.own U);rw[M]at Pd;cases Pd;ext(⟨τt,fr,rp⟩:ru)(⟨b,Z,rfl,hb,rz⟩:rp.nI);have J:sizeLine=16777216:=acj;have mT:cB=1000000:=rfl;have hzl:=rz.length;refine⟨a,b,Ll,Z,rfl,rfl,t,hb.1,by left,?_⟩;ext(⟨z,sA⟩:B.put (m:=0) (g:=λys=>ys++Z) (v:=.int 0) (d:=.int 0) U M t FD NZ ⟨λ_=>none,λ_ _ h=>by simp at h,.int 0⟩ λrs _=>aH.Wg rs (rz.without (P:=anyF) (λ_ _ h=>jZ t h) (λ_ _ _ _ _ h=>by cases h) hf _ _));exact O σ _ R z sA (pG (n:=.l _) B e1 (λ_ h=>h) t FD)
section
variable {α β:Type}
meta def cw:az->List α->ae->Option α
 |c'::cs,v::vs,c=>if c'=c then ↥v else cw cs vs c
 |_,_,_=>none
meta def setC:az->List α->ae->α->List α
 |c'::cs,v'::vs,c,v=>(if c'=c then v else v')::setC cs vs c v
 |_,_,_,_=>[]
meta def bp(cs:az)(c:ae):az:=if c∈cs then cs else cs++[c]
meta def ng(cs:az)(as:List α)(c:ae)(a:α):List α:=if c∈cs then as else as++[a]
def bP(cs:az)(vs:List α)(c:ae)(v:α):List α:=if c∈cs then setC cs vs c v else vs++[v]
end
section
variable {zs:List (ae×Addr×Value)}{c:ae}
theorem kh:∀(zs:List (ae×Addr×Value)) (c:ae),(atKey zs c).map (·.2)=cw (zs.map (·.1)) (zs.map (·.2.2)) c
 |[],_=>rfl
 |z::zs,c=>by
  ext(a:kh zs c);unfold atKey at a ⊢;rw[Z_];show _=if z.1=c then ↥z.2.2 else cw (zs.map (·.1)) (zs.map (·.2.2)) c
  by_cases e:z.1=c
  ·rw[zaH e,zac e];rfl
  ·exact[zaR e,zab e]\a
theorem d8:∀(zs:List (ae×Addr×Value)) (c:ae),(atKey zs c).isSome=true ↔ c∈zs.map (·.1)
 |[],c=>by simp[atKey]
 |z::zs,c=>by
  ext(a:d8 zs c);unfold atKey at a ⊢;rw[Z_,zam,zau];by_cases e:z.1=c
  ·rw[zaH e];simp[e]
  ·rw[zaR e];exact[a]\⟨.inr,λh=>h.resolve_left λz=>e z.symm⟩
def gz(a:Addr)(v:Value):(sK zs c a v).map (·.1)=bp (zs.map (·.1)) c:=by
 unfold sK bp;by_cases h:c∈zs.map (·.1)
 ·rw[zac ((d8 zs c).mpr h),zac h,zah];refine aaZ λz _=>?_;show(putAt c v z).1=z.1;unfold putAt;split<;>rfl
 ·rw[zab (λz=>h ((d8 zs c).mp z)),zab h,zak];rfl
def nq(a:Addr)(v:Value):(sK zs c a v).map (·.2.1)=ng (zs.map (·.1)) (zs.map (·.2.1)) c a:=by
 unfold sK ng;by_cases h:c∈zs.map (·.1)
 ·rw[zac ((d8 zs c).mpr h),zac h,zah];refine aaZ λz _=>?_;show(putAt c v z).2.1=z.2.1;unfold putAt;split<;>rfl
 ·rw[zab (λz=>h ((d8 zs c).mp z)),zab h,zak];rfl
theorem vH(v:Value):∀zs:List (ae×Addr×Value),(zs.map (putAt c v)).map (·.2.2)=setC (zs.map (·.1)) (zs.map (·.2.2)) c v
 |[]=>rfl
 |z::zs=>by
  show(putAt c v z).2.2::((zs.map (putAt c v)).map (·.2.2))=(if z.1=c then v else z.2.2)::setC (zs.map (·.1)) (zs.map (·.2.2)) c v;rw[vH v zs];unfold putAt;by_cases e:z.1=c
  ·rw[zac e,zac e]
  ·rw[zab e,zab e]
def nj(a:Addr)(v:Value):(sK zs c a v).map (·.2.2)=bP (zs.map (·.1)) (zs.map (·.2.2)) c v:=by
 unfold sK bP;by_cases h:c∈zs.map (·.1)
 ·exact[zac ((d8 zs c).mpr h),zac h]\vH v zs
 ·rw[zab (λz=>h ((d8 zs c).mp z)),zab h,zak];rfl
end
theorem uV{c:ae}{v:V}{u:Value}(r:RelV v u):∀{cs:az} {xs:ah} {a:aw},Vals xs a->Vals (setC cs xs c v) (setC cs a c u)
 |[],_,_,h=>by cases h<;>exact .nil
 |c'::cs,_,_,h=>by
  cases h with
  |nil=>exact .nil
  |cons h t =>
   refine .cons ?_ (uV r t);show RelV (if c'=c then v else _) (if c'=c then u else _);by_cases e:c'=c
   ·exact[zac e,zac e]\r
   ·exact[zab e,zab e]\h
theorem qZ{v:V}{u:Value}(r:RelV v u):∀{xs:ah} {a:aw},Vals xs a->Vals (xs++[v]) (a++[u])
 |_,_,.nil=>.cons r .nil
 |_,_,.cons h t=>.cons h (qZ r t)
def uW{cs:az}{a:aw}(h:Vals xs a){c:ae}{v:V}{u:Value}(r:RelV v u):Vals (bP cs xs c v) (bP cs a c u):=by
 unfold bP;by_cases e:c∈cs
 ·exact[zac e,zac e]\uV r h
 ·exact[zab e,zab e]\qZ r h
theorem lD:∀{cs:az} {xs:ah} {a:aw} (_:Vals xs a) (c:ae),CB (cw cs xs c) (cw cs a c)
 |[],_,_,_,_=>by cases ‹Vals _ _› <;> exact nY
 |c'::cs,_,_,h,c=>by
  cases h with
  |nil=>exact nY
  |cons h t =>
   show CB (if c'=c then ↥_ else _) (if c'=c then ↥_ else _);by_cases e:c'=c
   ·exact[zac e,zac e]\h
   ·exact[zab e,zab e]\lD t c
section
variable {X:Cx}{pins:au}{σ:St}{H:Hp}{s:am}{p b:Addr}{cs:az}{as:aX}{xs:ah}{ep:Nat}{c:ae}{A:aF}{E:aB}
theorem items_int:∀{c:ae} {a:aw},Vals (c.map V.int) a->ItemsAre (pc X.prog X.w) c a
 |[],_,h=>by cases h;exact .nil
 |i::c,_,h=>by
  cases h with
  |cons h t =>
   ext(⟨t',rfl⟩:h);exact .cons (by simp[pc,Value.isInt]) (items_int t)
def pI(I:Inv X pins σ H s)(h:a_ X.K H b (c.map V.int)):(vu (pc X.prog X.w)).is s.heap c b:=by
 ext(⟨i,a,⟨o,g,e,n,d⟩,_⟩:I.tuple h);exact⟨o,i.toArray,n,g,e,d,⇑(items_int a)⟩
def oF(I:Inv X pins σ H s)(h:H p=↥(.ext (DO p cs as xs ep)))(k:dk (a_ X.K H) as cs):
  ∃(zs:List (ae×Addr×Value)) (o:Obj) (es:Array mX),zs.map (·.1)=cs/\zs.map (·.2.1)=as/\Vals xs (zs.map (·.2.2))/\s.heap.get? p=↥o/\o.ExactDict/\o.data=.dict es ep /\
   s.heap.DictOfH (vu (pc X.prog X.w)) p zs/\es.toList=zs.map (entryOfKey (vu (pc X.prog X.w)))/\cs.length<=sizeLine/\(p==kw)=false:=by
 obtain⟨⟨zs,o,es,e1,e2,e3,d,a,hd,g,m,n,l⟩,_⟩:=(show cN H s.heap p (.ext (DO p cs as xs ep)) from I.cI p _ h)
 refine⟨zs,o,es,e1,e2,e3,d,a,hd,⟨o,es,ep,d,a,hd,g,λz i=>?_,[e1]\m⟩,g,n,l⟩;ext(⟨j,e⟩:g7.mp i);exact pI I (k.tup j z.2.1 z.1 (by rw[<- e2,bv,e];rfl) (by rw[<- e1,bv,e];rfl))
def dict_cls(I:Inv X pins σ H s)(h:H p=↥(.ext (DO p cs as xs ep))):s.TypeIs (.ref p) "dict" /\ ∀b,em p=.ref b->∃a,s.heap.get? b=↥a/\a.dict=none:=by
 obtain⟨⟨g,o,es,e1,e2,e3,e,d,_⟩,_⟩:=(show cN H s.heap p (.ext (DO p cs as xs ep)) from I.cI p _ h)
 exact⟨⟨o,e,d.1⟩,λb q=>by cases q;exact⟨o,e,d.2.1⟩⟩
def yE{v:V}{r:Value}{Q:Unit->am->Prop}(B:A.units+1<cLine)(I:Inv X pins σ H s)(h:H p=↥(.ext (DO p cs as xs ep)))(k:dk (a_ X.K H) as cs)(j:a_ X.K H b (c.map V.int))(n:RelV v r)(dg:cs.length<sizeLine)
  (L:∀e l,Inv X pins σ (upd H p (.ext (DO p (bp cs c) (ng cs as c b) (bP cs xs c v) e))) l->Q () l) :
  wpAny (model X.prog X.w) A (setItem (.ref p) (.ref b) r) Q E s:=by
 ext(⟨d,o,es,e1,e2,e3,ho,hx,hd,dd,_,i,J⟩:oF I h k);have y:d.length<=sizeLine:=by rw[<- e1,zaa]at i;exact i
 refine wpAny_setItem_heap (hsz:=y) (adh B) (pI I j) dd λh' VX m=>?_;ext(⟨q,MD,e,g,U,R,O,_,M⟩:VX);refine L e _ (I.write (x:=p) ([h]\nY) (λb q j z=>(m.2 b j).trans z) ⟨q,g⟩ ⟨⟨sK d c b r,q,MD,?_,?_,?_,g,U,R,O,?_,?_,J⟩,⟨q,g⟩,?_⟩)
 ·rw[gz,e1]
 ·rw[nq,e1,e2]
 ·exact[nj,e1]\uW e3 n
 ·exact[-e1,-gz (zs:=d) (c:=c) b r]\M
 ·unfold bp;split
  ·exact i
  ·rw[zaf,zaC];left
 ·rintro h1 RO ⟨Rm,t,a,f1,f2,Z,Y,W⟩ u;exact⟨Rm,t,a,f1,f2,Z,u _ Y,W⟩
def Jk:PE X (.Dict [] [] pos) (λ_ H Q=>∀p,H p=none->Q (.ref p) (upd H p (.ext (DO p [] [] [] 0)))):=λpins s σ H Q I h=>by
 have e:kw<s.heap.objs.size:=acY ⇑4 (show cm<s.heap.objs.size from(I.mod.glob.keeps I.bk).lt);refine wpAny_Dict_empty ⟨.ref s.heap.objs.size,_,I.laid (a:=s.heap.objs.size) (o:=.ext (DO s.heap.objs.size [] [] [] 0)) (t':=s.toks) (λ_ _ q=>aai _ q) (aao _) ?_,rfl,h _ (I.cI.fresh (aao _))⟩;have g:(s.heap.push { cls:=.type "dict",data:=.dict #[] }).get? s.heap.objs.size=some { cls:=.type "dict",data:=.dict #[] }:=aax _ rfl;refine⟨⟨[],_,#[],rfl,rfl,.nil,g,⟨rfl,rfl,rfl⟩,rfl,rfl,ace,aa7 _,beq_eq_false_iff_ne.mpr (acW (aaw e))⟩,⟨_,g⟩,?_⟩;rintro u v ⟨t,i,d,r,n,m,l,k⟩ j;exact⟨t,i,d,r,n,m,j _ l,k⟩
end
def oh{k:bw}{v:V}{d:D}(h:Rep T N k v d)(hf:aW anyF d=false):Rep T N' k' v d:=by
 have:=Rep.gen (T':=T) (N':=N') (g:=id) (P:=anyF) (C:=λ_ _=>True) (I:=λ_ _=>True) ⇑10 trivial (λ_ _ e=>e) (λ_ _ _ _ e _=>e) (λk k' p xs f _ a _=>nomatch a) h (k':=k') trivial hf;rw[eY]at this;exact this
theorem o6{T:qv}{N:k_}:∀{cs:az} {k:bw} {n:Nat} {xs:ah} {ds:aa} (_:aH T N k n xs ds) (c:ae),(cw cs xs c=none/\cw cs ds c=none)\/∃v d k',cw cs xs c=↥v/\cw cs ds c=↥d/\Rep T N k' v d/\d∈ds
 |[],_,_,_,_,_,_=>by cases ‹aH _ _ _ _ _ _› <;> exact .inl ⟨rfl,rfl⟩
 |c'::cs,_,_,_,_,r,c=>by
  cases r with
  |nil=>exact .inl ⟨rfl,rfl⟩
  | @cons _ _ v d vs ds h t =>
   by_cases e:c'=c
   ·exact .inr ⟨v,d,_,abE e,abE e,h,aag⟩
   ·have e1:∀{b:Type} (a:b) (l:List b),cw (c'::cs) (a::l) c=cw cs l c:=λa l=>ad0 e;rw[e1,e1];ext((h|⟨v',d',k',m,j,i,g⟩):o6 (cs:=cs) t c)
    ·exact .inl h
    ·exact .inr ⟨v',d',k',m,j,i,aaj _ g⟩
theorem vD{T:qv}{N:k_}{c:ae}{v:V}{d:D}(a:∀k,Rep T N k v d):∀{cs:az} {k:bw} {n:Nat} {xs:ah} {ds:aa},aH T N k n xs ds->aH T N k n (setC cs xs c v) (setC cs ds c d)
 |[],_,_,_,_,r=>by cases r<;>exact .nil
 |c'::cs,_,_,_,_,r=>by
  cases r with
  |nil=>exact .nil
  |cons h t =>
   refine .cons ?_ (vD a t);show Rep _ _ _ (if c'=c then v else _) (if c'=c then d else _);by_cases e:c'=c
   ·exact[zac e,zac e]\a _
   ·exact[zab e,zab e]\h
def Br{v:V}{d:D}(a:∀k,Rep T N k v d){k:bw}{n:Nat}(h:aH T N k n xs ds):aH T N k n (xs++[v]) (ds++[d]):=h.snoc (a _)
def DX{c:ae}{v:V}{d:D}(a:∀k,Rep T N k v d){cs:az}{k:bw}{n:Nat}(r:aH T N k n xs ds):aH T N k n (bP cs xs c v) (bP cs ds c d):=by
 unfold bP;by_cases e:c∈cs
 ·exact[zac e,zac e]\vD a r
 ·exact[zab e,zab e]\Br a r
def pH{cs:az}(k:dk T as cs){b:Addr}{c:ae}(n:T b (c.map V.int)):dk T (ng cs as c b) (bp cs c):=by
 unfold ng bp;by_cases e:c∈cs
 ·exact[zac e,zac e]\k
 ·rw[zab e,zab e];refine⟨by rw[zaf,zaf,k.len];rfl,λj a c' d g=>?_⟩;by_cases l:j<as.length
  ·rw[d7 l]at d;rw[d7 ([-k.len]\l)]at g;exact k.tup j a c' d g
  ·rw[d6 ⋯]at d;rw[d6 (by rw[<- k.len];left),<- k.len]at g;cases i:j - as.length with
   |zero =>
    rw[i]at d g;cases d;cases g;exact n
   |succ m=>rw[i]at d;cases d
def ck.newD{R:Addr->Prop}{H:Hp}{p:Addr}(e:H p=none)(g:H' p=↥(.ext (DO p [] [] [] 0))):ck K G R τ fv H H' (.ref p) (.cF .ow [] []):=by
 refine⟨λq=>if q=p then ↥[] else none,λq k d=>?_,.cF (ep:=0) (as:=[]) (xs:=[]) ⟨g,by simp⟩ ⟨rfl,λj a c h=>by simp at h⟩ .nil⟩;by_cases b:q=p
 ·subst b;exact e
 ·simp[b]at d
meta def GC(xs:aa):O D:=match xs with
 |[]=>ok (.cF .ow [] [])
 |_::_=>none
meta def ur(_:Scope)(_:aq)(e:Expr):Option (aj):=match e with
 |.Dict [] [] _=>↥[]
 |_=>none
def KC:MZ ur GC:=by
 intro Φ n c X m bl k L e args a F cs j;have l:∃pos,e=.Dict [] [] pos/\args=[]:=by
  unfold ur at a;split at a
  ·cases a;exact⟨_,rfl,rfl⟩
  ·cases a
 ext(⟨pos,rfl,rfl⟩:l);cases cs with
 |cons _ _=>exact j.elim
 |nil =>
  have this:PE X (.Dict [] [] pos) (tD X F Φ (.cJ n [])):=by
   refine PE.imp (Jk (X:=X) (pos:=pos)) λσ H Q g p i=>?_;ext(⟨R,τ,ρ,d,q,b,g⟩:g);have b:Φ n []=ok d:=b;rw[c]at b;cases b;exact g _ _ (aL.upd i) (ck.newD i aT)
  exact⟨this,cQ this λ_=>rfl⟩
meta def three{d:Type}:List d->Option (d×d×d)
 |[a,b,c]=>↥(a,b,c)
 |_=>none
def Dq{e:Type}{l:List e}{z:e×e×e}(h:three l=↥z):l=[z.1,z.2.1,z.2.2]:=by
 rcases l with _|⟨a,_|⟨b,_|⟨c,_|⟨d,l⟩⟩⟩⟩<;>cases h;rfl
meta def iB:D->Option (az×aa)
 |.cF _ cs vs=>↥(cs,vs)
 |_=>none
def keyOf:D->Option (ae)
 |.tup a=>intsOf a
 |_=>none
def lZ{d:D}{z:az×aa}(h:iB d=↥z):∃f,d=.cF f z.1 z.2:=by
 cases d<;>first | (cases h;done) | (cases h;exact⟨_,rfl⟩)
def lS{d:D}{c:ae}(h:keyOf d=↥c):d=.tup (c.map D.int):=by
 cases d<;>first | (cases h;done)|skip
 rw[dX (show intsOf _=↥c from h)]
def GH(xs:aa):O D:=match two xs with
 |some z=>match iB z.1 with
  |some d=>match keyOf z.2 with
   |some c=>match cw d.1 d.2 c with
    |some v=>if aW anyF v=false then ok v else none
    |none=>none
   |none=>none
  |none=>none
 |none=>none
def KH{xs:aa}{r:D}(h:GH xs=ok r):∃f cs vs c,xs=[.cF f cs vs,.tup (c.map D.int)]/\cw cs vs c=↥r/\aW anyF r=false:=by
 unfold GH at h;cases g:two xs with
 |none=>rw[g]at h;cases h
 |some z =>
  rw[g]at h;have h:(match iB z.1 with|↥d=>(match keyOf z.2 with|↥c=>(match cw d.1 d.2 c with|↥v=>if aW anyF v=false then ok v else none|none=>none)|none=>none)|none=>none)=ok r:=h;cases e:iB z.1 with
  |none=>rw[e]at h;cases h
  |some d =>
   rw[e]at h;have h:(match keyOf z.2 with|↥c=>(match cw d.1 d.2 c with|↥v=>if aW anyF v=false then ok v else none|none=>none)|none=>none)=ok r:=h;cases b:keyOf z.2 with
   |none=>rw[b]at h;cases h
   |some c =>
    rw[b]at h;have h:(match cw d.1 d.2 c with|↥v=>if aW anyF v=false then ok v else none|none=>none)=ok r:=h;cases a:cw d.1 d.2 c with
    |none=>rw[a]at h;cases h
    |some v =>
     rw[a]at h;ext(⟨i,rfl⟩:qN (show(if aW anyF v=false then ok v else none)=ok r from h))(⟨f,e1⟩:lZ e);exact⟨f,d.1,d.2,c,by rw[fX g,e1,lS b],a,i⟩
def Y1(K:av):R2:=λx y H Q=>∃p b cs as xs ep c v,x=.ref p/\y=.ref b/\H p=↥(.ext (DO p cs as xs ep))/\dk (a_ K H) as cs/\a_ K H b (c.map V.int)/\cw cs xs c=↥v/\Q v H
def JI(l:X.A.units+1<cLine):Lh X (Y1 X.K):=by
 intro value slice pins s σ H x y v u Q I j i h m;ext(⟨p,b,cs,as,xs,ep,c,w,rfl,rfl,n,t,B,z,q⟩:h);cases j;cases i;ext(⟨e,o,es,e1,e2,e3,O,M,hd,a,_,R,U⟩:oF I n t)(d:lD (cs:=cs) e3 c);rw[z]at d;ext(⟨u,L,k⟩:CB.some_of d);have:(atKey e c).map (·.2)=↥u:=[kh,e1]\L
 ext(⟨q',J,rfl⟩:im.mp this);exact acR (x:=q'.2) a.typeIs AC.lookup
  (yav (Q:=λr g=>r=q'.2/\EP X pins σ Q r g) (adh l) (pI I B) a J ⟨rfl,w,H,I.tok _,k,q⟩) m
def m8(_:Scope)(_:aq)(e:Expr):Option (aj):=match xH e with
 |some z=>↥[z.1,z.2]
 |none=>none
def QQ:MZ m8 GH:=by
 intro Φ n i X sc bl k L e args a F cs p;unfold m8 at a;cases l:xH e with
 |none=>rw[l]at a;cases a
 |some z =>
  rw[l]at a;cases a;ext(⟨pos,rfl⟩:lE l)(⟨⟨c1,c2,rfl,J,I⟩,_⟩:mM p);have this:PE X (.Subscript z.1 z.2 pos) (tD X F Φ (.cJ n [c1,c2])):=by
   refine PE.imp (Em (JI (Mn L.room)) J I p.2.2.2.2.2.1) λσ H Q j=>?_;ext(⟨R,τ,ρ,d,s,g,j⟩:j)(⟨xs,b,g⟩:aI g);rw[i]at g;ext(⟨f,cs,vs,c,rfl,q,Y⟩:KH g)(⟨x,ex,b⟩:aI b)(⟨ys,Ga,b⟩:aI b)(⟨y,ey,VF⟩:aI Ga);cases VF;cases b;refine tD.intro s ex λv H1 e1 r1=>tD.intro (s.go e1) ey λu H2 e2 r2=>?_;ext(⟨B,f1,q1⟩:r1)(⟨t,f2,q2⟩:r2);cases q1 with
   |cF U W O=>cases q2 with
    |tup M ZX =>
     cases ZX.ofInts;ext((⟨_,m⟩|⟨w,d',k',g1,r,Z,_⟩):o6 O c)
     ·rw[q]at m;cases m
     ·rw[q]at r;cases r;refine⟨_,_,_,_,_,_,c,w,rfl,rfl,e2 _ _ U.dat,W.imp λ_ _ h=>a_.same e2 h,M,g1,j w H2 (e1.trans e2) ⟨λ_=>none,λ_ _ h=>by simp at h,?_⟩⟩;exact(oh (N':=nd X.K R (k9 (gP X F) τ (gK (.cJ n [c1,c2]))) ⇑8 H1) (k':=[]) Z Y).imp (λ_ _ h=>a_.same e2 h) λ_ _ _ _ h=>nd.same e2 h
  exact⟨this,cQ this λ_=>rfl⟩
def wK(xs:aa):O D:=match three xs with
 |some z=>match z.1 with
  |.cF f cs vs=>match keyOf z.2.2 with
   |some c=>if cq f=true/\aW anyF z.2.1=false/\cs.length<cB then ok (.cF .ow (bp cs c) (bP cs vs c z.2.1))else none
   |none=>none
  |_=>none
 |none=>none
protected def wJ{d:D}{xs:aa}{r:D}(h:wK (d::xs)=ok r):∃cs vs c x,d=.cF .ow cs vs/\xs=[x,.tup (c.map D.int)]/\aW anyF x=false/\cs.length<cB/\r=.cF .ow (bp cs c) (bP cs vs c x):=by
 unfold wK at h;cases b:three (d::xs)with
 |none=>rw[b]at h;cases h
 |some z =>
  rw[b]at h;ext(e0:Dq b)(⟨d',x,y⟩:z);obtain⟨rfl,rfl⟩:d=d'/\xs=[x,y]:=acP e0;cases d<;>first | (cases h;done)|skip
  rename_i f cs vs;have h:(match keyOf y with|↥c=>if cq f=true/\aW anyF x=false/\cs.length<cB then ok (D.cF .ow (bp cs c) (bP cs vs c x))else none|none=>none)=ok r:=h;cases a:keyOf y with
  |none=>rw[a]at h;cases h
  |some c =>
   rw[a]at h;ext(⟨⟨i,e,g⟩,rfl⟩:qN (show(if cq f=true/\aW anyF x=false/\cs.length<cB then ok (D.cF .ow (bp cs c) (bP cs vs c x))else none)=ok r from h));cases f<;>first | (cases i;done)|exact⟨cs,vs,c,x,rfl,by rw[lS a],e,g,rfl⟩
def uq(_:Scope)(_:aq)(st:Stmt):Option (Expr×aj):=(Ba st).bind λz=>(one z.1).bind λt=>(xH t).bind λy=>↥(y.1,[z.2,y.2])
def yN{sc:Scope}{bl:aq}(h:uq sc bl st=↥(o,args)):∃v i pos' pos,st=.Assign [.Subscript o i pos'] v pos/\args=[v,i]:=by
 ext(⟨⟨d,v⟩,c,h⟩:bT h)(⟨t,b,h⟩:bT h)(⟨⟨e,i⟩,a,h⟩:bT h);cases h;ext(rfl:bM b)(⟨pos,rfl⟩:jV c)(⟨pos',rfl⟩:lE a);exact⟨v,i,pos',pos,rfl,rfl⟩
mutual
theorem any_map(g:Fl->Fl):∀d:D,aW anyF (aJ g d)=aW anyF d
 |.bX=>rfl
 |.bl _=>rfl
 |.int _=>rfl
 |.str _=>rfl
 |.tup ds=>xi g ds
 |.lst _ ds=>rfl
 |.cF _ _ ds=>rfl
theorem xi(g:Fl->Fl):∀ds:aa,aR anyF (ao g ds)=aR anyF ds
 |[]=>rfl
 |d::ds=>by show(aW _ _||aR _ _)=(aW _ d||aR _ ds);rw[any_map g d,xi g ds]
end
mutual
theorem yV:∀d:D,aW anyF d=false->aW bS d=false
 |.bX,_=>rfl
 |.bl _,_=>rfl
 |.int _,_=>rfl
 |.str _,_=>rfl
 |.tup ds,h=>AZ ds h
 |.lst _ ds,h=>nomatch h
 |.cF _ _ ds,h=>nomatch h
theorem AZ:∀ds:aa,aR anyF ds=false->aR bS ds=false
 |[],_=>rfl
 |d::ds,h=>by
  ext(h:Oj h);show(aW _ d||aR _ ds)=false;rw[yV d h.1,AZ ds h.2];rfl
end
theorem any_ints:∀c:ae,aR anyF (c.map D.int)=false
 |[]=>rfl
 |i::c=>any_ints c
def Nz{i:Expr}{l:Nat}:mR value ↥(.Subscript o i pos') l env=pure false:=by
 unfold mR;cases value<;>rfl
def D7{x:Str}{j:Pos}{i:Expr}{e to g:TE}(J:X.A.units+1<cLine)(B:PE X value e)(L:PE X (.Name x j) to)(R:PE X i g):
  PS X (.Assign [.Subscript (.Name x j) i pos'] value pos) (λD σ H=>e σ H λv H1=>to σ H1 λo H2=>g σ H2 λy a=>∃q b cs as xs ep c,o=.ref q/\y=.ref b/\a q=↥(.ext (DO q cs as xs ep))/\dk (a_ X.K a) as cs/\a_ X.K a b (c.map V.int)/\cs.length<sizeLine /\
   ∀d,D.nx σ (upd a q (.ext (DO q (bp cs c) (ng cs as c b) (bP cs xs c v) d)))):=by
 intro pins s σ H D I h;refine wpAny_Assign_Subscript (dD (B pins s σ H _ I h) λr l ⟨v,H1,I1,p,q1⟩=>dD (L pins l σ H1 _ I1 q1) λu k ⟨o,H2,I2,n,q2⟩=>dD (R pins k σ H2 _ I2 q2) λz s3 Z=>?_) Nz;ext(⟨y,a,I3,m,q,b,cs,as,xs,ep,c,Y,W,hd,O,U,M,t⟩:Z);subst Y W;obtain rfl:u=em q:=n;obtain rfl:z=em b:=m;exact yE J I3 hd O U p M λd s4 I4=>⟨σ,_,I4,t d⟩
def SI.Oh{R:Addr->Prop}{H:Hp}{i:Nat}{cs:az}(d:SI X F R τ ρ σ H)(c:ρ[i]?=↥↥(.cF .ow cs ds)):
  ∃p as xs ep,σ[i]?=↥↥(.ref p)/\H p=↥(.ext (DO p cs as xs ep))/\τ p=↥[i]/\dk (a_ X.K H) as cs/\aH (a_ X.K H) (nd X.K R ⇑7 τ H) [i] 0 xs ds:=by
 ext(⟨v,b,a⟩:d.rep i _ c);cases a with
 |cF h k r=>exact⟨_,_,_,_,b,h.1,h.2,k,r⟩
def KA:PlM uq wK:=by
 intro Φ n j X sc bl k L hN qu st x pos args he i hi hl pe F cs hs;ext(⟨v,ix,p1,p2,rfl,rfl⟩:yN he)(⟨⟨c1,c2,rfl,h1,h2⟩,_⟩:mM hs);refine PS.imp (D7 (Mn L.room) h1 pe h2) λD σ H W=>?_;ext(⟨R,τ,ρ,r,B,z,W⟩:W)(⟨xs,s,z⟩:aI z)(⟨y,ey,s⟩:aI s)(⟨ys,Ga,s⟩:aI s);cases s;ext(⟨a,ek,VF⟩:aI Ga);cases VF;have O:∃cs vs c,a=.tup (c.map DI.D.int)/\ρ[i]?=↥↥(.cF .ow cs vs)/\aW anyF y=false/\cs.length<cB/\r=(.nx,ρ.set i ↥(.cF .ow (bp cs c) (bP cs vs c y))):=by
  cases l:aR bS [y,a]with
  |true =>
   ext(⟨d,d',h⟩:EK z l);rw[j]at h;ext(⟨cs,vs,c,x',_,e1,e2,_⟩:wJ h);have e3:aJ aK y=x'/\aJ aK a=.tup (c.map DI.D.int):=by
    have:=acP e1;exact⟨this.1,(acP this.2).1⟩
   have a1:aW bS y=false:=yV y ([-any_map aK y,e3.1]\e2);have a2:aW bS a=false:=yV a ([-any_map aK a,e3.2]\any_ints c);have:aR bS [y,a]=false:=by show(aW bS y||(aW bS a||false))=false;rw[a1,a2];rfl
   rw[this]at l;cases l
  |false =>
   ext(⟨d,d',h,h',rfl⟩:zX z l);rw[j]at h';ext(⟨cs,vs,c,x',rfl,e1,e2,e3,rfl⟩:wJ h');cases e1;exact⟨cs,vs,c,rfl,h,e2,e3,rfl⟩
 ext(⟨cs,vs,c,rfl,Y,Z,hc,rfl⟩:O)(⟨p,as,g,ep,U,hd,ht,hk,M⟩:B.Oh Y);refine tD.intro B ey λu H1 e1 ru=>⟨.ref p,U,tD.intro (B.go e1) ek λw H2 e2 kL=>?_⟩
 ext(⟨τ1,f1,q1⟩:ru)(⟨τ2,f2,q2⟩:kL);cases q2 with
 | @tup _ b _ _ hb ZX =>
  cases ZX.ofInts;ext(es:e1.trans e2)(J:B.go es)(e:es _ _ hd);have mT:cB=1000000:=rfl;have l:sizeLine=16777216:=acj;refine⟨p,b,cs,as,g,ep,c,rfl,rfl,e,hk.imp λ_ _ h=>a_.same es h,hb,by left,λlY=>?_⟩;have t:eN H2 p (.d cs as g ep):=e;have rk:jt X R τ H2 u y:=o7 ((oh (N':=nd X.K R ⇑7 τ H1) (k':=[]) q1 Z).imp (λ_ _ h=>a_.same e2 h) λ_ _ _ _ h=>nd.same e2 h) Z;ext(⟨p',We,Rm,agM,q,we,Pe,CN,sZ⟩:J.Oh Y);rw[U]at q;cases q;rw[e]at we;obtain⟨I,Lc⟩:=J.Tq (m:=0) (n':=.d (bp cs c) (ng cs as c b) (bP cs g c u) lY) (o:=.ext (DO p (bp cs c) (ng cs as c b) (bP cs g c u) lY)) (d1:=.cF .ow (bp cs c) (bP cs vs c y)) (xs':=bP cs g c u) (ds':=bP cs vs c y) Y U t ht (M.imp (λ_ _ h=>a_.same es h) λ_ _ _ _ h=>nd.same es h) rk aT
   (λhN r=>.cF hN (pH ((hk.imp λ_ _ h=>a_.same es h).imp λ_ _ h=>mD t h) (mD t hb)) r) (λM r=>DX (λk=>oh r Z) M)
  exact W σ _ R I Lc (pG J es (λ_ h=>h) t ht)
end DI
end
section
namespace TS
open PySem PyProof.Rows
meta def Am:Bool->Keyed->Array Keyed->Nat->Nat->Nat->StateT f8 Sem (Option Nat):=sortPriv% PySem.Builtin.gallop
def yG{T G:Prop}(f:T->G)(t:T):G:=f t
section
variable {M:Model}{A:aF}{E:aB}{s:am}{σ α:Type}{c:Prop}[Decidable c]{t e:StateT σ Sem α}{Q:α->σ->Prop}{st:σ}
def br(h:c)(k:wpS M A E s t Q st):wpS M A E s (if c then t else e) Q st:=[zac h]\k
def bx(h:¬ c)(k:wpS M A E s e Q st):wpS M A E s (if c then t else e) Q st:=[zab h]\k
def jT(h:c->wpS M A E s t Q st)(k:¬ c->wpS M A E s e Q st):wpS M A E s (if c then t else e) Q st:=by
 by_cases z:c
 ·exact br z (h z)
 ·exact bx z (k z)
def b8{a:Type}{x:StateT σ Sem α}{f:α->StateT σ Sem a}{R:a->σ->Prop}{u:α}{b:σ}(g:∀d:α->σ->Prop,d u b->wpS M A E s x d st)(h:wpS M A E s (f u) R b):wpS M A E s (x >>= f) R st:=aaz (g _ h)
def mi{b:Type}{x:StateT σ Sem α}{f:α->StateT σ Sem b}{R:b->σ->Prop}(g:wpS M A E s x Q st)(h:∀a d,Q a d->wpS M A E s (f a) R d):wpS M A E s (x >>= f) R st:=aaz (acL g h)
def sG{a:Type}{x:StateT σ Sem (Option Nat)}{f:Option Nat->StateT σ Sem a}{R:a->σ->Prop}{i g d:Nat->Prop}(j:∀b:Option Nat->σ->Prop,(∀k,i k->g k->d k->b ↥k st)->wpS M A E s x b st)(h:∀k,i k->g k->d k->wpS M A E s (f ↥k) R st):wpS M A E s (x >>= f) R st:=aaz (j _ h)
def C7{b:Type}{x:StateT σ Sem Unit}{f:Unit->StateT σ Sem b}{R:b->σ->Prop}{g:σ->Prop}(i:∀d:Unit->σ->Prop,(∀a,g a->d () a)->wpS M A E s x d st)(h:∀a,g a->wpS M A E s (f ()) R a):wpS M A E s (x >>= f) R st:=aaz (i _ h)
end
inductive GI{R:Type}(P:Nat->Nat->Prop)(st:f8):Option R×Nat×Nat->f8->Prop
 |mk {x y:Nat} (p:P x y):GI P st (none,x,y) st
structure Bs(G:Nat->Bool)(n x lo hi:Nat):Prop where
 le:lo<=hi
 hn:hi<=n
 m:hi+x<=n+lo
 t:∀i,i<lo->G i=true
 f:∀i,hi<=i->i<n->G i=false
variable {base hi hint lo na nb o sa sb:Nat}
def OC(h:¬ lo ≥ hi):lo<=lo+(hi - lo) / 2/\lo+(hi - lo) / 2<hi :=
 ⟨aaG _ _,Nat.lt_of_lt_of_eq (aaT (Nat.div_lt_self (adw (adF h)) Nat.one_lt_two) _) (wg (Nat.le_of_not_le h))⟩
section
variable {prog:aG}{w:World}{A:aF}{E:aB}{s:am}{κ:hV}{a₀:Array Keyed}{F:Keyed->Int}
def qW(prog:aG)(w:World)(A:aF)(E:aB)(s:am)(κ:hV)(a₀:Array Keyed)(F:Keyed->Int):Prop:=∀x y,x∈a₀.toList->y∈a₀.toList->∀(st:f8) (Q:Option Bool->f8->Prop),kindOf st=κ->Q ↥(decide (F x<F y)) st->wpS (model prog w) A E s (lt' x y) Q st
def bD{arr:Array Keyed}{i:Nat}{x:Keyed}{st:f8}{Q:Keyed->f8->Prop}(h:arr[i]?=↥x)(a:Q x st):wpS (model prog w) A E s (elem' arr i) Q st:=by
 exact[elem'_eq,h]\aap a
def xF(L:qW prog w A E s κ a₀ F){left:Bool}{l:Keyed}{arr:Array Keyed}{n:Nat}{G:Nat->Bool}{st:f8}{Q:Option Nat->f8->Prop}(hk:kindOf st=κ)(V:l∈a₀.toList)(D:hint<n)
  (hb:∀i,i<n->∃x,arr[base+i]?=↥x/\x∈a₀.toList/\(if left then decide (F x<F l)else !decide (F l<F x))=G i)
  (mono:∀i j,i<=j->j<n->G j=true->G i=true)
  (h:∀k,k<=n->(∀i,i<k->G i=true)->(∀i,k<=i->i<n->G i=false)->Q ↥k st):wpS (model prog w) A E s (Am left l arr base n hint) Q st:=by
 have O:∀i,i<n->∀(N:Option Bool->f8->Prop),N ↥(G i) st->wpS (model prog w) A E s (do let x <- elem' arr (base+i);if left then lt' x l else return (<- lt' l x).map (!·)) N st:=λi hi N S=>by
  ext(⟨x,r,H,q⟩:hb i hi);refine aaz (bD r ?_);rw[<- q]at S;cases left with
  |true=>exact L x l H V st N hk S
  |false=>exact aaz (L l x V H st _ hk (aap S))
 have U:∀i j,i<=j->j<n->G i=false->G j=false:=λi j cP hj e=>by
  cases e':G j with
  |false=>rfl
  |true=>rw[mono i j cP hj e']at e;cases e
 clear hb;refine aaz (O hint D _ ?_);dsimp -zeta only
 extract_lets M C W
 have fin:∀a b lo hi,Bs G n 0 lo hi->wpS (model prog w) A E s (M () a b lo hi) Q st:=by
  intro a b lo hi p;dsimp only[M];clear M;refine aaz (acL (abr (I:=λx=>GI (Bs G n x) st) (Q:=GI (λa b=>a=b/\Bs G n 0 a b) st) ?_ ?_ ⟨p⟩) ?_)
  ·rintro x c B _ X @⟨lo,hi,p⟩;dsimp only;by_cases J:lo ≥ hi
   ·exact[zac J]\aap ⟨ab5 p.le J,p.le,p.hn,acZ p.hn (aa7 _),p.t,p.f⟩
   ·rw[zab J];ext(⟨R,K⟩:OC J);generalize lo+(hi - lo) / 2=m at R K ⊢;ext(P:aam K p.hn);refine aaz (O m P _ ?_);dsimp only;cases e:G m with
    |true=>exact aap ⟨K,p.hn,aeb (aav p.m (aaC R _)),λi z=>mono i m (abH z) P e,p.f⟩
    |false=>exact aap ⟨R,abq P,aav ([-zbO]\ab6 K _) p.m,p.t,λi z T=>U m i z T e⟩
  ·rintro c B ⟨p⟩;exact⟨ab5 p.le (by have:=p.m;rw[zce]at this;left),p.le,p.hn,acZ p.hn (aa7 _),p.t,p.f⟩
  ·rintro c B ⟨rfl,p⟩;exact aap (h _ p.hn p.t p.f)
 clear_value M
 clear h;cases eh:G hint with
 |true =>
  refine br rfl ?_;ext(⟨d,rfl⟩:aba (abq D));have e:C=d:=Mv _ _
  clear_value C
  subst e;refine aaz (acL (abr (I:=λx=>GI (λg of=>g<of/\x+1<=of/\g<C/\∀i,i<=hint+g->G i=true) st)
   (Q:=GI (λg of=>g<of/\g<C/\(∀i,i<=hint+g->G i=true)/\(C<=of\/G (hint+of)=false)) st) ?_ ?_ ⟨jg,aao _,abN D,λi hi=>mono i hint hi D eh⟩) ?_)
  ·rintro x c B _ X @⟨g,of,r,H,q,u⟩;dsimp only;by_cases v:of ≥ C
   ·exact[zac v]\aap ⟨r,q,u,.inl v⟩
   ·rw[zab v];ext(hd:adF v)(Y:aaT hd hint);refine aaz (O (hint+of) Y _ ?_);dsimp only;cases e:G (hint+of)with
    |true=>exact aap ⟨by left,by left,hd,λi hi=>mono i _ hi Y e⟩
    |false=>exact aap ⟨r,q,u,.inr e⟩
  ·rintro c B ⟨r,H,q,u⟩;exact⟨r,q,u,.inl ⋯⟩
  ·rintro c B @⟨g,of,r,q,u,y⟩;refine fin _ _ _ _ ⟨aaC (JY.mpr ⟨r,q⟩) _,aaC (Nat.min_le_right _ _) _,by left,λi hi=>u i (abH hi),λi hi z=>?_⟩;ext((o|o):abR of C)
   ·rw[zaI (zcf o)]at hi;exact U _ i hi z (y.resolve_left (Xn.mpr o))
   ·rw[zbP o]at hi;exact absurd z (mn.mpr hi)
 |false =>
  refine bx aad ?_;have e:W=hint+1:=rfl
  clear_value W
  subst e;refine aaz (acL (abr (I:=λx=>GI (λg of=>g<of/\x+1<=of/\g<=hint/\G (hint - g)=false) st)
   (Q:=GI (λg of=>g<of/\g<=hint/\G (hint - g)=false/\(hint+1<=of\/(of<=hint/\G (hint - of)=true))) st) ?_ ?_ ⟨jg,aao _,aa7 _,eh⟩) ?_)
  ·rintro x c B _ X @⟨g,of,r,H,q,u⟩;dsimp only;by_cases v:of ≥ hint+1
   ·exact[zac v]\aap ⟨r,q,u,.inl v⟩
   ·rw[zab v];ext(hd:abH (adF v));refine aaz (O (hint - of) (aaV (ab7 _ _) D) _ ?_);dsimp only;cases e:G (hint - of)with
    |false=>exact aap ⟨by left,by left,hd,e⟩
    |true=>exact aap ⟨r,q,u,.inr ⟨hd,e⟩⟩
  ·rintro c B ⟨r,H,q,u⟩;exact⟨r,q,u,.inl ⋯⟩
  ·rintro c B @⟨g,of,r,q,u,y⟩;have Z:hint - g<n:=aaV (ab7 _ _) D;refine fin _ _ _ _ ⟨?_,abq Z,Nat.le_add_right_of_le (abq Z),λi hi=>?_,λi hi z=>U _ i hi z u⟩
   ·show hint+1 - min of (hint+1)<=hint - g;exact[-Nat.add_sub_add_right hint 1 g]\Nat.sub_le_sub_left (JY.mpr ⟨r,aeb q⟩) _
   ·ext((y|⟨y,h6⟩):y)
    ·rw[zbP y,zbQ]at hi;cases hi
    ·rw[zaI (Xo y),Nat.succ_sub y]at hi;exact mono i _ (abH hi) (aaV (ab7 _ _) D) h6
end
meta def R(F:Keyed->Int)(xs:Array Keyed)(i:Nat):Int:=match xs[i]? with
 |some p=>F p
 |none=>0
def fP{F:Keyed->Int}{xs a:Array Keyed}{i j:Nat}(h:xs[i]?=a[j]?):R F xs i=R F a j:=by unfold R;rw[h]
def On(F:Keyed->Int)(xs:Array Keyed)(lo hi:Nat):Prop:=∀i j,lo<=i->i<=j->j<hi->R F xs i<=R F xs j
structure SB(a₀:Array Keyed)(κ:hV)(st:f8):Prop where
 perm:(arrOf st).Perm a₀
 kind:kindOf st=κ
 failed:tt st=none
theorem SB.size{a:Array Keyed}{b:hV}{st:f8}(h:SB a b st):(arrOf st).size=a.size:=h.perm.size_eq
def SB.at{a:Array Keyed}{b:hV}{st:f8}(h:SB a b st){i:Nat}(hi:i<a.size):∃x,(arrOf st)[i]?=↥x/\x∈a.toList:=by
 have c:i<(arrOf st).size:=[h.size]\hi
 exact⟨(arrOf st)[i],aec _ i c,(io.mp h.perm).mem_iff.mp ⇑5⟩
def gp{F:Keyed->Int}{xs:Array Keyed}{i:Nat}{x:Keyed}(h:xs[i]?=↥x):R F xs i=F x:=by unfold R;rw[h]
structure Cz(a₀:Array Keyed)(κ:hV)(lo hi:Nat)(st bo:f8):Prop where
 sb:SB a₀ κ bo
 pend:d5 bo=d5 st
 out:∀i,i<lo\/hi<=i->(arrOf bo)[i]?=(arrOf st)[i]?
section
variable {a₀:Array Keyed}{κ:hV}{F:Keyed->Int}
def Cz.qH{st:f8}(h:SB a₀ κ st):Cz a₀ κ lo hi st st:=⟨h,rfl,λ_ _=>rfl⟩
theorem Cz.trans{lo hi:Nat}{st a b:f8}(h:Cz a₀ κ lo hi st a)(h':Cz a₀ κ lo hi a b):Cz a₀ κ lo hi st b:=⟨h'.sb,h'.pend.trans h.pend,λi hi=>(h'.out i hi).trans (h.out i hi)⟩
def Cz.arr{st:f8}{xs:Array Keyed}(h:SB a₀ κ st)(a:xs.Perm (arrOf st))(b:∀i,i<lo\/hi<=i->xs[i]?=(arrOf st)[i]?):Cz a₀ κ lo hi st (Wz st xs):=⟨⟨a.trans h.perm,h.kind,h.failed⟩,rfl,b⟩
def On.out{xs a:Array Keyed}(h:On F xs lo hi)(e:∀i,lo<=i->i<hi->a[i]?=xs[i]?):On F a lo hi:=λi j hi c b=>by
 exact[fP (e i hi ⋯),fP (e j ⋯ b)]\h i j hi c b
def iQ{xs:Array Keyed}{n:Nat}:On F xs lo (lo+n) ↔ ∀i j,i<=j->j<n->R F xs (lo+i)<=R F xs (lo+j) :=
 ⟨λh i j a b=>h _ _ (aaG _ _) (aaC a _) (aaT b _),λh i j hi a b=>by
  ext(⟨i,rfl⟩:aba hi)(⟨j,rfl⟩:aba (aav hi a));exact h i j (ac_ a) (abN b)⟩
def uB{xs:Array Keyed}{k l:Nat}(b:lo+k<xs.size)(a:l<=k)(i:Nat):(yay xs (lo+k) (lo+k - (lo+l)))[i]?=if i=lo+l then xs[lo+k]? else if lo+l<i/\i<=lo+k then xs[i - 1]? else xs[i]?:=by
 have e:=getElem?_bubble b (lo+k - (lo+l)) (ab7 _ _) i;rw[Nat.sub_sub_self (zbh a _)]at e;exact e
def Q3{xs:Array Keyed}{k l:Nat}(h:lo+k<xs.size)(f:l<=k)(hs:∀i j,i<=j->j<k->R F xs (lo+i)<=R F xs (lo+j))(q:∀i,i<l->R F xs (lo+i)<=R F xs (lo+k))(p:∀i,l<=i->i<k->R F xs (lo+k)<R F xs (lo+i)):On F (yay xs (lo+k) (lo+k - (lo+l))) lo (lo+(k+1)):=by
 have e:∀i,i<l->R F (yay xs (lo+k) (lo+k - (lo+l))) (lo+i)=R F xs (lo+i):=λi hi=>fP (by
  have:=aaT hi lo;rw[uB h f,zab (zbJ this),zab λz=>yb2 this z.1])
 have g:R F (yay xs (lo+k) (lo+k - (lo+l))) (lo+l)=R F xs (lo+k):=fP ⇑[uB h f,zac rfl];have n:∀i,l<=i->i<k->R F (yay xs (lo+k) (lo+k - (lo+l))) (lo+(i+1))=R F xs (lo+i):=λi hi r=>fP (by
  have:=aaT (Nat.lt_succ_of_le hi) lo;rw[uB h f,zab (zbv this),zac ⟨this,zbh r _⟩];rfl)
 generalize yay xs (lo+k) (lo+k - (lo+l))=B at e g n ⊢;refine iQ.mpr λi j b a=>?_;ext((c|rfl|c):adv j l)
 ·exact[e j c,e i (zba b c)]\hs i j b (aam c f)
 ·rw[g];ext((d|rfl):acn b)
  ·exact[e i d]\q i d
  ·exact[g]\ack _
 ·ext(⟨j,rfl⟩:abu (aaH (acU c)))(m:abH c)(a:Os a);rw[show lo+j.succ=lo+(j+1) from rfl,n j m a];ext((d|rfl|d):adv i l)
  ·exact[e i d]\hs i j (aav (abq d) m) a
  ·exact[g]\ab8 (p j m a)
  ·ext(⟨i,rfl⟩:abu (aaH (acU d)))(b:OA b);rw[show lo+i.succ=lo+(i+1) from rfl,n i (Xq d) (zba b a)];exact hs i j b a
def Zi{l r:Nat}(h:¬ l ≥ r):l<=(l+r) / 2/\(l+r) / 2<r:=by left
structure Pl(F:Keyed->Int)(xs:Array Keyed)(lo k x l r:Nat):Prop where
 le:l<=r
 rk:r<=k
 m:r+x<=k+l
 a:∀i,i<l->R F xs (lo+i)<=R F xs (lo+k)
 b:∀i,r<=i->i<k->R F xs (lo+k)<R F xs (lo+i)
def Ho{xs:Array Keyed}{i j:Nat}(a:j<=xs.size)(k:Nat):R F (yax xs i j ((j - i) / 2)) k=if i<=k/\k<j then R F xs (i+j - 1 - k)else R F xs k:=by
 have e:=yah (i:=i) a k;by_cases h:i<=k/\k<j
 ·rw[zac h]at e ⊢;exact fP e
 ·rw[zab h]at e ⊢;exact fP e
end
section
variable {prog:aG}{w:World}{A:aF}{E:aB}{s:am}{κ:hV}{a₀:Array Keyed}{F:Keyed->Int}(L:qW prog w A E s κ a₀ F)
include L
theorem jS{st:f8}{i j:Nat}{Q:Option Bool->f8->Prop}(a:SB a₀ κ st)(hi:i<a₀.size)(d:j<a₀.size)(h:Q ↥(decide (R F (arrOf st) i<R F (arrOf st) j)) st):wpS (model prog w) A E s (ltAt' i j) Q st:=by
 ext(⟨x,e1,c⟩:a.at hi)(⟨y,e2,b⟩:a.at d);rw[gp e1,gp e2]at h;rw[ltAt'_eq];refine aaz (ac6 (aaz (bD e1 (aaz (bD e2 ?_)))));exact L x y c b st Q a.kind h
theorem H_{st:f8}{n ok:Nat}{Q:Bool->f8->Prop}(hn:lo+n<=a₀.size)(S:ok<=n)(H:SB a₀ κ st)(hs:On F (arrOf st) lo (lo+ok))
  (h:∀d,Cz a₀ κ lo (lo+n) st d->On F (arrOf d) lo (lo+n)->Q true d):wpS (model prog w) A E s (binarySort' lo n ok) Q st:=by
 rw[binarySort'_eq];refine aaz (acL (abr (I:=λk c d=>c=(none,())/\Cz a₀ κ lo (lo+n) st d/\On F (arrOf d) lo (lo+min k n))
  (Q:=λc d=>c=(none,())/\Cz a₀ κ lo (lo+n) st d/\On F (arrOf d) lo (lo+n)) ?step ?fin ?init) ?post)
 case post =>
  rintro c d ⟨rfl,f,g⟩;exact aap (h d f g)
 case init =>
  refine⟨rfl,.qH H,iQ.mpr λi j J t=>?_⟩;ext(t:aam t (yam _ _))((rfl|q):Nat.eq_zero_or_pos ok)
  ·obtain rfl:j=0:=IN.mp t;ext(rfl:Nat.le_zero.mp J);exact ack _
  ·rw[Nat.max_eq_left q]at t;exact iQ.mp hs i j J t
 case fin =>
  rintro c d ⟨N,f,g⟩;refine⟨N,f,?_⟩
  rwa [ZR (Nat.le_max_right _ _)]at g
 case step =>
  clear h hs H;rintro k c d O B ⟨rfl,f,g⟩;rw[zaI (zcf B)]at g;ext(g:iQ.mp g);have D:lo+k<a₀.size:=aam (aaT B _) hn;refine aaz (acL (abr (I:=λx=>GI (Pl F (arrOf d) lo k x) d) (Q:=GI (λl r=>l=r/\Pl F (arrOf d) lo k 0 l r) d) ?istep ?ifin ⟨aa7 _,aao _,aao _,nofun,λi q G=>absurd G (mn.mpr q)⟩) ?ipost)
  case ifin =>
   rintro c M ⟨p⟩;have e:=p.m;have P:=p.le;exact⟨by left,P,p.rk,acZ p.rk (aa7 _),p.a,p.b⟩
  case istep =>
   rintro x c M _ T @⟨l,r,p⟩;dsimp only;by_cases u:l ≥ r
   ·exact[zac u]\aap ⟨ab5 p.le u,p.le,p.rk,acZ p.rk (aa7 _),p.a,p.b⟩
   ·rw[zab u];ext(⟨C,v⟩:Zi u);generalize (l+r) / 2=m at C v ⊢;ext(mk:aam v p.rk);refine aaz (jS L f.sb D (acY (aaT mk _) D) ?_);by_cases y:R F (arrOf d) (lo+k)<R F (arrOf d) (lo+m)
    ·simp only[y,decide_true,if_true];exact aap ⟨C,abq mk,aav ([-zbO]\ab6 v _) p.m,p.a,λi q G=>Int.lt_of_lt_of_le y (g m i q G)⟩
    ·simp only[y,decide_false,zaq,if_false];exact aap ⟨v,p.rk,aeb (aav p.m (aaC C _)),λi q=>abK (g i m (abH q) mk) (yr.mp y),p.b⟩
  case ipost =>
   rintro c M @⟨l,_,rfl,p⟩;show wpS _ _ _ _ (do moveDown' (lo+k) (lo+l);pure (lV (none,()))) _ _;rw[moveDown'_eq];have K:lo+k<(arrOf d).size:=[f.sb.size]\D
   refine aaz (adl (aap ⟨rfl,f.trans (.arr f.sb (bubble_perm _ _ _) λi hi=>?_),?_⟩))
   ·rw[uB K p.rk];ext((hi|hi):hi)
    ·have:=aam hi (aaG lo l);rw[zab (zbJ this),zab λz=>yb2 this z.1]
    ·have:=aam (aaT B lo) hi;rw[zab (zbv (zba (zbh p.rk _) this)),zab λz=>absurd z.2 (Xn.mpr this)]
   ·exact[zaI B]\Q3 K p.rk g p.a p.b
end
structure Wv(a₀:Array Keyed)(F:Keyed->Int):Prop where
 nd:a₀.toList.Nodup
 inj:∀x∈a₀.toList,∀y∈a₀.toList,F x=F y->x=y
def Wv.ne{a:Array Keyed}{F:Keyed->Int}{d:hV}(D:Wv a F){st:f8}(b:SB a d st){i j:Nat}(hi:i<a.size)(c:j<a.size)(h:i≠j):R F (arrOf st) i≠R F (arrOf st) j:=by
 ext(⟨x,e1,g⟩:b.at hi)(⟨y,e2,f⟩:b.at c);rw[gp e1,gp e2];intro z;ext(e:D.inj x g y f z);subst e;have nd:(arrOf st).toList.Nodup:=(io.mp b.perm).nodup_iff.mpr D.nd;have k:i<(arrOf st).toList.length:=by simpa [b.size]using hi
 have l:j<(arrOf st).toList.length:=by simpa [b.size]using c
 have a1:(arrOf st).toList[i]?=↥x:=⇑e1
 have a2:(arrOf st).toList[j]?=↥x:=⇑e2
 exact h ((List.getElem?_inj k nd).mp (a1.trans a2.symm))
def dE{p:Prop}[Decidable p](h:¬ p):¬ decide p=true:=λz=>h (aac z)
section
variable {F:Keyed->Int}{xs:Array Keyed}{lo:Nat}
def zV{y:Nat}(hs:On F xs lo (lo+(y+1)))(b:¬ R F xs (lo+(y+1))<R F xs (lo+y)):On F xs lo (lo+(y+2)):=by
 ext(hs:iQ.mp hs);refine iQ.mpr λi j a e=>?_;rcases acn (abH e)with c|rfl
 ·exact hs i j a c
 ·ext((d|rfl):acn a)
  ·exact abK (hs i y (abH d) (abc _)) (yr.mp b)
  ·exact ack _
def Ot:On F xs lo (lo+1):=iQ.mpr λi j b a=>by
 ext(rfl:IN.mp a)(rfl:Nat.le_zero.mp b);exact ack _
def Fa(F:Keyed->Int)(xs:Array Keyed)(lo n:Nat):Prop:=∀i j,i<j->j<n->R F xs (lo+j)<R F xs (lo+i)
def Ar{y:Nat}(hd:Fa F xs lo (y+1))(a:R F xs (lo+(y+1))<R F xs (lo+y)):Fa F xs lo (y+2):=λi j b e=>by
 rcases acn (abH e)with c|rfl
 ·exact hd i j b c
 ·rcases acn (abH b)with d|rfl
  ·exact Int.lt_trans a (hd i y d (abc _))
  ·exact a
def Qs{m:Nat}(hd:Fa F xs lo m)(hz:lo+m<=xs.size):On F (yax xs lo (lo+m) ((lo+m - lo) / 2)) lo (lo+m):=by
 have e:∀i,i<m->∃k,k+i+1=m/\R F (yax xs lo (lo+m) ((lo+m - lo) / 2)) (lo+i)=R F xs (lo+k):=λi hi=>by
  ext(⟨k,rfl⟩:Nat.exists_eq_add_of_lt hi);refine⟨k,by rw[zbr k i],?_⟩;rw[Ho hz,zac ⟨zaN _ _,zbx hi _⟩];congr 1;left
 refine iQ.mpr λi j c b=>?_;ext(⟨k,l,g⟩:e i (aaV c b))(⟨a,h,f⟩:e j b);rw[g,f];ext((d|rfl):acn c)
 ·exact ab8 (hd a k ⋯ ⋯)
 ·obtain rfl:k=a:=by left
  exact ack _
end
section
variable {prog:aG}{w:World}{A:aF}{E:aB}{s:am}{κ:hV}{a₀:Array Keyed}{F:Keyed->Int}(L:qW prog w A E s κ a₀ F)
include L
theorem A7(D:Wv a₀ F){st:f8}{g:Nat}{Q:Option Nat->f8->Prop}(hn:lo+g<=a₀.size)(u:1<=g)(p:SB a₀ κ st)
  (h:∀m d,Cz a₀ κ lo (lo+g) st d->1<=m->m<=g->On F (arrOf d) lo (lo+m)->Q ↥m d):wpS (model prog w) A E s (countRun' lo g) Q st:=by
 have sz:∀{i},i<g->lo+i<a₀.size:=λhi=>aam (aaT hi _) hn;rw[countRun'_eq];refine aaz (acL (abr (I:=λx c d=>st=d/\c=(none,x)/\On F (arrOf st) lo (lo+x))
  (Q:=λc d=>st=d/\∃n,c=(none,n+1)/\n+1<=g/\On F (arrOf st) lo (lo+(n+1))/\(n+1=g\/R F (arrOf st) (lo+(n+1))<R F (arrOf st) (lo+n))) ?_ ?_ ⟨rfl,rfl,Ot⟩) ?_)
 ·rintro x c d r f ⟨rfl,rfl,e⟩;ext(⟨x,rfl⟩:abu (aaH r));dsimp only;refine aaz (jS L p (sz f) (sz (abV f)) ?_);by_cases k:R F (arrOf st) (lo+(x+1))<R F (arrOf st) (lo+x)
  ·refine br (abC k) ?_;exact aap ⟨rfl,x,rfl,abq f,e,.inr k⟩
  ·refine bx (dE k) ?_;exact aap ⟨rfl,rfl,zV e k⟩
 ·rintro c d ⟨rfl,rfl,e⟩;rw[zbR u]at e ⊢;ext(⟨n,rfl⟩:abu (aaH u));exact⟨rfl,n,rfl,aao _,e,.inl rfl⟩
 rintro c d ⟨rfl,n,rfl,l,e,G⟩;dsimp only;by_cases B:n+1=g
 ·rw[zac ⇑B];exact aap (h _ st (.qH p) (aed _) l e)
 rw[zab ⇑B];ext(T:G.resolve_left B);by_cases v:n+1>1
 ·rw[zac v];refine aaz (jS L p (sz (i:=0) u) (sz l) ?_);have O:R F (arrOf st) lo<R F (arrOf st) (lo+n):=by
   ext(a:iQ.mp e 0 n (aa7 _) (abc _))(b:D.ne p (i:=lo) (j:=lo+n) (sz (i:=0) u) (sz l) (aaw (adt (Os v))));exact RT.mpr ⟨a,b⟩
  refine br (abC O) ?_;exact aap (h _ st (.qH p) (aed _) l e)
 rw[zab v];obtain rfl:n=0:=acm λz=>v (Nat.succ_lt_succ z);have l:1<g:=acp l B;refine aaz (zC (acf ⟨rfl,?_⟩));refine aaz (acL (abr (I:=λx c d=>st=d/\c=(none,x,0)/\Fa F (arrOf st) lo x)
  (Q:=λc d=>st=d/\∃m,c=(none,m,0)/\2<=m/\m<=g/\Fa F (arrOf st) lo m) ?_ ?_ ⟨rfl,rfl,Ar (y:=0) (λi j h S=>absurd (IN.mp S) (aaH (acU h))) T⟩) ?_)
 ·rintro x c d r f ⟨rfl,rfl,hd⟩;ext(⟨x,rfl⟩:abu (aaH (acU r)));dsimp only;refine aaz (jS L p (sz f) (sz (abV f)) ?_);by_cases k:R F (arrOf st) (lo+(x+1))<R F (arrOf st) (lo+x)
  ·refine br (abC k) ?_;exact[zab (Mr 0)]\aap ⟨rfl,rfl,Ar hd k⟩
  ·refine bx (dE k) ?_;refine aaz (jS L p (sz (abV f)) (sz f) ?_);have P:R F (arrOf st) (lo+x)<R F (arrOf st) (lo+(x+1)) :=
    RT.mpr ⟨yr.mp k,D.ne p (i:=lo+x) (j:=lo+(x+1)) (sz (abV f)) (sz f) (aaw (abc _))⟩
   refine br (abC P) ?_;exact aap ⟨rfl,_,rfl,r,abq f,hd⟩
 ·rintro c d ⟨rfl,rfl,hd⟩;rw[zbR l]at hd ⊢;exact⟨rfl,g,rfl,l,aao _,hd⟩
 rintro c d ⟨rfl,m,rfl,N,C,hd⟩;dsimp only;rw[zab (Mr 0)];have t:lo+m<=(arrOf st).size:=[p.size]\aav (aaC C _) hn
 refine aaz (wpS_reverse ?_);have H:Cz a₀ κ lo (lo+g) st (Wz st (yax (arrOf st) lo (lo+m) ((lo+m - lo) / 2))):=.arr p (mirror_perm _ _ _ _) λi hi=>by
  rw[yah t,zab λz=>hi.elim (λy=>absurd z.1 (Xn.mpr y)) λy=>absurd (zbk z.2 (zbh C _)) (mn.mpr y)]
 have K:On F (arrOf (Wz st (yax (arrOf st) lo (lo+m) ((lo+m - lo) / 2)))) lo (lo+m):=Qs hd t;generalize Wz st (yax (arrOf st) lo (lo+m) ((lo+m - lo) / 2))=q at H K ⊢;refine aaz (acL (abr (I:=λx c d=>q=d/\c=(none,x)/\On F (arrOf q) lo (lo+x))
  (Q:=λc d=>q=d/\∃n,c=(none,n)/\1<=n/\n<=g/\On F (arrOf q) lo (lo+n)) ?_ ?_ ⟨rfl,rfl,K⟩) ?_)
 ·rintro x c d r f ⟨rfl,rfl,e⟩;ext(J:aam (aam jg (acV N)) r)(⟨x,rfl⟩:abu (aaH J));dsimp only;refine aaz (jS L H.sb (sz f) (sz (abV f)) ?_);by_cases k:R F (arrOf q) (lo+(x+1))<R F (arrOf q) (lo+x)
  ·refine br (abC k) ?_;exact aap ⟨rfl,_,rfl,J,abq f,e⟩
  ·refine bx (dE k) ?_;exact aap ⟨rfl,rfl,zV e k⟩
 ·rintro c d ⟨rfl,rfl,e⟩;rw[zbR C]at e ⊢;exact⟨rfl,g,rfl,u,aao _,e⟩
 rintro c d ⟨rfl,n,rfl,M,l,e⟩;exact aap (h n q H M l e)
end
def Pw(F:Keyed->Int)(l:List Keyed):Prop:=l.Pairwise λx y=>F x<=F y
structure J(F:Keyed->Int)(la lb o:List Keyed)(ia ib:Nat):Prop where
 perm:(o++(la.drop ia++lb.drop ib)).Perm (la++lb)
 so:Pw F o
 xa:∀x∈o,∀y∈la.drop ia,F x<=F y
 xb:∀x∈o,∀y∈lb.drop ib,F x<=F y
def Res(F:Keyed->Int)(b a:List Keyed)(r:Array Keyed):Prop:=r.toList.Perm (b++a)/\Pw F r.toList
section
variable {F:Keyed->Int}{la lb o:List Keyed}{ia ib:Nat}
def GN(l:List Keyed)(i k:Nat):l.drop i=(l.drop i).take k++l.drop (i+k):=by
 rw[<- zcc,zbc]
def Pw.dr{l:List Keyed}(h:Pw F l)(i:Nat):Pw F (l.drop i):=h.sublist (List.drop_sublist i l)
def J.vd(H:J F la lb o ia ib)(sa:Pw F la)(k:Nat)(d:∀x∈(la.drop ia).take k,∀y∈lb.drop ib,F x<=F y):J F la lb (o++(la.drop ia).take k) (ia+k) ib:=by
 ext(e:GN la ia k)(c:sa.dr ia);rw[e]at c;ext(⟨t1,t2,t3⟩:dL.mp c);refine⟨?_,dL.mpr ⟨H.so,t1,λx a y b=>H.xa x a y (abT b)⟩,λx a y b=>?_,λx a y b=>?_⟩
 ·have:=H.perm;rw[e,zai]at this;exact[zai]\this
 ·ext((a|a):dz.mp a)
  ·exact H.xa x a y ([e]\aay _ b)
  ·exact t3 x a y b
 ·ext((a|a):dz.mp a)
  ·exact H.xb x a y b
  ·exact d x a y b
def J.vc(H:J F la lb o ia ib)(sb:Pw F lb)(k:Nat)(d:∀x∈(lb.drop ib).take k,∀y∈la.drop ia,F x<=F y):J F la lb (o++(lb.drop ib).take k) ia (ib+k):=by
 ext(e:GN lb ib k)(c:sb.dr ib);rw[e]at c;ext(⟨t1,t2,t3⟩:dL.mp c);refine⟨?_,dL.mpr ⟨H.so,t1,λx a y b=>H.xb x a y (abT b)⟩,λx a y b=>?_,λx a y b=>?_⟩
 ·have:=H.perm;rw[e]at this;exact[zai]\(ac3 o (List.perm_append_comm_assoc _ _ _)).trans this
 ·ext((a|a):dz.mp a)
  ·exact H.xa x a y b
  ·exact d x a y b
 ·ext((a|a):dz.mp a)
  ·exact H.xb x a y ([e]\aay _ b)
  ·exact t3 x a y b
def J.done(H:J F la lb o ia ib)(sa:Pw F la)(sb:Pw F lb)(a:lb.drop ib=[]\/la.drop ia=[]):(o++la.drop ia++lb.drop ib).Perm (la++lb)/\Pw F (o++la.drop ia++lb.drop ib):=by
 refine⟨[zai]\H.perm,?_⟩;ext((e|e):a)
 ·exact[e,zaw]\dL.mpr ⟨H.so,sa.dr ia,H.xa⟩
 ·exact[e,zaw]\dL.mpr ⟨H.so,sb.dr ib,H.xb⟩
def J.last(H:J F la lb o ia ib)(sa:Pw F la)(sb:Pw F lb)(c:∀y∈lb.drop ib,∀z∈la.drop ia,F y<=F z):(o++lb.drop ib++la.drop ia).Perm (la++lb)/\Pw F (o++lb.drop ib++la.drop ia):=by
 refine⟨?_,?_⟩
 ·exact[zai]\(ac3 o adR).trans H.perm
 ·refine dL.mpr ⟨dL.mpr ⟨H.so,sb.dr ib,H.xb⟩,sa.dr ia,λx a y b=>?_⟩;ext((a|a):dz.mp a)
  ·exact H.xa x a y b
  ·exact c x a y b
end
def take1{l:List Keyed}{i:Nat}{x:Keyed}(h:l[i]?=↥x):(l.drop i).take 1=[x]:=by
 obtain⟨hi,rfl⟩:=bi.mp h;rw[zax hi];rfl
def pq{l:List Keyed}{i:Nat}{y:Keyed}(h:y∈l.drop i):∃j,l[i+j]?=↥y:=by
 ext(⟨j,a⟩:g7.mp h);exact⟨j,[-oi]\a⟩
def n8{l:List Keyed}{i k:Nat}{y:Keyed}(h:y∈(l.drop i).take k):∃j,j<k/\l[i+j]?=↥y:=by
 ext(⟨j,a⟩:g7.mp h);rw[oe]at a;split at a
 ·next b=>exact⟨j,b,[-oi]\a⟩
 ·cases a
structure aL(st bo:f8):Prop where
 a:arrOf bo=arrOf st
 p:d5 bo=d5 st
 k:kindOf bo=kindOf st
 f:tt bo=tt st
def aL.qH(st:f8):aL st st:=⟨rfl,rfl,rfl,rfl⟩
theorem aL.trans{a b c:f8}(h:aL a b)(h':aL b c):aL a c:=⟨h'.a.trans h.a,h'.p.trans h.p,h'.k.trans h.k,h'.f.trans h.f⟩
def ext_toList(a:Array Keyed)(i j:Nat):(a.extract i j).toList=(a.toList.drop i).take (j - i):=by simp
def As(a:Array Keyed)(i:Nat):(a.extract i a.size).toList=a.toList.drop i:=by
 exact[ext_toList]\Mw ⇑5
meta def EO:Array Keyed->Array Keyed->StateT f8 Sem (Array Keyed):=sortPriv% PySem.Builtin.mergeLo
section
variable {F:Keyed->Int}{a b out:Array Keyed}{ia ib:Nat}
def gV{a:Array Keyed}{i:Nat}(h:i<a.size):∃x,a[i]?=↥x/\x∈a.toList:=⟨a[i],aec a i h,by simp⟩
def xO{a:Array Keyed}{i:Nat}{x:Keyed}(h:a[i]?=↥x):a.toList[i]?=↥x:=⇑h
def BB{a:Array Keyed}{i:Nat}{x:Keyed}(h:a.toList[i]?=↥x):a[i]?=↥x:=⇑h
def Pw.ix(sa:Pw F a.toList){i j:Nat}{x y:Keyed}(f:i<=j)(d:a[i]?=↥x)(c:a[j]?=↥y):F x<=F y:=by
 obtain⟨hi,rfl⟩:=bi.mp (xO d);obtain⟨e,rfl⟩:=bi.mp (xO c);ext((h|h):abR i j)
 ·exact gr.mp sa i j hi e h
 ·have:i=j:=by left
  subst this;exact ack _
def Pw.hd(sa:Pw F a.toList){i:Nat}{x:Keyed}(d:a[i]?=↥x):∀z∈a.toList.drop i,F x<=F z:=λz c=>by
 ext(⟨j,e⟩:pq c);exact sa.ix ⋯ d (BB e)
def DW(H:J F a.toList b.toList out.toList ia ib)(sa:Pw F a.toList)(sb:Pw F b.toList)(c:b.size<=ib\/a.size<=ia):Res F a.toList b.toList (out++a.extract ia a.size++b.extract ib b.size):=by
 unfold Res;simp only[zaB,As];exact H.done sa sb (c.imp (λh=>adz ⇑h) λh=>adz ⇑h)
def IV(H:J F a.toList b.toList out.toList ia ib)(sa:Pw F a.toList)(sb:Pw F b.toList)(e:ia+1=a.size)(g:∀y∈b.toList,∀z,a[a.size - 1]?=↥z->F y<=F z):Res F a.toList b.toList (out++b.extract ib b.size++a.extract ia a.size):=by
 unfold Res;simp only[zaB,As];refine H.last sa sb λy f z d=>?_;ext(⟨j,c⟩:pq d);have h:ia+j<a.size:=by
  obtain⟨hi,_⟩:=bi.mp c;simpa using hi
 have:ia+j=a.size - 1:=by left
 rw[this]at c;exact g y (ac5 f) z (BB c)
def J.Ts(H:J F a.toList b.toList out.toList ia ib)(sb:Pw F b.toList){y:Keyed}(c:b[ib]?=↥y)(f:∀z∈a.toList.drop ia,F y<=F z):J F a.toList b.toList (out.push y).toList ia (ib+1):=by
 have:=H.vc sb 1 λx d z e=>by
  rw[take1 (xO c),zaO]at d;subst d;exact f z e
 rw[take1 (xO c)]at this;exact[zaK]\this
def J.WU(H:J F a.toList b.toList out.toList ia ib)(sa:Pw F a.toList){x:Keyed}(d:a[ia]?=↥x)(f:∀z∈b.toList.drop ib,F x<=F z):J F a.toList b.toList (out.push x).toList (ia+1) ib:=by
 have:=H.vd sa 1 λy c z e=>by
  rw[take1 (xO d),zaO]at c;subst c;exact f z e
 rw[take1 (xO d)]at this;exact[zaK]\this
def J.exA(H:J F a.toList b.toList out.toList ia ib)(sa:Pw F a.toList)(k:Nat)(g:∀i x,i<k->a[ia+i]?=↥x->∀z∈b.toList.drop ib,F x<=F z):J F a.toList b.toList (out++a.extract ia (ia+k)).toList (ia+k) ib:=by
 rw[zaB,ext_toList,show ia+k - ia=k by left];exact H.vd sa k λx d z c=>by
  ext(⟨j,f,e⟩:n8 d);exact g j x f (BB e) z c
def J.exB(H:J F a.toList b.toList out.toList ia ib)(sb:Pw F b.toList)(k:Nat)(g:∀i x,i<k->b[ib+i]?=↥x->∀z∈a.toList.drop ia,F x<=F z):J F a.toList b.toList (out++b.extract ib (ib+k)).toList ia (ib+k):=by
 rw[zaB,ext_toList,show ib+k - ib=k by left];exact H.vc sb k λx d z c=>by
  ext(⟨j,f,e⟩:n8 d);exact g j x f (BB e) z c
end
section
variable {prog:aG}{w:World}{A:aF}{E:aB}{s:am}{κ:hV}{a₀:Array Keyed}{F:Keyed->Int}(L:qW prog w A E s κ a₀ F)
include L
theorem fS{left:Bool}{a:Keyed}{arr:Array Keyed}{n:Nat}{st:f8}{Q:Option Nat->f8->Prop}(l:kindOf st=κ)(f:a∈a₀.toList)(p:hint<n)(hn:base+n<=arr.size)(g:∀i x,base<=i->i<base+n->arr[i]?=↥x->x∈a₀.toList)
  (hs:∀i j x y,base<=i->i<=j->j<base+n->arr[i]?=↥x->arr[j]?=↥y->F x<=F y)
  (h:∀k,k<=n->(∀i x,i<k->arr[base+i]?=↥x->if left then F x<F a else F x<=F a)->(∀i x,k<=i->i<n->arr[base+i]?=↥x->if left then F a<=F x else F a<F x)->Q ↥k st):wpS (model prog w) A E s (Am left a arr base n hint) Q st:=by
 have c:∀i,i<n->∃x,arr[base+i]?=↥x:=λi hi=>⟨arr[base+i]'⋯,aec _ _ _⟩
 refine xF L (G:=λi=>if left then decide (R F arr (base+i)<F a)else !decide (F a<R F arr (base+i))) l f p (λi hi=>?_) (λi j v m e=>?_) λk u r q=>h k u (λi x hi b=>?_) λi x hi t b=>?_
 ·ext(⟨x,b⟩:c i hi);exact⟨x,b,g _ x ⋯ ⋯ b,by rw[gp b]⟩
 ·ext(⟨x,b⟩:c i ⋯)(⟨y,d⟩:c j m);have:=hs _ _ x y ⋯ ⋯ ⋯ b d;rw[gp d]at e;rw[gp b];cases left<;>simp at e ⊢ <;> left
 ·ext(e:r i hi);rw[gp b]at e;cases left<;>simp at e ⊢ <;> left
 ·ext(e:q i hi t);rw[gp b]at e;cases left<;>simp at e ⊢ <;> left
end
structure Mg(F:Keyed->Int)(a₀ a b:Array Keyed):Prop where
 ma:∀x∈a.toList,x∈a₀.toList
 mb:∀x∈b.toList,x∈a₀.toList
 sa:Pw F a.toList
 sb:Pw F b.toList
 ha:1<=a.size
 hb:1<=b.size
 h0:∀y,b[0]?=↥y->∀x∈a.toList,F y<=F x
 hl:∀y∈b.toList,∀z,a[a.size - 1]?=↥z->F y<=F z
inductive GG{R X Y Z β:Type}(P:X->Y->Z->Prop)(st:f8):Option R×X×Y×Z×β->f8->Prop
 |mk {x:X} {y:Y} {z:Z} {g:β} {bo:f8} (S:aL st bo) (p:P x y z):GG P st (none,x,y,z,g) bo
inductive GF{R X Y Z β:Type}(P:R->Prop)(st:f8):Option R×X×Y×Z×β->f8->Prop
 |mk {r:R} {x:X} {y:Y} {z:Z} {g:β} {bo:f8} (S:aL st bo) (p:P r):GF P st (↥r,x,y,z,g) bo
structure Lo(F:Keyed->Int)(a b:Array Keyed)(n:Nat)(o:Array Keyed)(ia ib:Nat):Prop where
 j:J F a.toList b.toList o.toList ia ib
 a:ia+1<a.size
 b:ib<b.size
 n:n<=ia+ib
meta def SX:Nat->StateT f8 Sem Unit:=sortPriv% PySem.Builtin.setMinGallop
section
variable {prog:aG}{w:World}{A:aF}{E:aB}{s:am}{κ:hV}{a₀:Array Keyed}{F:Keyed->Int}(L:qW prog w A E s κ a₀ F)
include L
omit L in
theorem lA{g:Nat}{st:f8}{Q:Unit->f8->Prop}(h:∀a,aL st a->Q () a):wpS (model prog w) A E s (SX g) Q st:=by
 exact adl (h _ ⟨rfl,rfl,rfl,rfl⟩)
theorem M7{a b:Array Keyed}{st:f8}{Q:Array Keyed->f8->Prop}(hk:kindOf st=κ)(M:Mg F a₀ a b)(h:∀r B,aL st B->Res F a.toList b.toList r->Q r B):wpS (model prog w) A E s (EO a b) Q st:=by
 ext(⟨ma,mb,sa,sb,ha,hb,h0,hl⟩:M)(⟨R,H,Jx⟩:gV (a:=b) (i:=0) hb);have J0:J F a.toList b.toList (#[]:Array Keyed).toList 0 0:=⟨by simp,.nil,(λ_ h=>nomatch h),(λ_ h=>nomatch h)⟩
 ext(J1:J0.Ts sb H λz f=>h0 R H z ⇑f);refine b8 (λ_ h=>zC (acf ⟨rfl,h⟩)) ?_;refine b8 (λ_=>bD H) ?_;dsimp -zeta only;by_cases e1:1=b.size
 ·refine br ⇑e1 ?_;exact aap (h _ st (.qH st) (DW J1 sa sb (.inl ⋯)))
 refine bx ⇑e1 ?_;by_cases e2:0+1=a.size
 ·refine br ⇑e2 ?_;exact aap (h _ st (.qH st) (IV J1 sa sb e2 hl))
 refine bx ⇑e2 ?_;have P0:Lo F a b 1 _ 0 1:=⟨J1,by left,by left,by left⟩
 clear J0 J1 H Jx ha hb h0 e1 e2;refine b8 (λ_=>ac6) ?_;refine mi (abr (I:=λx=>GG (Lo F a b (x+1)) st) (Q:=GF (Res F a.toList b.toList) st) ?step ?fin ⟨.qH st,P0⟩) ?post
 case fin =>
  rintro c B ⟨S,p⟩;have:=p.a;have:=p.b;have:=p.n;left
 case post =>
  rintro c B ⟨S,hr⟩;exact aap (h _ B S hr)
 case step =>
  rintro x c kK _ JU ⟨m,P1⟩;clear h JU;dsimp -zeta only;refine mi (abr (I:=λx'=>GG (Lo F a b (x+1+x')) st) (Q:=λc B=>GF (Res F a.toList b.toList) st c B\/GG (Lo F a b (x+2)) st c B) ?_ ?_ ⟨m,P1⟩) ?_
  ·rintro x' c kK _ xw @⟨_,i,j,_,_,m,X,q,e,O⟩;dsimp only;ext(⟨y,hy,my⟩:gV e)(⟨z,f,mz⟩:gV (abV q));refine b8 (λ_=>bD hy) (b8 (λ_=>bD f) (b8 (λ_=>L y z (mb y my) (ma z mz) kK _ (m.k.trans hk)) ?_));by_cases W:F y<F z
   ·refine br (abC W) ?_;ext(D:X.Ts sb hy λv hv=>abK (ab8 W) (sa.hd f v hv));refine b8 (λ_=>bD hy) ?_;clear W hy f my mz X;by_cases K:j+1=b.size
    ·refine br ⇑K ?_;exact aap (.inl ⟨m,DW D sa sb (.inl (acX K.symm))⟩)
    refine bx ⇑K ?_;have G:j+1<b.size:=acp e K;exact jT (λ_=>aap (.inr ⟨m,D,q,G,by left⟩)) (λ_=>aap ⟨m,D,q,G,by left⟩)
   ·refine bx ⇑W ?_;ext(D:X.WU sa f λv hv=>abK (yr.mp W) (sb.hd hy v hv));refine b8 (λ_=>bD f) ?_;clear W hy f my mz X;by_cases N:i+1+1=a.size
    ·refine br ⇑N ?_;exact aap (.inl ⟨m,IV D sa sb N hl⟩)
    refine bx ⇑N ?_;have G:i+1+1<a.size:=acp q N;exact jT (λ_=>aap (.inr ⟨m,D,G,e,by left⟩)) (λ_=>aap ⟨m,D,G,e,by left⟩)
  ·rintro c B ⟨S,p,pa,pb,pn⟩;exact .inr ⟨S,p,pa,pb,by left⟩
  clear m P1;rintro c B (⟨m,hr⟩|⟨m,P1⟩)
  ·exact aap ⟨m,hr⟩
  dsimp -zeta only;refine b8 (λ_ h=>zC (acf ⟨rfl,h⟩)) ?_;refine mi (abr (I:=λ_=>GG (Lo F a b (x+2)) st) (Q:=λc B=>GF (Res F a.toList b.toList) st c B\/GG (Lo F a b (x+2)) st c B) ?_ ?_ ⟨m,P1⟩) ?_
  ·generalize x+2=lw;clear P1 m;rintro x' c kK _ xw @⟨o0,i0,j0,⟨g0,ac0,bc0⟩,_,m,X,q,e,O⟩;clear xw;dsimp -zeta only
   extract_lets -underBinder s0 out s1 u s2 l s3 g s4 ac bc U g9
   obtain⟨q1,q2,q3,q4⟩:out=o0/\u=i0/\l=j0/\g=g0:=⟨rfl,rfl,rfl,rfl⟩
   clear_value out u l g ac bc
   clear s0 s1 s2 s3 s4;subst q1 q2 q3 q4;apply yG
   ·intro d;by_cases hg:g>1
    ·refine br hg ?_
     clear_value g9
     revert g9
     exact d
    ·refine bx hg ?_;generalize g=z
     revert z
     exact d
   intro g;dsimp -zeta only[U];clear g9 U;refine C7 (λ_=>lA) λxT S3=>?_;ext(P:m.trans S3);clear S3 m;ext(⟨R,H,Jx⟩:gV e);refine b8 (λ_=>bD H) ?_;refine sG (λ_=>fS L (P.k.trans hk) (mb R Jx) (adw (abV q)) ⋯ (λi z _ _ f=>ma z ⇑(lf (xO f))) (λi j z z' _ cP _ f Y=>sa.ix cP f Y)) λk Po g1 g2=>?_;dsimp -zeta only
   extract_lets -underBinder ac2 U o9 i9
   obtain⟨q1,q2⟩:o9=out++a.extract u (u+k)/\i9=u+k:=⟨rfl,rfl⟩
   clear_value o9 i9
   subst q1 q2;simp only[zaq,if_false]at g1 g2;ext(Lg:X.exA sa k λi z hi f z' Y=>abK (g1 i z hi f) (sb.hd H z' Y));have Pb:∀z∈a.toList.drop (u+k),F R<=F z:=λz f=>by
    ext(⟨j,G⟩:pq f);have W:u+k+j<a.size:=by
     obtain⟨hi,_⟩:=bi.mp G;simpa using hi
    exact ab8 (g2 (k+j) z (aaG _ _) (by clear O e Po;left) ([-zaG]\BB G))
   clear g1 g2;apply yG
   ·intro d;by_cases Z:k>0
    ·refine br Z ?_;by_cases Kn:u+k+1=a.size
     ·refine br (by clear d;simpa using Kn) ?_;exact aap (.inl ⟨P,IV Lg sa sb Kn hl⟩)
     refine bx (by clear d;simpa using Kn) ?_;by_cases ea1:u+k=a.size
     ·refine br (by clear d;simpa using ea1) ?_;exact aap (.inl ⟨P,DW Lg sa sb (.inr (acX ea1.symm))⟩)
     refine bx (by clear d;simpa using ea1) ?_;have p:Lo F a b lw _ (u+k) l:=⟨Lg,by clear d;left,e,by clear d;left⟩
     have t:=Pb;generalize out++a.extract u (u+k)=T at p ⊢;generalize u+k=V at p t ⊢
     revert t
     revert p
     revert V
     revert T
     exact d
    ·refine bx Z ?_;obtain rfl:k=0:=acm Z;have p:Lo F a b lw out u l:=⟨X,q,e,O⟩
     have t:=Pb;rw[zbS]at t;generalize out=T at p ⊢;generalize u=V at p t ⊢
     revert t
     revert p
     revert V
     revert T
     exact d
   clear X q e O Lg Pb Po;intro T V ⟨J1,q,e,O⟩ t;dsimp -zeta only[U];clear U;ext(D:J1.Ts sb H t);refine b8 (λ_=>bD H) ?_
   extract_lets -underBinder o3 j3
   obtain⟨q1,q2⟩:o3=T.push R/\j3=l+1:=⟨rfl,rfl⟩
   clear_value o3 j3
   subst q1 q2;clear t J1;by_cases K:l+1=b.size
   ·refine br ⇑K ?_;exact aap (.inl ⟨P,DW D sa sb (.inl (acX K.symm))⟩)
   refine bx ⇑K ?_;have Pq:l+1<b.size:=acp e K;clear K e H Jx;ext(⟨x,wc,mx⟩:gV (abV q));refine b8 (λ_=>bD wc) ?_;refine sG (λ_=>fS L (P.k.trans hk) (ma x mx) (adw Pq) ⋯ (λi z _ _ f=>mb z ⇑(lf (xO f))) (λi j z z' _ cP _ f Y=>sb.ix cP f Y)) λC Ah g1 g2=>?_;dsimp -zeta only
   extract_lets -underBinder bc2 U o9 j9
   obtain⟨q1,q2⟩:o9=T.push R++b.extract (l+1) (l+1+C)/\j9=l+1+C:=⟨rfl,rfl⟩
   clear_value o9 j9
   subst q1 q2;simp only[if_true]at g1 g2;ext(J3:D.exB sb C λi z hi f z' Y=>abK (ab8 (g1 i z hi f)) (sa.hd wc z' Y));have RC:∀z∈b.toList.drop (l+1+C),F x<=F z:=λz f=>by
    ext(⟨j,G⟩:pq f);have W:l+1+C+j<b.size:=by
     obtain⟨hi,_⟩:=bi.mp G;simpa using hi
    exact g2 (C+j) z (aaG _ _) (by clear O q Ah;left) ([-zaG]\BB G)
   clear g1 g2;apply yG
   ·intro d;by_cases Z:C>0
    ·refine br Z ?_;by_cases QC:l+1+C=b.size
     ·refine br (by clear d;simpa using QC) ?_;exact aap (.inl ⟨P,DW J3 sa sb (.inl (acX QC.symm))⟩)
     refine bx (by clear d;simpa using QC) ?_;have p:Lo F a b lw _ V (l+1+C):=⟨J3,q,by clear d;left,by clear d;left⟩
     have t:=RC;generalize T.push R++b.extract (l+1) (l+1+C)=o2 at p ⊢;generalize l+1+C=j2 at p t ⊢
     revert t
     revert p
     revert j2
     revert o2
     exact d
    ·refine bx Z ?_;obtain rfl:C=0:=acm Z;have p:Lo F a b lw _ V (l+1):=⟨D,q,Pq,acT O⟩
     have t:=RC;rw[zbS]at t;generalize T.push R=o2 at p ⊢;generalize l+1=j2 at p t ⊢
     revert t
     revert p
     revert j2
     revert o2
     exact d
   clear D J3 RC Ah Pq O q;intro o2 j2 ⟨J3,q,e,O⟩ RC;dsimp only[U];clear U;ext(J4:J3.WU sa wc RC);refine b8 (λ_=>bD wc) ?_;clear RC J3 wc;by_cases N:V+1+1=a.size
   ·refine br ⇑N ?_;exact aap (.inl ⟨P,IV J4 sa sb N hl⟩)
   refine bx ⇑N ?_;have p:Lo F a b lw _ (V+1) j2:=⟨J4,acp q N,e,by clear N q e;left⟩
   exact jT (λ_=>aap (.inr ⟨P,p⟩)) (λ_=>aap ⟨P,p⟩)
  ·rintro c B ⟨S,p⟩;exact .inr ⟨S,p⟩
  rintro c B (⟨S,hr⟩|⟨S,p⟩)
  ·exact aap ⟨S,hr⟩
  ·dsimp only;exact aaz (lA λxT S3=>aap ⟨S.trans S3,p⟩)
end
meta def ER:Array Keyed->Array Keyed->StateT f8 Sem (Array Keyed):=sortPriv% PySem.Builtin.mergeHi
structure H(F:Keyed->Int)(la lb o:List Keyed)(na nb:Nat):Prop where
 perm:((la.take na++lb.take nb)++o.reverse).Perm (la++lb)
 so:Pw F o.reverse
 xa:∀x∈o,∀y∈la.take na,F y<=F x
 xb:∀x∈o,∀y∈lb.take nb,F y<=F x
section
variable {F:Keyed->Int}{la lb o:List Keyed}{na nb m:Nat}
def Lr(l:List Keyed){m n:Nat}(h:m<=n):l.take n=l.take m++(l.take n).drop m:=by
 have:=sd m (l.take n);rw[yao,zaI h]at this;exact this.symm
def Pw.tk{l:List Keyed}(h:Pw F l)(i:Nat):Pw F (l.take i):=h.sublist (ad_ i l)
def H.vd(H:H F la lb o na nb)(sa:Pw F la)(d:m<=na)(f:∀x∈(la.take na).drop m,∀y∈lb.take nb,F y<=F x):TS.H F la lb (o++((la.take na).drop m).reverse) m nb:=by
 ext(e:Lr la d)(c:sa.tk na);rw[e]at c;ext(⟨t1,t2,t3⟩:dL.mp c);refine⟨?_,?_,λx a y b=>?_,λx a y b=>?_⟩
 ·have:=H.perm;rw[e]at this;rw[zbi,zbe];refine PQ ?_ this;generalize (la.take na).drop m=T;rw[<- zai];refine adA _ ?_;exact[zai,zai]\ac3 _ adR
 ·exact[zbi,zbe]\dL.mpr ⟨t2,H.so,λx a y b=>H.xa y (hD.mp b) x (ac5 a)⟩
 ·ext((a|a):dz.mp a)
  ·exact H.xa x a y ([e]\aa4 _ b)
  ·exact t3 y b x (hD.mp a)
 ·ext((a|a):dz.mp a)
  ·exact H.xb x a y b
  ·exact f x (hD.mp a) y b
def H.vc(H:H F la lb o na nb)(sb:Pw F lb)(d:m<=nb)(f:∀x∈(lb.take nb).drop m,∀y∈la.take na,F y<=F x):TS.H F la lb (o++((lb.take nb).drop m).reverse) na m:=by
 ext(e:Lr lb d)(c:sb.tk nb);rw[e]at c;ext(⟨t1,t2,t3⟩:dL.mp c);refine⟨?_,?_,λx a y b=>?_,λx a y b=>?_⟩
 ·have:=H.perm;rw[e]at this;rw[zbi,zbe];refine PQ ?_ this;simp only[zai];exact .refl _
 ·exact[zbi,zbe]\dL.mpr ⟨t2,H.so,λx a y b=>H.xb y (hD.mp b) x (ac5 a)⟩
 ·ext((a|a):dz.mp a)
  ·exact H.xa x a y b
  ·exact f x (hD.mp a) y b
 ·ext((a|a):dz.mp a)
  ·exact H.xb x a y ([e]\aa4 _ b)
  ·exact t3 y b x (hD.mp a)
def H.done(H:H F la lb o na nb)(sa:Pw F la)(sb:Pw F lb)(c:na=0\/nb=0):(la.take na++lb.take nb++o.reverse).Perm (la++lb)/\Pw F (la.take na++lb.take nb++o.reverse):=by
 refine⟨H.perm,?_⟩;ext((rfl|rfl):c)
 ·exact[zby,zaz]\dL.mpr ⟨sb.tk nb,H.so,λx b y a=>H.xb y (hD.mp a) x b⟩
 ·exact[zby,zaw]\dL.mpr ⟨sa.tk na,H.so,λx b y a=>H.xa y (hD.mp a) x b⟩
def H.first(H:H F la lb o na nb)(sa:Pw F la)(sb:Pw F lb)(c:∀y∈lb.take nb,∀z∈la.take na,F y<=F z):(lb.take nb++la.take na++o.reverse).Perm (la++lb)/\Pw F (lb.take nb++la.take na++o.reverse):=by
 refine⟨(adA _ adR).trans H.perm,?_⟩;refine dL.mpr ⟨dL.mpr ⟨sb.tk nb,sa.tk na,c⟩,H.so,λx a y b=>?_⟩;ext((a|a):dz.mp a)
 ·exact H.xb y (hD.mp b) x a
 ·exact H.xa y (hD.mp b) x a
end
def tM{l:List Keyed}{n:Nat}{y:Keyed}(h:y∈l.take n):∃j,j<n/\l[j]?=↥y:=by
 have:=n8 (l:=l) (i:=0) (k:=n) (y:=y) ⇑h;ext(⟨j,a,e⟩:this);exact⟨j,a,⇑e⟩
def ES{l:List Keyed}{m n:Nat}{y:Keyed}(h:y∈(l.take n).drop m):∃j,m<=j/\j<n/\l[j]?=↥y:=by
 ext(⟨j,a⟩:pq h);rw[oe]at a;split at a
 ·next b=>exact⟨m+j,by left,b,a⟩
 ·cases a
def WG{l:List Keyed}{i:Nat}{x:Keyed}(h:l[i]?=↥x):(l.take (i+1)).drop i=[x]:=by
 obtain⟨hi,rfl⟩:=bi.mp h;rw[List.take_succ_eq_append_getElem hi,List.drop_append];simp;rw[zaI ⋯,zbQ];rfl
section
variable {F:Keyed->Int}{a b out:Array Keyed}{na nb:Nat}
def VG(a:Array Keyed)(n:Nat):(a.extract 0 n).toList=a.toList.take n:=by rw[ext_toList];simp
def US(K:H F a.toList b.toList out.toList na nb)(sa:Pw F a.toList)(sb:Pw F b.toList)(c:na=0\/nb=0):Res F a.toList b.toList (a.extract 0 na++b.extract 0 nb++out.reverse):=by
 unfold Res;simp only[zaB,VG,zbw];exact K.done sa sb c
def Xp(K:H F a.toList b.toList out.toList na nb)(sa:Pw F a.toList)(sb:Pw F b.toList)(e:nb=1)(f:∀y,b[0]?=↥y->∀x∈a.toList,F y<=F x):Res F a.toList b.toList (b.extract 0 nb++a.extract 0 na++out.reverse):=by
 unfold Res;simp only[zaB,VG,zbw];refine K.first sa sb λy d z c=>?_;ext(⟨j,h,g⟩:tM d);have:j=0:=by left
 subst this;exact f y (BB g) z (abT c)
def H.WU(K:H F a.toList b.toList out.toList (na+1) nb)(sa:Pw F a.toList){x:Keyed}(d:a[na]?=↥x)(f:∀z∈b.toList.take nb,F z<=F x):H F a.toList b.toList (out.push x).toList na nb:=by
 have:=K.vd sa (show na<=na+1 by left) λy c z e=>by
  rw[WG (xO d),zaO]at c;subst c;exact f z e
 rw[WG (xO d)]at this;exact[zaK]\this
def H.Ts(K:H F a.toList b.toList out.toList na (nb+1))(sb:Pw F b.toList){y:Keyed}(c:b[nb]?=↥y)(f:∀z∈a.toList.take na,F z<=F y):H F a.toList b.toList (out.push y).toList na nb:=by
 have:=K.vc sb (show nb<=nb+1 by left) λx d z e=>by
  rw[WG (xO c),zaO]at d;subst d;exact f z e
 rw[WG (xO c)]at this;exact[zaK]\this
def Gb(a:Array Keyed)(m n:Nat):((a.extract m n).reverse).toList=((a.toList.take n).drop m).reverse:=by
 rw[zbw,ext_toList,List.drop_take]
def H.exA(K:H F a.toList b.toList out.toList na nb)(sa:Pw F a.toList){m:Nat}(f:m<=na)(g:∀i x,m<=i->i<na->a[i]?=↥x->∀z∈b.toList.take nb,F z<=F x):H F a.toList b.toList (out++(a.extract m na).reverse).toList m nb:=by
 rw[zaB,Gb];exact K.vd sa f λx d z c=>by
  ext(⟨j,k,h,e⟩:ES d);exact g j x k h (BB e) z c
def H.exB(K:H F a.toList b.toList out.toList na nb)(sb:Pw F b.toList){m:Nat}(f:m<=nb)(g:∀i x,m<=i->i<nb->b[i]?=↥x->∀z∈a.toList.take na,F z<=F x):H F a.toList b.toList (out++(b.extract m nb).reverse).toList na m:=by
 rw[zaB,Gb];exact K.vc sb f λx d z c=>by
  ext(⟨j,k,h,e⟩:ES d);exact g j x k h (BB e) z c
def Pw.tl(sa:Pw F a.toList){n:Nat}{x:Keyed}(d:a[n]?=↥x):∀z∈a.toList.take (n+1),F z<=F x:=λz c=>by
 ext(⟨j,f,e⟩:tM c);exact sa.ix ⋯ (BB e) d
def H.pA(K:H F a.toList b.toList out.toList na nb)(sa:Pw F a.toList){x:Keyed}(e:1<=na)(c:a[na - 1]?=↥x)(d:∀z∈b.toList.take nb,F z<=F x):H F a.toList b.toList (out.push x).toList (na - 1) nb:=by
 obtain⟨n,rfl⟩:∃n,na=n+1:=⟨na - 1,by left⟩
 exact K.WU sa c d
def H.pB(K:H F a.toList b.toList out.toList na nb)(sb:Pw F b.toList){y:Keyed}(e:1<=nb)(c:b[nb - 1]?=↥y)(d:∀z∈a.toList.take na,F z<=F y):H F a.toList b.toList (out.push y).toList na (nb - 1):=by
 obtain⟨n,rfl⟩:∃n,nb=n+1:=⟨nb - 1,by left⟩
 exact K.Ts sb c d
def Pw.WE(sa:Pw F a.toList){n:Nat}{x:Keyed}(d:1<=n)(c:a[n - 1]?=↥x):∀z∈a.toList.take n,F z<=F x:=by
 obtain⟨n,rfl⟩:∃m,n=m+1:=⟨n - 1,by left⟩
 exact sa.tl c
end
structure Hi(F:Keyed->Int)(a b:Array Keyed)(n:Nat)(na nb:Nat)(o:Array Keyed):Prop where
 j:H F a.toList b.toList o.toList na nb
 a1:1<=na
 b2:2<=nb
 za:na<=a.size
 zb:nb<=b.size
 m:n+na+nb<=a.size+b.size
def Hi.le{F:Keyed->Int}{a b:Array Keyed}{n m:Nat}{o:Array Keyed}(p:Hi F a b n na nb o)(h:m<=n):Hi F a b m na nb o:=⟨p.j,p.a1,p.b2,p.za,p.zb,aav (ab6 (ab6 h _) _) p.m⟩
section
variable {prog:aG}{w:World}{A:aF}{E:aB}{s:am}{κ:hV}{a₀:Array Keyed}{F:Keyed->Int}(L:qW prog w A E s κ a₀ F)
include L
theorem M8{a b:Array Keyed}{st:f8}{Q:Array Keyed->f8->Prop}(hk:kindOf st=κ)(M:Mg F a₀ a b)(h:∀r B,aL st B->Res F a.toList b.toList r->Q r B):wpS (model prog w) A E s (ER a b) Q st:=by
 ext(⟨ma,mb,sa,sb,ha,hb,h0,hl⟩:M)(⟨x0,K,mx0⟩:gV (a:=a) (i:=a.size - 1) (acQ ha jg));have J0:H F a.toList b.toList (#[]:Array Keyed).toList a.size b.size:=⟨by simp[Mw],.nil,(λ_ h=>nomatch h),(λ_ h=>nomatch h)⟩
 ext(J1:J0.pA sa ha K λz f=>hl z (abT f) x0 K);refine b8 (λ_ h=>zC (acf ⟨rfl,h⟩)) ?_;refine b8 (λ_=>bD K) ?_;dsimp -zeta only;by_cases e1:a.size - 1=0
 ·refine br ⇑e1 ?_;exact aap (h _ st (.qH st) (US J1 sa sb (.inl e1)))
 refine bx ⇑e1 ?_;by_cases e2:b.size=1
 ·refine br ⇑e2 ?_;exact aap (h _ st (.qH st) (Xp J1 sa sb e2 h0))
 refine bx ⇑e2 ?_;have P0:Hi F a b 1 (a.size - 1) b.size _:=⟨J1,acq e1,acp hb (acW e2),ab7 _ _,aao _,by left⟩
 clear J0 J1 K mx0 ha hb hl e1 e2;refine b8 (λ_=>ac6) ?_;refine mi (abr (I:=λx=>GG (Hi F a b (x+1)) st) (Q:=GF (Res F a.toList b.toList) st) ?step ?fin ⟨.qH st,P0⟩) ?post
 case fin =>
  rintro c B ⟨S,_,p1,p2,p3,p4,p5⟩;left
 case post =>
  rintro c B ⟨S,hr⟩;exact aap (h _ B S hr)
 case step =>
  rintro x c kK _ JU ⟨n,P1⟩;clear h JU P0;dsimp -zeta only;refine mi (abr (I:=λx'=>GG (Hi F a b (x+1+x')) st) (Q:=λc B=>GF (Res F a.toList b.toList) st c B\/GG (Hi F a b (x+2)) st c B) ?_ ?_ ⟨n,P1⟩) ?_
  ·rintro x' c kK _ xw @⟨i,j,_,_,_,n,V,t,u,l,m,D⟩;dsimp only;ext(⟨y,hy,my⟩:gV (aam (acQ (aam aef u) jg) m))(⟨z,f,mz⟩:gV (aam (acQ t jg) l));refine b8 (λ_=>bD hy) (b8 (λ_=>bD f) (b8 (λ_=>L y z (mb y my) (ma z mz) kK _ (n.k.trans hk)) ?_));by_cases dg:F y<F z
   ·refine br (abC dg) ?_;ext(J:V.pA sa t f λv hv=>abK (sb.WE (acV u) hy v hv) (ab8 dg));refine b8 (λ_=>bD f) ?_;clear dg hy f my mz V;by_cases N:i - 1=0
    ·refine br ⇑N ?_;exact aap (.inl ⟨n,US J sa sb (.inl N)⟩)
    refine bx ⇑N ?_;have p:Hi F a b (x+1+(x'+1)) (i - 1) j _:=⟨J,acq N,u,aav (ab7 _ _) l,m,by clear l m N;left⟩
    exact jT (λ_=>aap (.inr ⟨n,p.le (by clear p D;left)⟩)) (λ_=>aap ⟨n,p⟩)
   ·refine bx ⇑dg ?_;ext(J:V.pB sb (acV u) hy λv hv=>abK (sa.WE t f v hv) (yr.mp dg));refine b8 (λ_=>bD hy) ?_;clear dg hy f my mz V;by_cases P:j - 1=1
    ·refine br ⇑P ?_;exact aap (.inl ⟨n,Xp J sa sb P h0⟩)
    refine bx ⇑P ?_;have p:Hi F a b (x+1+(x'+1)) i (j - 1) _:=⟨J,t,by clear l m D;left,l,aav (ab7 _ _) m,by clear l m P;left⟩
    exact jT (λ_=>aap (.inr ⟨n,p.le (by clear p D;left)⟩)) (λ_=>aap ⟨n,p⟩)
  ·rintro c B ⟨S,p⟩;exact .inr ⟨S,p.le (by have:=p.a1;have:=p.za;left)⟩
  clear n P1;rintro c B (⟨n,hr⟩|⟨n,P1⟩)
  ·exact aap ⟨n,hr⟩
  dsimp -zeta only;refine b8 (λ_ h=>zC (acf ⟨rfl,h⟩)) ?_;refine mi (abr (I:=λ_=>GG (Hi F a b (x+2)) st) (Q:=λc B=>GF (Res F a.toList b.toList) st c B\/GG (Hi F a b (x+2)) st c B) ?_ ?_ ⟨n,P1⟩) ?_
  ·generalize x+2=lw;clear P1 n;rintro x' c kK _ xw @⟨na0,nb0,o0,⟨g0,ac0,bc0⟩,_,n,V,t,u,l,m,D⟩;clear xw;dsimp -zeta only
   extract_lets -underBinder s0 na s1 nb s2 out s3 g s4 ac bc U g9
   obtain⟨q1,q2,q3,q4⟩:na=na0/\nb=nb0/\out=o0/\g=g0:=⟨rfl,rfl,rfl,rfl⟩
   clear_value na nb out g ac bc
   clear s0 s1 s2 s3 s4;subst q1 q2 q3 q4;apply yG
   ·intro d;by_cases hg:g>1
    ·refine br hg ?_
     clear_value g9
     revert g9
     exact d
    ·refine bx hg ?_;generalize g=z
     revert z
     exact d
   intro g;dsimp -zeta only[U];clear g9 U;refine C7 (λ_=>lA) λxT S3=>?_;ext(R:n.trans S3);clear S3 n;ext(⟨y0,rL,Jx⟩:gV (aam (acQ (aam aef u) jg) m));refine b8 (λ_=>bD rL) ?_;refine sG (λ_=>fS L (base:=0) (R.k.trans hk) (mb y0 Jx) (acQ t jg) ([zaD]\l) (λi z _ _ f=>ma z ⇑(lf (xO f))) (λi j z z' _ cP _ f W=>sa.ix cP f W)) λk Po Y X=>?_;dsimp -zeta only
   extract_lets -underBinder kk ac2 U o9 n9
   obtain⟨q1,q2,q3⟩:kk=na - k/\o9=out++(a.extract k na).reverse/\k=n9:=⟨rfl,rfl,rfl⟩
   clear_value ac2 o9 n9
   clear_value kk
   subst q1 q2 q3;simp only[zaq,if_false,zaD]at Y X;have Pb:∀z∈a.toList.take k,F z<=F y0:=λz f=>by
    ext(⟨j,hj,e⟩:tM f);exact Y j z hj (BB e)
   ext(Lg:V.exA sa Po λi z h1 h2 f z' W=>abK (sb.WE (acV u) rL z' W) (ab8 (X i z h1 h2 f)));clear Y X;apply yG
   ·intro d;by_cases G:na - k>0
    ·refine br G ?_;by_cases Kn:k=0
     ·refine br (by clear d;simpa using Kn) ?_;exact aap (.inl ⟨R,US Lg sa sb (.inl Kn)⟩)
     refine bx (by clear d;simpa using Kn) ?_;have p:Hi F a b lw k nb _:=⟨Lg,acq Kn,u,aav Po l,m,by clear d l m G Kn;left⟩
     have q:=Pb;generalize out++(a.extract k na).reverse=T at p ⊢;generalize k=O at p q ⊢
     revert q
     revert p
     revert O
     revert T
     exact d
    ·refine bx G ?_;obtain rfl:k=na:=ab5 Po (Op.mp (acm G));have p:Hi F a b lw k nb out:=⟨V,t,u,l,m,D⟩
     have q:=Pb;clear G Lg;generalize out=T at p ⊢;generalize k=O at p q ⊢
     revert q
     revert p
     revert O
     revert T
     exact d
   clear V t u l m D Lg Pb Po;intro T O ⟨J1,t,u,l,m,D⟩ q;dsimp -zeta only[U];clear U
   extract_lets -underBinder m1
   obtain q1:m1=nb - 1:=rfl
   clear_value m1
   subst q1;ext(J:J1.pB sb (acV u) rL q);refine b8 (λ_=>bD rL) ?_
   extract_lets -underBinder o3
   obtain q1:o3=T.push y0:=rfl
   clear_value o3
   subst q1;clear q J1 rL Jx;by_cases P:nb - 1=1
   ·refine br ⇑P ?_;exact aap (.inl ⟨R,Xp J sa sb P h0⟩)
   refine bx ⇑P ?_;have hm:2<=nb - 1:=by clear D l m;left
   have jm:nb - 1<=b.size:=aav (ab7 _ _) m;have hs:lw+O+(nb - 1)<=a.size+b.size:=aav (aaC (ab7 _ _) _) D;clear P u m D;generalize nb - 1=mm at J hm jm hs ⊢;ext(⟨x,K,mx⟩:gV (aam (acQ t jg) l));refine b8 (λ_=>bD K) ?_;refine sG (λ_=>fS L (base:=0) (R.k.trans hk) (ma x mx) (acQ (aam aef hm) jg) ([zaD]\jm) (λi z _ _ f=>mb z ⇑(lf (xO f))) (λi j z z' _ cP _ f W=>sb.ix cP f W)) λC Ah Y X=>?_;dsimp -zeta only
   extract_lets -underBinder kk bc2 U o9 n9
   obtain⟨q1,q2,q3⟩:kk=mm - C/\o9=T.push y0++(b.extract C mm).reverse/\C=n9:=⟨rfl,rfl,rfl⟩
   clear_value bc2 o9 n9
   clear_value kk
   subst q1 q2 q3;simp only[if_true,zaD]at Y X;have qO:∀z∈b.toList.take C,F z<=F x:=λz f=>by
    ext(⟨j,hj,e⟩:tM f);exact ab8 (Y j z hj (BB e))
   ext(Wu:J.exB sb Ah λi z h1 h2 f z' W=>abK (sa.WE t K z' W) (X i z h1 h2 f));clear Y X;apply yG
   ·intro d;by_cases G:mm - C>0
    ·refine br G ?_;by_cases QC:C=1
     ·refine br (by clear d;simpa using QC) ?_;exact aap (.inl ⟨R,Xp Wu sa sb QC h0⟩)
     refine bx (by clear d;simpa using QC) ?_;by_cases Z:C=0
     ·refine br (by clear d;simpa using Z) ?_;exact aap (.inl ⟨R,US Wu sa sb (.inr Z)⟩)
     refine bx (by clear d;simpa using Z) ?_;have p:Hi F a b lw O C _:=⟨Wu,t,by clear d hs G Ah jm hm;left,l,aav Ah jm,aav (aaC Ah _) hs⟩
     have q:=qO;generalize T.push y0++(b.extract C mm).reverse=o2 at p ⊢;generalize C=m2 at p q ⊢
     revert q
     revert p
     revert m2
     revert o2
     exact d
    ·refine bx G ?_;obtain rfl:C=mm:=ab5 Ah (Op.mp (acm G));have p:Hi F a b lw O C _:=⟨J,t,hm,l,jm,hs⟩
     have q:=qO;clear G Wu;generalize T.push y0=o2 at p ⊢;generalize C=m2 at p q ⊢
     revert q
     revert p
     revert m2
     revert o2
     exact d
   clear J Wu qO Ah hm jm hs t l;intro o2 m2 ⟨J3,t,u,l,m,D⟩ q;dsimp only[U];clear U;ext(J4:J3.pA sa t K q);refine b8 (λ_=>bD K) ?_;clear q J3 K;by_cases N:O - 1=0
   ·refine br ⇑N ?_;exact aap (.inl ⟨R,US J4 sa sb (.inl N)⟩)
   refine bx ⇑N ?_;have p:Hi F a b lw (O - 1) m2 _:=⟨J4,acq N,u,aav (ab7 _ _) l,m,aav (ab6 (aaC (ab7 _ _) _) _) D⟩
   exact jT (λ_=>aap (.inr ⟨R,p⟩)) (λ_=>aap ⟨R,p⟩)
  ·rintro c B ⟨S,p⟩;exact .inr ⟨S,p⟩
  rintro c B (⟨S,hr⟩|⟨S,p⟩)
  ·exact aap ⟨S,hr⟩
  ·dsimp only;exact aaz (lA λxT S3=>aap ⟨S.trans S3,p⟩)
end
meta def wr(o:Nat)(n:Nat)(l:List Keyed)(a:Array Keyed):Array Keyed:=(l.zipIdx n).foldl (λa (p,j)=>a.setIfInBounds (o+j) p) a
theorem sF(o:Nat):∀(l:List Keyed) (n:Nat) (a:Array Keyed),o+n+l.length<=a.size->(wr o n l a).toList=a.toList.take (o+n)++(l++a.toList.drop (o+n+l.length))
 |[],n,a,h=>(sd (o+n) a.toList).symm
 |x::l,n,a,h=>by
  have c:o+n<a.toList.length:=aam (adt (aed l.length)) h;have e:o+n+(x::l).length=o+n+1+l.length:=Nat.add_right_comm _ _ 1;rw[e]at h ⊢;ext(b:sF o l (n+1) (a.setIfInBounds (o+n) x) ([Array.size_setIfInBounds]\h));rw[zbC]at b;refine b.trans ?_;show(a.toList.set (o+n) x).take (o+n+1)++(l++(a.toList.set (o+n) x).drop (o+n+1+l.length))=_;rw[List.drop_set_of_lt (zbk (AV _) (zaN _ _)),List.set_eq_take_append_cons_drop,zac c,List.take_append,zar,zaI (zcf c),zap,yao,zbP (Nat.le_succ _)];simp
def C1{l:List Keyed}{a:Array Keyed}(h:o+l.length<=a.size)(i:Nat):(wr o 0 l a)[i]?=if i<o then a[i]? else if i<o+l.length then l[i - o]? else a[i]?:=by
 have b:(a.toList.take o).length=o:=[zar]\FH (aav (aaG _ _) h)
 rw[<- fx,<- fx,sF o l 0 a h,zbS,PP,b];by_cases c1:i<o
 ·rw[zac c1,zac c1,oe,zac c1]
 ·rw[zab c1,zab c1];ext(⟨j,rfl⟩:aba (Bc c1));rw[zap,PP];by_cases c2:j<l.length
  ·rw[zac c2,zac (zbx c2 _)]
  ·rw[zab c2,zab (λz=>c2 (zbI z)),oi,zaG,wg (Bc c2)]
def HY{l:List Keyed}{a:Array Keyed}(h:o+l.length<=a.size)(b:l.Perm ((a.toList.drop o).take l.length)):(wr o 0 l a).Perm a:=by
 rw[io,sF o l 0 a h];have e2:a.toList=a.toList.take o++((a.toList.drop o).take l.length++a.toList.drop (o+l.length)):=by
  rw[<- zcc,zbc,zbc]
 conv=>rhs;rw[e2]
 exact ac3 _ (adA _ b)
def L_{F:Keyed->Int}{xs:Array Keyed}{n:Nat}(h:On F xs lo (lo+n))(hs:lo+n<=xs.size):Pw F (xs.extract lo (lo+n)).toList:=by
 rw[ext_toList,zap];refine gr.mpr λi j e c b=>?_;have a:j<n:=aam c (List.length_take_le ..);have g:∀k,k<n->lo+k<xs.size:=λk d=>aam (aaT d _) hs;rw[U2,U2,U7,U7,Pi,Pi];have:=h (lo+i) (lo+j) (aaG _ _) (aaC (abq b) _) (aaT a _);rw[gp (getElem?_pos xs (lo+i) (g i (yb1 b a))),gp (getElem?_pos xs (lo+j) (g j a))]at this;exact this
def j7{a:Array Keyed}{i n:Nat}{x:Keyed}(h:x∈(a.extract i (i+n)).toList):∃t,t<n/\a[i+t]?=↥x:=by
 rw[ext_toList,zap]at h;ext(⟨k,b,e⟩:n8 h);exact⟨k,b,BB e⟩
def ext_get{a:Array Keyed}{i n t:Nat}(h:t<n):(a.extract i (i+n))[t]?=a[i+t]?:=by
 rw[<- fx,ext_toList,oe,zac ([zap]\h),oi,fx]
def wA{a:Array Keyed}{i n:Nat}(b:i+n<=a.size):(a.extract i (i+n)).size=n:=by rw[Array.size_extract,zaI b,zap]
def HZ{M:Model}{A:aF}{E:aB}{s:am}{a:Type}{x:a}{Q:PUnit->a->Prop}{st:a}(h:Q ⟨⟩ x):wpS M A E s (set x:StateT a Sem PUnit) Q st:=by
 unfold wpS;exact[StateT.run_set]\aaf ⟨rfl,h⟩
def BD{F:Keyed->Int}{xs:Array Keyed}{p q e:Nat}{l:List Keyed}(J:sa<=p)(H:p<=sb)(A:sb<=q)(he:q<=e)(hs:e<=xs.size)(w:On F xs sa sb)(u:On F xs sb e)(I:p+l.length=q)(G:Pw F l)
  (x:∀v∈l,∃t,p<=t/\t<q/\xs[t]?=↥v) (C:∀i,sa<=i->i<p->∀t,sb<=t->t<e->R F xs i<=R F xs t) (K:∀t,q<=t->t<e->∀i,sa<=i->i<sb->R F xs i<=R F xs t):On F (wr p 0 l xs) sa e:=by
 subst I;ext(g:C1 (o:=p) (l:=l) (a:=xs) (aav he hs));have n:∀i,i<p->R F (wr p 0 l xs) i=R F xs i:=λi hi=>fP ⇑[g,zac hi];have h:∀i,p+l.length<=i->R F (wr p 0 l xs) i=R F xs i:=λi hi=>fP ⇑[g,zab (mn.mpr (zbT (zaN _ _) hi)),zab (mn.mpr hi)];have m:∀j (b:j<l.length),R F (wr p 0 l xs) (p+j)=F l[j]:=λj b=>gp ([g,zab (mn.mpr (zaN _ _)),zac (zbx b _),zap]\aaA b);have up:∀i,sa<=i->i<p->∀v∈l,R F xs i<=F v:=λi hi D v r=>by
  ext(⟨t,t1,t2,e⟩:x v r);rw[<- gp (F:=F) e];ext((c|c):abR t sb)
  ·exact w i t hi (abq (aam D t1)) c
  ·exact C i hi D t c (aam t2 he)
 have L:∀j,p+l.length<=j->j<e->∀v∈l,F v<=R F xs j:=λj b s v r=>by
  ext(⟨t,t1,t2,e⟩:x v r);rw[<- gp (F:=F) e];ext((c|c):abR t sb)
  ·exact K j b s t (aav J t1) c
  ·exact u t j c (abq (aam t2 b)) s
 intro i j hi f b;ext((c|c):abR j p)
 ·exact[n i (zba f c),n j c]\w i j hi f (aam c H)
 ext((d|d):abR i p)
 ·rw[n i d];rcases abR j (p+l.length)with c'|c'
  ·ext(⟨k,rfl⟩:aba c);exact[m k (zbI c')]\up i hi d _ (aaU _)
  ·exact[h j c']\C i hi d j (aav A c') b
 rcases abR i (p+l.length)with d'|d'
 ·ext(⟨k,rfl⟩:aba d)(B:abN d');rw[m k B];rcases abR j (p+l.length)with c'|c'
  ·ext(⟨y,rfl⟩:aba c)(E:abN c');rw[m y E];ext((z|z):abR k y)
   ·exact gr.mp G _ _ B E z
   ·ext(rfl:ab5 (ac_ f) z);exact ack _
  ·exact[h j c']\L j c' b _ (aaU _)
 ·exact[h i d',h j (zbT d' f)]\u i j (aav A d') f b
section
variable {prog:aG}{w:World}{A:aF}{E:aB}{s:am}{κ:hV}{a₀:Array Keyed}{F:Keyed->Int}(L:qW prog w A E s κ a₀ F)
include L
theorem A6{st:f8}{i pw qw:Nat}{Q:Bool->f8->Prop}(J:SB a₀ κ st)(e1:(d5 st)[i]?=↥(sa,na,pw))(e2:(d5 st)[i+1]?=↥(sb,nb,qw))(V:sb=sa+na)(tX:1<=na)(uQ:1<=nb)(hs:sb+nb<=a₀.size)(P:On F (arrOf st) sa sb)(O:On F (arrOf st) sb (sb+nb))
  (h:∀g,SB a₀ κ g->d5 g=((d5 st).setIfInBounds i (sa,na+nb,pw)).eraseIdxIfInBounds (i+1)->(∀t,t<sa\/sb+nb<=t->(arrOf g)[t]?=(arrOf st)[t]?)->On F (arrOf g) sa (sb+nb)->Q true g):wpS (model prog w) A E s (mergeAt' i) Q st:=by
 have G:SB a₀ κ (yaP st (((d5 st).setIfInBounds i (sa,na+nb,pw)).eraseIdxIfInBounds (i+1))):=⟨J.perm,J.kind,J.failed⟩
 have sz:sb+nb<=(arrOf st).size:=[J.size]\hs
 refine aaz (ac6 ?_);rw[e1,e2];dsimp only;refine aaz (HZ ?_);generalize W:yaP st (((d5 st).setIfInBounds i (sa,na+nb,pw)).eraseIdxIfInBounds (i+1))=M at G;have PJ:arrOf M=arrOf st:=by rw[<- W]
 have UG:d5 M=((d5 st).setIfInBounds i (sa,na+nb,pw)).eraseIdxIfInBounds (i+1):=by rw[<- W]
 change wpS _ _ _ _ _ Q (yaP st (((d5 st).setIfInBounds i (sa,na+nb,pw)).eraseIdxIfInBounds (i+1)));rw[W];have hQ:∀g,SB a₀ κ g->d5 g=d5 M->(∀t,t<sa\/sb+nb<=t->(arrOf g)[t]?=(arrOf st)[t]?)->On F (arrOf g) sa (sb+nb)->Q true g:=λg C B=>h g C (B.trans UG);clear UG W e1 e2 h;have T:∀(t:Nat) (x:Keyed),(arrOf st)[t]?=↥x->x∈a₀.toList:=λt x e=>(io.mp J.perm).mem_iff.mp (aa6 (xO e));have D:∀t,t<sb+nb->∃x,(arrOf st)[t]?=↥x/\x∈a₀.toList:=λt l=>J.at (aam l hs);ext(⟨y0,rL,Jx⟩:D sb (adt uQ));refine aaz (bD rL ?_);refine aaz (fS L (arr:=arrOf st) G.kind Jx (show 0<na from tX) ([-V]\aav (aaG _ _) sz) (λt x _ _ e=>T t x e) (λt u x y C B K ex n=>by
  have:=P t u C B ([V]\K)
  rwa [gp ex,gp n]at this) λk hk g1 g2=>?_)
 simp only[zaq,if_false]at g1 g2;ext(⟨x,rfl⟩:aba hk);rw[<- zaG]at V;subst V;dsimp only;rw[zap];clear hk tX;have U:∀i,sa<=i->i<sa+k->∀t,sa+k+x<=t->t<sa+k+x+nb->R F (arrOf st) i<=R F (arrOf st) t:=λi hi N t l Pe=>by
  ext(⟨j,rfl⟩:aba hi)(⟨y,n,_⟩:D (sa+j) (aam N (aav (aaG _ _) (aaG _ _))))(a1:g1 j y (abN N) n)(a2:O _ t (aao _) l Pe);rw[gp rL]at a2;exact[gp n]\abK a1 a2
 have done:(∀i,sa<=i->i<sa+k+x->∀j,sa+k+x<=j->j<sa+k+x+nb->R F (arrOf st) i<=R F (arrOf st) j)->Q true M:=λc=>by
  refine hQ M G rfl (λt _=>by rw[PJ]) ?_;rw[PJ];intro i j hi cP Y;rcases abR j (sa+k+x)with d|d
  ·exact P i j hi cP d
  rcases abR i (sa+k+x)with c'|c'
  ·exact c i hi c' j d Y
  ·exact O i j c' cP Y
 by_cases Z:x=0
 ·rw[zac ⇑Z];subst Z;exact aap (done U)
 rw[zab ⇑Z];ext(⟨x,rfl⟩:abu Z);have dg:sa+k+x<sa+k+(x+1):=abc _;ext(⟨z0,FA,mz0⟩:D (sa+k+x) (aam dg (aaG _ _)));refine aaz (bD FA ?_);refine aaz (fS L (arr:=arrOf st) G.kind mz0 (acQ uQ jg) sz (λt x _ _ e=>T t x e) (λt u x y C B K ex n=>by
  have:=O t u C B K
  rwa [gp ex,gp n]at this) λm X q1 q2=>?_)
 simp only[if_true]at q1 q2;have high:∀t,sa+k+(x+1)+m<=t->t<sa+k+(x+1)+nb->∀i,sa<=i->i<sa+k+(x+1)->R F (arrOf st) i<=R F (arrOf st) t:=λt l Pe i hi N=>by
  ext(⟨j,rfl⟩:aba (aav (aaG _ _) l))(⟨y,n,_⟩:D _ Pe)(a1:q2 j y (ac_ l) (abN Pe) n)(a2:P i (sa+k+x) hi (abH N) dg);rw[gp FA]at a2;exact[gp n]\abK a2 a1
 dsimp only;by_cases c1:m=0
 ·rw[zac ⇑c1];subst c1;exact aap (done λi hi N j Y yq=>high j Y yq i hi N)
 rw[zab ⇑c1];clear done;have sx:sa+k+(x+1)<=(arrOf st).size:=aav (aaG _ _) sz;have sy:sa+k+(x+1)+m<=(arrOf st).size:=aav (aaC X _) sz;ext(zx:wA (a:=arrOf st) sx)(zy:wA (a:=arrOf st) sy);have ix:∀{t:Nat} {x':Keyed},(arrOf st)[sa+k+t]?=↥x'->x'∈a₀.toList:=λe=>T _ _ e;have MM:Mg F a₀ ((arrOf st).extract (sa+k) (sa+k+(x+1))) ((arrOf st).extract (sa+k+(x+1)) (sa+k+(x+1)+m)):=by
  refine⟨λv q=>?_,λv q=>?_,L_ (λi j C B K=>P i j (aav (aaG _ _) C) B K) sx,L_ (λi j C B K=>O i j C B (aam K (aaC X _))) sy,[zx]\aed _,[zy]\acq c1,λy n v q=>?_,λy hy z ez=>?_⟩
  ·ext(⟨t,_,e⟩:j7 q);exact T _ _ e
  ·ext(⟨t,_,e⟩:j7 q);exact T _ _ e
  ·rw[ext_get (UY c1),zbS,rL]at n;ext(⟨t,t1,e⟩:j7 q);rw[zaG]at e;have:=g2 (k+t) v (aaG _ _) (aaT t1 _) e;exact[-wf n]\ab8 this
  ·rw[zx,Nat.add_sub_cancel,ext_get (AV _),FA]at ez;ext(⟨t,t1,e⟩:j7 hy);have:=q1 t y t1 e;exact[-wf ez]\ab8 this
 have fin:∀(r:Array Keyed) (b:f8),aL M b->Res F ((arrOf st).extract (sa+k) (sa+k+(x+1))).toList ((arrOf st).extract (sa+k+(x+1)) (sa+k+(x+1)+m)).toList r->Q (tt (Wz b (wr (sa+k) 0 r.toList (arrOf b)))).isNone (Wz b (wr (sa+k) 0 r.toList (arrOf b))):=λr b S H=>by
  have I:arrOf b=arrOf st:=S.a.trans PJ;have hlen:r.toList.length=x+1+m:=by rw[H.1.length_eq,zaf,zao,zao,zx,zy]
  have hq:sa+k+r.toList.length=sa+k+(x+1)+m:=by rw[hlen,<- zaG]
  have aas:((arrOf st).toList.drop (sa+k)).take r.toList.length=((arrOf st).extract (sa+k) (sa+k+(x+1))).toList++((arrOf st).extract (sa+k+(x+1)) (sa+k+(x+1)+m)).toList:=by
   rw[ext_toList,ext_toList,hlen,zap,zap,List.take_add,zcc]
  have hl:sa+k+r.toList.length<=(arrOf st).size:=[hq]\sy
  have hf:tt (Wz b (wr (sa+k) 0 r.toList (arrOf b)))=none:=S.f.trans G.failed;rw[hf];refine hQ _ ⟨?_,S.k.trans G.kind,S.f.trans G.failed⟩ S.p (λt l=>?_) ?_
  ·show(wr (sa+k) 0 r.toList (arrOf b)).Perm a₀;exact[I]\(HY hl ([aas]\H.1)).trans J.perm
  ·show(wr (sa+k) 0 r.toList (arrOf b))[t]?=_;rw[I,C1 hl,hq];ext((l|l):l)
   ·rw[zac (zbk l (zaN _ _))]
   ·have:sa+k+(x+1)+m<=t:=aav (aaC X _) l;rw[zab (mn.mpr (zbT (zbT (zaN _ _) (zaN _ _)) this)),zab (mn.mpr this)]
  ·show On F (wr (sa+k) 0 r.toList (arrOf b)) sa (sa+k+(x+1)+nb);rw[I];refine BD (aaG _ _) (aaG _ _) (aaG _ _) (aaC X _) sz P O hq H.2 (λv q=>?_) U high;rcases dz.mp (H.1.mem_iff.mp q)with q|q
   ·ext(⟨t,t1,e⟩:j7 q);exact⟨_,aaG _ _,aam (aaT t1 _) (aaG _ _),e⟩
   ·ext(⟨t,t1,e⟩:j7 q);exact⟨_,aav (aaG _ _) (aaG _ _),aaT t1 _,e⟩
 by_cases c2:x+1<=m
 ·rw[zac c2];refine aaz (M7 L G.kind MM λr b S H=>?_);exact aaz (adl (aaz (ac6 (aap (fin r b S H)))))
 ·rw[zab c2];refine aaz (M8 L G.kind MM λr b S H=>?_);exact aaz (adl (aaz (ac6 (aap (fin r b S H)))))
end
abbrev Run:=Nat×Nat×Nat
def Chain(F:Keyed->Int)(xs:Array Keyed):Nat->List Run->Nat->Prop
 |c,[],hi=>c=hi
 |c,r::l,hi=>r.1=c/\1<=r.2.1/\On F xs c (c+r.2.1)/\Chain F xs (c+r.2.1) l hi
section
variable {F:Keyed->Int}{xs ys:Array Keyed}
theorem Chain.le:∀{l:List Run} {c hi:Nat},Chain F xs c l hi->c+l.length<=hi
 |[],c,hi,h=>by have:c=hi:=h;simp;left
 |r::l,c,hi,h=>by
  ext(⟨_,b,_,a⟩:h);have:=a.le;rw[zae];left
theorem Chain.out:∀{l:List Run} {c hi:Nat},Chain F xs c l hi->(∀t,c<=t->t<hi->ys[t]?=xs[t]?)->Chain F ys c l hi
 |[],_,_,h,_=>h
 |r::l,c,hi,⟨h1,h2,h3,h4⟩,e=>by
  have:=h4.le;exact⟨h1,h2,h3.out λi b d=>e i b ⋯,h4.out λt h a=>e t ⋯ a⟩
theorem iE:∀{l m:List Run} {c hi:Nat},Chain F xs c (l++m) hi ↔ ∃d,Chain F xs c l d/\Chain F xs d m hi
 |[],m,c,hi=>⟨λh=>⟨c,rfl,h⟩,λ⟨d,b,a⟩=>by have:c=d:=b;subst this;exact a⟩
 |r::l,m,c,hi=>by
  constructor
  ·rintro ⟨b,a,g,f⟩;ext(⟨d,e,i⟩:iE.mp f);exact⟨d,⟨b,a,g,e⟩,i⟩
  ·rintro ⟨d,⟨b,a,g,f⟩,e⟩;exact⟨b,a,g,iE.mpr ⟨d,f,e⟩⟩
def Chain.push{l:List Run}{c n q:Nat}(h:Chain F xs c l lo)(hn:1<=n)(a:On F xs lo (lo+n)):Chain F xs c (l++[(lo,n,q)]) (lo+n):=iE.mpr ⟨lo,h,rfl,hn,a,rfl⟩
theorem Chain.TY{f:Run->Run}(hf:∀r,(f r).1=r.1/\(f r).2.1=r.2.1):∀{l:List Run} {i c hi:Nat},Chain F xs c l hi->Chain F xs c (l.modify i f) hi
 |[],i,_,_,h=>by cases i<;>exact h
 |r::l,0,c,hi,h=>by
  ext(⟨e,d,b,a⟩:h);rw[List.modify_zero_cons];ext(⟨e1,e2⟩:hf r);exact⟨e1.trans e,[e2]\d,[e2]\b,[e2]\a⟩
 |r::l,i+1,c,hi,h=>by
  ext(⟨e,d,b,a⟩:h);exact[List.modify_succ_cons]\⟨e,d,b,a.TY hf⟩
end
section
variable {prog:aG}{w:World}{A:aF}{E:aB}{s:am}{κ:hV}{a₀:Array Keyed}{F:Keyed->Int}(L:qW prog w A E s κ a₀ F)
include L
theorem oR{st:f8}{i:Nat}{Q:Bool->f8->Prop}(z:SB a₀ κ st)(q:Chain F (arrOf st) 0 (d5 st).toList hi)(N:hi<=a₀.size)(v:i+1<(d5 st).size)
  (h:∀a,SB a₀ κ a->Chain F (arrOf a) 0 (d5 a).toList hi->(d5 a).size+1=(d5 st).size->(∀t,hi<=t->(arrOf a)[t]?=(arrOf st)[t]?)->Q true a):wpS (model prog w) A E s (mergeAt' i) Q st:=by
 have p:(d5 st).toList.length=(d5 st).size:=vi;obtain⟨b,x,y,post,e,f⟩:∃b x y post,(d5 st).toList=b++x::y::post/\b.length=i:=by
  refine⟨(d5 st).toList.take i,(d5 st).toList[i],(d5 st).toList[i+1],(d5 st).toList.drop (i+2),?_,by rw[zar];left⟩;rw[<- zax,<- zax,zbc]
 ext(⟨sa,na,g⟩:x)(⟨sb,nb,m⟩:y);rw[e]at q;ext(⟨d,c1,c2⟩:iE.mp q)(⟨k,G,D,j,C,B,u⟩:c2);have k:sa=d:=k;have j:sb=d+na:=j;subst k;subst j;have M:sa+na+nb+post.length<=hi:=u.le;have K:=c1.le;refine A6 L (i:=i) (sa:=sa) (na:=na) (pw:=g) (sb:=sa+na) (nb:=nb) (qw:=m) z ?_ ?_ rfl G C ⋯ D B λa J I l H=>?_
 ·rw[<- fx,e,d6 ⋯,f,zbQ];rfl
 ·rw[<- fx,e,d6 ⋯,f,show i+1 - i=1 by left];rfl
 ·have r:(d5 a).toList=b++(sa,na+nb,g)::post:=by
   rw[I,Array.toList_eraseIdxIfInBounds,zbC,e,List.set_append_right _ _ ⋯,f,zbQ,zbz,List.eraseIdx_append_of_length_le ⋯,f,show i+1 - i=1 by left];rfl
  refine h a J ?_ ?_ λt n=>l t (.inr ⋯)
  ·rw[r];refine iE.mpr ⟨sa,c1.out λt _ n=>l t (.inl n),rfl,?_,?_,?_⟩
   ·show 1<=na+nb;left
   ·show On F (arrOf a) sa (sa+(na+nb));exact[-zaG]\H
   ·show Chain F (arrOf a) (sa+(na+nb)) post hi;exact[-zaG]\u.out λt c _=>l t (.inr c)
  ·have c:(d5 a).toList.length=(d5 a).size:=vi;rw[r]at c;rw[e]at p;simp at c p;left
end
structure SC(F:Keyed->Int)(a₀:Array Keyed)(κ:hV)(lo:Nat)(st:f8):Prop where
 b:SB a₀ κ st
 c:Chain F (arrOf st) 0 (d5 st).toList lo
section
variable {prog:aG}{w:World}{A:aF}{E:aB}{s:am}{κ:hV}{a₀:Array Keyed}{F:Keyed->Int}(L:qW prog w A E s κ a₀ F)
include L
theorem C6(D:Wv a₀ F){st:f8}{Q:Unit->f8->Prop}(hB:SB a₀ κ st)(hp:d5 st = #[])(P:1<=a₀.size)(h:∀a,SB a₀ κ a->On F (arrOf a) 0 a₀.size->Q () a):wpS (model prog w) A E s sortRuns' Q st:=by
 rw[sortRuns'_eq];refine aaz (ac6 ?_);dsimp -zeta only;rw[hB.size]
 extract_lets na mr l0
 clear_value mr
 dsimp -zeta only[na,l0];clear l0;refine aaz (acL (abr (I:=λx c a=>∃lo,c=(none,lo)/\lo<=a₀.size/\x<=lo/\SC F a₀ κ lo a)
  (Q:=λc a=>c=(none,a₀.size)/\SC F a₀ κ a₀.size a) ?step ?fin ⟨0,rfl,aa7 _,aao _,hB,by rw[hp];rfl⟩) ?post)
 case fin =>
  rintro c a ⟨lo,rfl,J,H,C⟩;rw[zce]at H;ext(rfl:ab5 J H);exact⟨rfl,C⟩
 case step =>
  rintro x c kK _ hx ⟨lo,rfl,J,H,C⟩;dsimp -zeta only;by_cases T:lo ≥ a₀.size
  ·refine br T ?_;ext(rfl:ab5 J T);exact aap ⟨rfl,C⟩
  refine bx T ?_;have R:lo+(a₀.size - lo)=a₀.size:=wg J;have G:1<=a₀.size - lo:=adw (adF T);refine aaz (A7 L D (acX R) G C.b λm u V m1 O O2=>?_);have d:SC F a₀ κ lo u:=⟨V.sb,[V.pend]\C.c.out λt _ Z=>V.out t (.inl Z)⟩
  clear C V;generalize a₀.size - lo=rem at R G O ⊢;dsimp -zeta only
  extract_lets nn jp g y
  apply yG
  ·intro K;by_cases S:nn<mr
   ·refine br S ?_;refine aaz (zC (acf ⟨rfl,?_⟩));have f2:lo+g<=a₀.size:=[-R]\aaC (yam _ _) _
    refine aaz (H_ L f2 (JY.mpr ⟨O,abq S⟩) d.b O2 λq U Oa=>?_);refine bx ⇑5 ?_;have l:SC F a₀ κ lo q:=⟨U.sb,[U.pend]\d.c.out λt _ Z=>U.out t (.inl Z)⟩
    have B:1<=y:=JY.mpr ⟨G,aaV (aa7 _) S⟩;have N:lo+y<=a₀.size:=f2;have W:On F (arrOf q) lo (lo+y):=Oa;clear U f2 Oa
    clear_value y
    revert N
    revert B
    revert W
    revert l
    revert q
    revert y
    exact K
   ·refine bx S ?_;exact K nn u d O2 m1 ([-R]\aaC O _)
  clear d O2 m1 O G;intro n q l W B N;dsimp only[jp];clear y g jp nn;refine aaz (ac6 ?_);cases HF:(d5 q).back? with
  |none =>
   dsimp only;refine aaz (adl (aap ⟨lo+n,rfl,N,acZ H B,⟨l.b.perm,l.b.kind,l.b.failed⟩,?_⟩));show Chain F (arrOf q) 0 ((d5 q).push (lo,n,0)).toList (lo+n);exact[zaK]\l.c.push B W
  |some r =>
   ext(⟨s1,q1,w1⟩:r);dsimp only;generalize power' a₀.size (2*s1+q1) (2*s1+q1+q1+n) a₀.size=X;refine aaz (acL (abr (I:=λ_ c a=>c=(none,())/\SC F a₀ κ lo a/\On F (arrOf a) lo (lo+n))
    (Q:=λc a=>c=(none,())/\SC F a₀ κ lo a/\On F (arrOf a) lo (lo+n)) ?_ (λ_ _ z=>z) ⟨rfl,l,W⟩) ?_)
   ·rintro x' c j _ _ ⟨rfl,k,M⟩;refine aaz (ac6 ?_);by_cases c5:(d5 j).size>1
    ·rw[zac c5];obtain⟨r,G⟩:∃r,(d5 j)[(d5 j).size - 2]?=↥r:=⟨(d5 j)[(d5 j).size - 2]'(acQ (acU c5) aef),aec _ _ _⟩
     rw[G];dsimp only;by_cases c6:r.2.2<=X
     ·exact[zac c6]\aap ⟨rfl,k,M⟩
     ·rw[zab c6];refine aaz (oR L k.b k.c J ⋯ λLz B5 C5 _ S5=>?_);rw[zab ⇑5];exact aap ⟨rfl,⟨B5,C5⟩,M.out λi P h2=>S5 i P⟩
    ·exact[zab c5]\aap ⟨rfl,k,M⟩
   ·rintro c j ⟨rfl,k,M⟩;dsimp only;refine aaz (adl (aaz (adl (aap ⟨lo+n,rfl,N,acZ H B,⟨k.b.perm,k.b.kind,k.b.failed⟩,?_⟩))));show Chain F (arrOf j) 0 (((d5 j).modify ((d5 j).size - 1) λx=>(x.1,x.2.1,X)).push (lo,n,0)).toList (lo+n);exact[zaK,Array.toList_modify]\(k.c.TY (f:=λx=>(x.1,x.2.1,X)) λr=>⟨rfl,rfl⟩).push B M
 case post =>
  rintro c kK ⟨rfl,C⟩;dsimp only;have hif:∀(c:Prop) [Decidable c] (p:Nat),(if c then p - 1 else p)<=p:=λc _ p=>by
   by_cases h:c
   ·exact[zac h]\ab7 _ _
   ·exact[zab h]\aao _
  have hlen:=C.c.le;rw[zao,zaD]at hlen;refine aaz (acL (abr (I:=λx c a=>c=(none,())/\SC F a₀ κ a₀.size a/\(d5 a).size+x<=a₀.size+1)
   (Q:=λc a=>c=(none,())/\SC F a₀ κ a₀.size a/\(d5 a).size<=1) ?_ ?_ ⟨rfl,C,acT hlen⟩) ?_)
  ·rintro x c u _ hx ⟨rfl,d,v⟩;refine aaz (ac6 ?_);by_cases cp:(d5 u).size<=1
   ·exact[zac cp]\aap ⟨rfl,d,cp⟩
   rw[zab cp];refine aaz (oR L d.b d.c (aao _) (aaV (ab6 (hif _ _) 1) ⋯) λq B3 l z3 _=>?_);rw[zab ⇑5];exact aap ⟨rfl,⟨B3,l⟩,aav (acX ([-z3]\(JX _ _).symm)) v⟩
  ·rintro c u ⟨rfl,d,v⟩;rw[zce]at v;exact⟨rfl,d,Nat.le_of_add_le_add_right ([zbr 1]\v)⟩
  ·rintro c u ⟨rfl,⟨B2,d⟩,v⟩;dsimp only;refine aap (h u B2 ?_);generalize hpl:(d5 u).toList=pl at d;have Y:pl.length<=1:=[-hpl,zao]\v
   match pl,Y,d with
   |[],_,d =>
    have:0=a₀.size:=d;rw[<- this]at P;exact absurd P (RK 0)
   |[r],_,⟨_,_,o,e⟩ =>
    have e:0+r.2.1=a₀.size:=e;exact[-e]\o
   |_::_::_,Y,_=>exact absurd (OA Y) (RK _)
end
end TS
end
section
namespace DI
open PySem PySem.Spec PyProof.Rows L2
def md(h:Heap)(vs:aw)(nss:az):Prop:=vs.length=nss.length/\∀(i:Nat) (ns:ae),nss[i]?=↥ns->∃t a,vs[i]?=↥(.ref t)/\IsTup h t a.toArray/\h9 a ns
variable {h h':Heap}{nss:az}{vs:aw}
def md.mono(k:∀b o,h.get? b=↥o->h'.get? b=↥o)(t:md h vs nss):md h' vs nss :=
 ⟨t.1,λi c e=>let ⟨a,aP,e1,⟨o,ho,r⟩,e3⟩:=t.2 i c e;⟨a,aP,e1,⟨o,k _ _ ho,r⟩,e3⟩⟩
def md.mem(t:md h vs nss){v:Value}(e:v∈vs):∃a b d,v=.ref a/\IsTup h a b.toArray/\h9 b d:=by
 ext(⟨i,c⟩:g7.mp e);have f:i<nss.length:=[-t.1]\(bi.mp c).1
 ext(⟨a,b,e1,e2,e3⟩:t.2 i _ (aaA f));rw[c]at e1;cases e1;exact⟨a,b,_,rfl,e2,e3⟩
variable {ns:ae}
section
variable {prog:aG}{w:World}{A:aF}{E:aB}{s:am}
theorem p7:∀{vs:aw} {nss:az} {Q:List (Option Value)->am->Prop},md s.heap vs nss->(∀fs:List (Option Value),fs.length=vs.length->(∀f∈fs,∀v,f=↥v->∃n t,v=.int n t)->Q fs s)->⇑1 (vs.mapM firstOfTuple') Q E s
 |[],_,_,_,h=>[List.mapM_nil]\aaf (h [] rfl λ_ h=>nomatch h)
 |v::vs,[],_,t,_=>by have:=t.1;simp at this
 |v::vs,ns::nss,Q,t,h=>by
  ext(⟨a,p,e,⟨o,d,k,n,hd⟩,g⟩:t.2 0 ns rfl);cases e;rw[List.mapM_cons];refine aab ?_;rw[PySem.W.kas_first_eq];refine aab (C3 (show Xj (model prog w) s.heap (typeOf (.ref a)) o.cls from(FU d).andThen .now) ?_);rw[k,zab (by first|decide|simp)];refine aab (FN d hd (aaf ?_));refine aab (p7 (vs:=vs) (nss:=nss) ⟨⇑t.1,λi j e=>t.2 (i+1) j e⟩ λfs m l=>aaf (h _ (by simp[m]) λf c v b=>?_));ext((rfl|c):c0.mp c)
  ·cases g with
   |nil=>simp at b
   |cons q tk g=>simp at b;exact⟨_,_,b.symm⟩
  ·exact l f c v b
def Ht(a:hV):Prop:=a=tuples' true\/a=general'\/a=oneType'
def kind_any{Q:hV->am->Prop}(t:md s.heap vs nss)(H:vs≠[])(h:∀C,Ht C->Q C s):⇑1 (keyKind' vs.toArray) Q E s:=by
 obtain⟨e,d,rfl⟩:∃e d,vs=e::d:=by
  cases vs with
  |nil=>exact absurd rfl H
  |cons e d=>exact⟨e,d,rfl⟩
 rw[kat_kind_eq,zbG,map_eq_pure_bind];refine aab (aab (p7 t λfs D F=>aaf ?_));by_cases j:(fs.toArray.all λx=>x.isSome)=true
 ·rw[zac j];refine aab (acf ?_);obtain⟨c,K,p⟩:∃c:aw,fs=c.map some/\∀v∈c,∃n t,v=.int n t:=by
   clear h D t;induction fs with
   |nil=>exact⟨[],rfl,λ_ h=>nomatch h⟩
   |cons f fs I =>
    simp only[zbU,zas,zag]at j;ext(⟨c,e1,e2⟩:I (λf y=>F f (aaj _ y)) ⇑j.2);cases f with
    |none=>simp at j
    |some v =>
     exact⟨v::c,by rw[e1];rfl,λu l=>by
      ext((rfl|l):c0.mp l)
      ·exact F _ aag _ rfl
      ·exact e2 u l⟩
  subst K;obtain⟨i,g,rfl⟩:∃i g,c=i::g:=by
   cases c with
   |nil=>simp at D
   |cons a b=>exact⟨a,b,rfl⟩
  have q:(((i::g).map some).toArray.filterMap id)=(i::g).toArray:=by simp
  rw[q,oneTypeOnly'_eq,zbG,map_eq_pure_bind];refine aab (aab (aab (RI (r:=f0 "int") _ (λv k N m=>by
   ext(⟨n,t,rfl⟩:p v k);exact(yaW (M:=model prog w) rfl).here m) (aaf ?_))))
  have B:((Ch (λ_=>f0 "int") (i::g)).toArray.all λx=>x==f0 "int")=true:=by
   simp only[zbU,zaW,zaM];intro _ _;show(f0 "int" == f0 "int")=true;decide
  have z:(Ch (λ_=>f0 "int") (i::g)).toArray[0]?=↥(f0 "int"):=by simp
  rw[z];simp only[B,if_true];exact aaf (aaf (h _ (.inl rfl)))
 ·rw[zab j];by_cases G:((fs.toArray[0]?.bind id).isSome)=true
  ·exact[zac G]\aaf (h _ (.inr (.inl rfl)))
  ·rw[zab G];rw[oneTypeOnly'_eq,zbG,map_eq_pure_bind];refine aab (aab (aab (RI (r:=f0 "tuple") _ (λv k N m=>by
    ext(⟨a,O,ns,rfl,⟨o,J,L,_⟩,_⟩:t.mem k);refine C3 (show Xj (model prog w) s.heap (typeOf (.ref a)) o.cls from(FU J).andThen .now) ?_;rw[L];exact m) (aaf ?_))))
   have B:((Ch (λ_=>f0 "tuple") (e::d)).toArray.all λx=>x==f0 "tuple")=true:=by
    simp only[zbU,zaW,zaM];intro _ _;show(f0 "tuple" == f0 "tuple")=true;decide
   have z:(Ch (λ_=>f0 "tuple") (e::d)).toArray[0]?=↥(f0 "tuple"):=by simp
   rw[z];simp only[B,if_true];exact aaf (aaf (h _ (.inr (.inr rfl))))
def OH{l:hV}(B:Ht l)(m:A.units<cLine){a b:Addr}{q r:aw}{f:ae}{Q:Bool->am->Prop}(k:IsTup s.heap a q.toArray)(j:IsTup s.heap b r.toArray)(i:h9 q ns)(g:h9 r f)(h:Q (HT.lexLt ns f) s):
  ⇑1 (keyLt' l (.ref a) (.ref b)) Q E s:=by
 ext((rfl|rfl|rfl):B)
 ·ext(⟨o,c,_,n,hd⟩:k)(⟨H,z,_,I,u⟩:j);exact PySem.W.kat_lt c hd z u (vY 0 i g ⇑5 h)
 ·exact Tl _ _ (OG k j ⇑i ⇑g m h)
 ·show ⇑1 (oneLt' true (.ref a) (.ref b)) Q E s;rw[oneLt'_eq];simp only[if_true];refine aab (wpAny_cRoomFor m ?_);ext(⟨⟨D,C,data,x⟩,c,p,n,hd⟩:id k)(⟨⟨J,G,data2,t⟩,v,e,y,d⟩:id j);simp only at p hd e d;subst p hd e d;refine aab (wpAny_callSpecialIfBound?_slot (name:=tv "__lt__") ⟨_,c,rfl⟩ adG (adZ adG ⟨_,c,rfl⟩ FZ (FB _ _) (iL false a b _ _ n y C G x t ns f ⇑i ⇑g) ⟨c,v,?_⟩));exact abU h
end
def jN(h:Heap)(d:Addr)(es:Array mX)(ep:Nat):Prop:=∃o,h.get? d=↥o/\o.ExactDict/\o.data=.dict es ep
variable {Q:Value->am->Prop}
section
variable {prog:aG}{w:World}{A:aF}{E:aB}{s:am}{d it:Addr}{es:Array mX}{ep i:Nat}
def jN.typeIs(h:jN s.heap d es ep):s.TypeIs (.ref d) "dict":=let ⟨o,ho,hx,_⟩:=h;⟨o,ho,hx.1⟩
def KG(hd:(d==kw)=false)(c:jN s.heap d es ep)
  (f:Q (.ref s.heap.objs.size) { s with heap:=s.heap.push { cls:=.type "dict_keyiterator",data:=.fields #[.ref d,.int 0 0,.int es.size 0,.int ep 0] } }):⇑1 (rO (.ref d)) Q E s:=by
 have a:=c.typeIs;ext(⟨o,b,g,e⟩:c);refine yaJ a FV (abP FV a PySem.F.entry_dict_iter ?_ (PySem.F.args_dict_iter_1 _));unfold nf.«dict.__iter__» yb_;refine aab (aab (adS a (aaf ?_)));show wpAny _ _ (mo d >>= _) _ _ s;unfold mo;rw[zab ([hd]\zal)];refine aab (aaf (aab (acK b e (aab (ada b e ?_)))));exact aab (abF (aaf ⟨_,rfl,"dict_keyiterator",_,⟨_,aax _ rfl,rfl⟩,lz.lookup,f⟩))
def Iz{f:Heap}{Q:Option Value->am->Prop}(j:A.handled=none)(g:rj it f s.heap)(k:∀h',rj it f h'->Q none { s with heap:=h' }):
  wpAny (model prog w) A.in1 (do raiseNew (<- newExc (.type "StopIteration") [])) (λfin c=>∃v,fin=Fin.done (Flow.ret v)/\⇑1 (pure ↥v) Q E c) (λe c=>⇑1 (do if <- isInstance e (.type "StopIteration")then pure none else throw e) Q E c) s:=by
 refine aab ?_;simp only[newExc,newTuple];refine aab (abF ?_ (by size_fits));refine aab (m:=wT _ _) (yaa (a:=ft) (by first|rfl | (simp only[wT];rfl)) ?_);refine abF ?_ (by size_fits);simp only[raiseNew];refine aab (wpAny_handled ?_);rw[show A.in1.handled=none from j];refine aab (aaf (wpAny_throw ?_));refine aab (GM (T:="StopIteration") (b:=true) ⟨_,aax _ rfl,rfl⟩ Ps ?_);exact aaf (k _ ((g.push _).push _))
def AI{Q:Option Value->am->Prop}(a:s.heap.IsKeyIter it d i es.size ep)(l:jN s.heap d es ep)
  (b:(∃f:i<es.size,∀h',h'.IsKeyIter it d (i+1) es.size ep->iS it s.heap h'->Q ↥es[i].key { s with heap:=h' })\/A.handled=none/\es.size<=i/\∀h',rj it s.heap h'->Q none { s with heap:=h' }):⇑1 (o1 (.ref it)) Q E s:=by
 ext(⟨o,c,n,hd⟩:id a)(⟨q,j,p,g⟩:l);unfold o1;refine aab (adD (acO (name:=tv "__next__") a.typeIs lz (abP lz a.typeIs PySem.F.entry_dict_keyiterator_next ?_ (PySem.F.args_dict_keyiterator_next_1 _))));refine aab (aaf (aab (aab ?_)))
 first|refine aab (acS a.typeIs (aaf ?_))|refine aab (adi a.typeIs (aaf ?_))
 refine aab (Pm c hd ?_);simp only[show i7 "dict_keyiterator" = false by decide,adj,if_false];show wpAny _ _ (if (em d==ft)=true then _ else _) _ _ s;rw[zab (show ¬ ((em d==ft)=true) from zal)];refine aab (aaf (aab (acK j g ?_)));rw[zab ⇑5];refine aab (aaf (aab (ada j g ?_)));rw[zab ⇑5];refine aaf ?_;ext((⟨f,b⟩|⟨m,k,b⟩):b)
 ·simp only[show ¬ ((i:Int)<0) from by left,if_false,zaj,lm f];refine aab ?_
  first|refine aab (acS a.typeIs (aaf ?_))|refine aab (adi a.typeIs (aaf ?_))
  refine aab (V1 a.typeIs ?_);show wpAny _ _ (yaw (.ref it) 1 (vv ((i:Int)+1)) >>= _) _ _ s;refine aab (ad4 c hd ⇑5 ?_);have e:(s.heap.update it (rA (·.setIfInBounds 1 (vv ((i:Int)+1))))).IsKeyIter it d (i+1) es.size ep :=
   ⟨_,abO _ c (PM (ov hd _)),(Xk ..).trans n,by rw[ov hd];simp[vv]⟩
  refine aab (abS (aab (V1 (s:={ s with heap:=s.heap.update it (rA (·.setIfInBounds 1 (vv ((i:Int)+1)))) }) e.typeIs ?_)));show wpAny _ _ (pure es[i].key) _ _ _;exact aaf (aaf ⟨_,rfl,aaf (b _ e (abX ..))⟩)
 ·simp only[show ¬ ((i:Int)<0) from by left,if_false,zaj,hF k];refine aab ?_
  first|refine aab (acS a.typeIs (aaf ?_))|refine aab (adi a.typeIs (aaf ?_))
  show wpAny _ _ (yaw (.ref it) 0 .none >>= _) _ _ s;refine aab (ad4 c hd ⇑5 ?_);exact Iz m (abX ..).extBut b
def KD{Q:Option Value->am->Prop}(a:s.heap.IsKeyIter it d i es.size ep)(b:jN s.heap d es ep)(e:i<es.size)
  (c:∀h',h'.IsKeyIter it d (i+1) es.size ep->iS it s.heap h'->Q ↥es[i].key { s with heap:=h' }):⇑1 (o1 (.ref it)) Q E s:=AI a b (.inl ⟨e,c⟩)
def QP{Q:Option Value->am->Prop}(e:A.handled=none)(a:s.heap.IsKeyIter it d i es.size ep)(c:jN s.heap d es ep)(b:es.size<=i)
  (f:∀h',rj it s.heap h'->Q none { s with heap:=h' }):⇑1 (o1 (.ref it)) Q E s:=AI a c (.inr ⟨e,b,f⟩)
end
theorem E_:∀a b c:ae,HT.lexLt a b=true->HT.lexLt b c=true->HT.lexLt a c=true
 |[],[],_,h,_=>by rw[HT.kA]at h;cases h
 |[],_::_,[],_,h=>by rw[HT.cK]at h;cases h
 |[],_::_,_::_,_,_=>rfl
 |_::_,[],_,h,_=>by rw[HT.cK]at h;cases h
 |_::_,_::_,[],_,h=>by rw[HT.cK]at h;cases h
 |x::a,y::b,z::c,h1,h2=>by
  rw[HT.dR]at *;by_cases e1:x=y
  ·subst e1;rw[zac rfl]at h1;by_cases e2:x=z
   ·subst e2;rw[zac rfl]at h2 ⊢;exact E_ a b c h1 h2
   ·rw[zab e2]at h2 ⊢;exact h2
  ·rw[zab e1]at h1;have d:x<y:=aac h1;by_cases e2:y=z
   ·subst e2;exact[zab ⋯]\abC d
   ·rw[zab e2]at h2;have e:y<z:=aac h2;exact[zab ⋯]\abC ⋯
theorem pF:∀a b:ae,HT.lexLt a b=true->HT.lexLt b a=false
 |[],[],_=>rfl
 |[],_::_,_=>rfl
 |_::_,[],h=>by rw[HT.cK]at h;cases h
 |x::a,y::b,h=>by
  rw[HT.dR]at *;by_cases e:x=y
  ·subst e;rw[zac rfl]at h ⊢;exact pF a b h
  ·rw[zab e]at h;have l:x<y:=aac h;exact[zab ⋯]\adY ⋯
theorem tQ:∀a b:ae,a≠b->HT.lexLt a b=true\/HT.lexLt b a=true
 |[],[],h=>absurd rfl h
 |[],_::_,_=>.inl rfl
 |_::_,[],_=>.inr rfl
 |x::a,y::b,h=>by
  rw[HT.dR,HT.dR];by_cases e:x=y
  ·subst e;exact[zac rfl,zac rfl]\tQ a b λz=>h ⇑[z]
  ·rw[zab e,zab (ip e)];ext((l|l):Vd e)
   ·exact .inl (abC l)
   ·exact .inr (abC l)
def bh(nss:az):az:=nss.mergeSort λa b=>!HT.lexLt b a
def y4(nss:az):Prop:=nss.Pairwise λa b=>HT.lexLt a b=true
theorem zF:∀{l m:az},y4 l->y4 m->l.Perm m->l=m
 |[],m,_,_,p=>(List.perm_nil.mp p.symm).symm
 |a::l,[],_,_,p=>by have:=p.length_eq;simp at this
 |a::l,b::m,h1,h2,p=>by
  have e:a=b:=by
   have d:a∈b::m:=p.mem_iff.mp aag;have c:b∈a::l:=p.mem_iff.mpr aag;ext((e|d):c0.mp d)
   ·exact e
   ·ext((e|c):c0.mp c)
    ·exact e.symm
    ·ext(g:(mu.mp h2).1 a d)(f:(mu.mp h1).1 b c);rw[pF _ _ g]at f;cases f
  subst e;rw[zF (mu.mp h1).2 (mu.mp h2).2 (List.perm_cons a |>.mp p)]
def iO(h:nss.Nodup):y4 (bh nss):=by
 have p:(bh nss).Perm nss:=abI _ _;have nd:(bh nss).Nodup:=p.nodup_iff.mpr h;have i:(bh nss).Pairwise λa b=>(!HT.lexLt b a)=true:=J8 (λa b c d f=>by
  cases e:HT.lexLt c a with
  |false=>rfl
  |true =>
   exfalso;by_cases g:b=c
   ·subst g;rw[e]at d;cases d
   ·ext((l|l):tQ b c g)
    ·rw[E_ _ _ _ l e]at d;cases d
    ·rw[l]at f;cases f) (λa b=>by
  cases e:HT.lexLt b a with
  |false=>rfl
  |true=>rw[pF _ _ e];rfl) nss
 exact(i.and nd).imp λ{a b} ⟨d,f⟩=>by
  ext((l|l):tQ a b f)
  ·exact l
  ·rw[l]at d;cases d
def vk{l:az}(h:nss.Nodup)(a:y4 l)(p:l.Perm nss):l=bh nss:=zF a (iO h) (p.trans (abI _ _).symm)
def Ej{c j:Type}(f:c->j){l o:List j}(h:l.Perm o):∀m:List c,o=m.map f->∃q:List c,q.Perm m/\l=q.map f:=by
 induction h with
 |nil=>intro m e;exact⟨[],by rw[RP.mp e.symm],rfl⟩
 |cons x _ r =>
  intro m e;ext(⟨a,n,rfl,rfl,i⟩:ub.mp e.symm)(⟨q,g,d⟩:r n i.symm);exact⟨a::q,g.cons a,by rw[d];rfl⟩
 |swap x y l =>
  intro m e;ext(⟨a,n,rfl,rfl,i⟩:ub.mp e.symm)(⟨b,k,rfl,rfl,e2⟩:ub.mp i);exact⟨b::a::k,.swap a b k,by rw[<- e2];rfl⟩
 |trans _ _ t s =>
  intro m e;ext(⟨q,g,d⟩:s m e)(⟨p,v,u⟩:t q d);exact⟨p,v.trans g,u⟩
structure Arr(p:Array Nat)(n:Nat):Prop where
 sz:p.size=n
 pm:p.toList.Perm (eg n)
def Jd(nss:az)(ns:ae):Int:=((bh nss).idxOf ns:Nat)
def Ec(h:nss.Nodup){a b:ae}(l:a∈nss)(k:b∈nss):decide (Jd nss a<Jd nss b)=HT.lexLt a b:=by
 have j:(bh nss).Perm nss:=abI _ _;ext(r:iO h)(f:acr (j.mem_iff.mpr l))(d:acr (j.mem_iff.mpr k));have i:(bh nss)[(bh nss).idxOf a]=a:=adk f;have g:(bh nss)[(bh nss).idxOf b]=b:=adk d;ext(up:gr.mp r);unfold Jd;cases e:HT.lexLt a b with
 |true =>
  refine abC ?_;rcases adv ((bh nss).idxOf a) ((bh nss).idxOf b)with c|c|c
  ·left
  ·have:a=b:=by rw[<- i,<- g];congr 1
   subst this;rw[pF _ _ e]at e;cases e
  ·have:=up _ _ d f c;rw[i,g,pF _ _ e]at this;cases this
 |false =>
  refine adY λc=>?_;have:=up _ _ f d ⋯;rw[i,g,e]at this;cases this
def Jc{a b:ae}(i:a∈nss)(g:b∈nss)(e:Jd nss a=Jd nss b):a=b:=by
 have c:(bh nss).Perm nss:=abI _ _;ext(f:acr (c.mem_iff.mpr i))(d:acr (c.mem_iff.mpr g));have k:(bh nss)[(bh nss).idxOf a]=a:=adk f;have j:(bh nss)[(bh nss).idxOf b]=b:=adk d;unfold Jd at e;rw[<- k,<- j];congr 1;left
theorem Ac:∀{b:aw} {ns a:ae},h9 b ns->h9 b a->ns=a
 |_,_,_,.nil,.nil=>rfl
 |_,_,_,.cons n t h,.cons _ _ h'=>by rw[Ac h h']
def Ik(t:md h vs nss){i j:Nat}(g:i<nss.length)(f:j<nss.length)(e:vs[i]?=vs[j]?):nss[i]=nss[j]:=by
 ext(⟨x,m,e1,⟨o,k,_,r,l⟩,d⟩:t.2 i _ (aaA g))(⟨y,n,e2,⟨p,b,_,q,a⟩,c⟩:t.2 j _ (aaA f));rw[e1,e2]at e;cases e;rw[k]at b;cases b;rw[l]at a;injection a with a _;have:m=n:=⇑a
 subst this;exact Ac d c
structure Fn(vs:aw)(nss:az):Prop where
 l:vs.length=nss.length
 f:∀(i j:Nat) (hi:i<nss.length) (hj:j<nss.length),vs[i]?=vs[j]?->nss[i]=nss[j]
def md.fn(t:md h vs nss):Fn vs nss:=⟨t.1,λi j b a e=>Ik t b a e⟩
meta def Ru(vs:aw)(nss:az)(x:Keyed):Int:=by
 classical
 exact if h:∃i,i<nss.length/\vs[i]?=↥x.1 then Jd nss (nss.getD h.choose [])else 0
def o8(t:Fn vs nss){i:Nat}(c:i<nss.length){x:Keyed}(e:vs[i]?=↥x.1):Ru vs nss x=Jd nss nss[i]:=by
 have b:∃i,i<nss.length/\vs[i]?=↥x.1:=⟨i,c,e⟩
 have a:=b.choose_spec;unfold Ru;rw[dif_pos b];have:nss[b.choose]'a.1=nss[i]:=t.f _ _ a.1 c (a.2.trans e.symm);rw[<- this];simp[a.1]
variable {ep:Nat}
section
variable {prog:aG}{w:World}{A:aF}{E:aB}{s:am}
def JC{k:hV}(p:nss.Nodup)(t:Fn vs nss)(g:∀(i j:Nat) (c:i<nss.length) (f:j<nss.length) (a b:Value) (u:aB) (Q:Bool->am->Prop),vs[i]?=↥a->vs[j]?=↥b->Q (HT.lexLt nss[i] nss[j]) s->⇑1 (keyLt' k a b) Q u s):TS.qW prog w A E s k (tr vs) (Ru vs nss):=by
 have d:∀x∈(tr vs).toList,∃i,∃c:i<nss.length,vs[i]?=↥x.1:=λx e=>by
  rw[nw]at e;ext(⟨i,c⟩:g7.mp e);rw[lp]at c;have g:i<nss.length:=by
   rw[<- t.l];obtain⟨h,_⟩:=bi.mp c.1;exact h
  exact⟨i,g,c.1⟩
 intro x y e r v Q q m;ext(⟨i,c,o⟩:d x e)(⟨j,f,n⟩:d y r);rw[o8 t c o,o8 t f n,Ec p (zr c) (zr f)]at m;rw[lt'_eq];refine aaz (ac6 ?_);rw[q];refine aaz (zC (adD (g i j c f x.1 y.1 _ _ o n ⟨rfl,?_⟩)));exact aap m
def AK(g:nss.Nodup)(t:Fn vs nss):TS.Wv (tr vs) (Ru vs nss):=by
 have inj:∀x∈(tr vs).toList,∃i,∃a:i<nss.length,vs[i]?=↥x.1/\vs[i]?=↥x.2:=λx c=>by
  rw[nw]at c;ext(⟨i,a⟩:g7.mp c);rw[lp]at a;have o:i<nss.length:=by
   rw[<- t.l];obtain⟨h,_⟩:=bi.mp a.1;exact h
  exact⟨i,o,a.1,a.2⟩
 refine⟨?_,λx c y m e=>?_⟩
 ·rw[nw];refine gr.mpr λi j a b p e=>?_;rw[zaZ,zbM]at a b;rw[XH,XH]at e;have n:vs[i]?=vs[j]?:=[ce a,ce b]\aa5 some (Prod.ext_iff.mp e).1
  have:=t.f i j ([-t.l]\a) ([-t.l]\b) n;have:=(adE g).mp this;left
 ·ext(⟨i,a,e1,e2⟩:inj x c)(⟨j,b,d,k⟩:inj y m);rw[o8 t a e1,o8 t b d]at e;have:=(adE g).mp (Jc (aaU a) (aaU b) e);subst this;rw[e1]at d;rw[e2]at k;exact Prod.ext (aaI d) (aaI k)
def DT{z:hV}(m:nss.Nodup)(t:Fn vs nss){b:f8}(B:TS.SB (tr vs) z b)(O:TS.On (Ru vs nss) (arrOf b) 0 (tr vs).size):∃p,Arr p vs.length/\(p.toList.map λi=>nss.getD i [])=bh nss/\(arrOf b).map (·.2)=iv (p.toList.map λi=>vs.getD i ft)/\tt b=none:=by
 have C:=t.l;have e0:(tr vs).toList=(eg vs.length).map λi=>(vs.getD i ft,vs.getD i ft):=by
  rw[nw];refine ac4 ⇑5 λi f F=>?_;rw[zaZ,zbM]at f;simp[f]
 ext(⟨q,c,eq⟩:Ej _ (io.mp B.perm) _ e0);have I:(tr vs).size=vs.length:=by rw[<- zao,e0];simp
 have r:q.length=vs.length:=by rw[c.length_eq];simp
 have n:∀i∈q,i<vs.length:=λi a=>g8.mp (c.mem_iff.mp a);ext(D:AK m t);refine⟨q.toArray,⟨by simp[r],⇑c⟩,?_,?_,B.failed⟩
 ·refine vk m ?_ ?_
  ·refine gr.mpr λi j a d J=>?_;simp only[zaa]at a d;have a:i<q.length:=⇑a
   have d:j<q.length:=⇑d
   ext(o:O i j (aa7 _) ⋯ ⋯)(ne:D.ne B (i:=i) (j:=j) ⋯ ⋯ ⋯);have g:∀k (u:k<q.length),∃y:q[k]<nss.length,TS.R (Ru vs nss) (arrOf b) k=Jd nss nss[q[k]]:=λk u=>by
    ext(y:n q[k] (aaU u));refine⟨by left,?_⟩;have e1:(arrOf b)[k]?=↥(vs.getD q[k] ft,vs.getD q[k] ft):=by
     rw[<- fx,eq,bv,ce u];rfl
    exact[TS.gp e1]\o8 t ⋯ (by simp[y])
   ext(⟨x,H⟩:g i a)(⟨v,G⟩:g j d);rw[H,G]at o ne;have:=Ec m (aaU x) (aaU v);rw[zaH ⋯]at this;simp only[List.getElem_map,List.toList_toArray];simpa [x,v]using this.symm
  ·have e:nss=(eg nss.length).map λi=>nss.getD i []:=by
    refine ac4 ⇑5 λi f F=>?_;simp[f]
   conv=>rhs;rw[e]
   rw[C]at c;exact(⇑c:q.toArray.toList.Perm _).map _
 ·apply Vn.mp;rw[Vm,eq,zah];simp[Pf]
def DB{a:Addr}{n:Nat}{P:PySem.Fin->am->Prop}(t:s.heap.get? a=↥(f6 "list" vs.toArray n))(T:vs.length<100000)(m:nss.Nodup)
  (o:Fn vs nss) (K:hV->Prop) (x:vs≠[]->∀Q:hV->am->Prop,(∀d,K d->Q d ({ s with heap:=((s.heap.update a (ej λ_=>#[])).push (f6 "tuple" vs.toArray 0)).push (f6 "list" #[] 0) }:am))->⇑1 (keyKind' vs.toArray) Q E ({ s with heap:=((s.heap.update a (ej λ_=>#[])).push (f6 "tuple" vs.toArray 0)).push (f6 "list" #[] 0) }:am))
  (N:∀d,K d->∀(i j:Nat) (F:i<nss.length) (D:j<nss.length) (I H:Value) (S:aB) (Q:Bool->am->Prop),vs[i]?=↥I->vs[j]?=↥H->Q (HT.lexLt nss[i] nss[j]) ({ s with heap:=((s.heap.update a (ej λ_=>#[])).push (f6 "tuple" vs.toArray 0)).push (f6 "list" #[] 0) }:am)->⇑1 (keyLt' d I H) Q S ({ s with heap:=((s.heap.update a (ej λ_=>#[])).push (f6 "tuple" vs.toArray 0)).push (f6 "list" #[] 0) }:am))
  (h:∀p:Array Nat,Arr p vs.length->(p.toList.map λi=>nss.getD i [])=bh nss->P (.done (.ret .none)) { s with heap:=sortedHeap s.heap a vs (iv (p.toList.map λi=>vs.getD i ft)) }) :
  ⇑1 (nf.«list.sort» ⟨[.ref a],[]⟩) P E s:=by
 rw[list_sort_plain];have V:a<s.heap.objs.size:=aan t;have f:vs.toArray.size=vs.length:=by simp
 have u:vs.length<=sizeLine:=by rw[i8];left
 have L:=o.l;refine aab (FN t rfl (aab (Sc t rfl ?_ ([f]\u) (aa7 _))));obtain⟨e1,J⟩:∃e1,(s.heap.update a (ej λ_=>#[])).get? a=↥(f6 "list" #[] e1):=⟨_,get?_update_seq t (λ_=>#[])⟩
 refine aab (seqEpoch_at J rfl (aab (wpAny_newTuple (aab (adC (abS ?_) (aa7 _))) ⇑u)));have g:(((s.heap.update a (ej λ_=>#[])).push (f6 "tuple" vs.toArray 0)).push (f6 "list" #[] 0)).get? a=↥(f6 "list" #[] e1):=aai _ (aai _ J);show ⇑1 _ P E ({ s with heap:=((s.heap.update a (ej λ_=>#[])).push (f6 "tuple" vs.toArray 0)).push (f6 "list" #[] 0) }:am);dsimp only;have fin:∀(c:f8) (p:Array Nat),Arr p vs.length->(p.toList.map λi=>nss.getD i [])=bh nss->(arrOf c).map (·.2)=iv (p.toList.map λi=>vs.getD i ft)->tt c=none->⇑1 (do
   let touched:=(<- seqEpoch a) != e1
   xA (.ref a) λ_=>(arrOf c).map (·.2)
   if let some e:=tt c then rule "list.sort.comparison-raised";throw e
   if touched then rule "list.sort.modified";raiseError "ValueError" "list modified during sort"
   ret .none) P E ({ s with heap:=((s.heap.update a (ej λ_=>#[])).push (f6 "tuple" vs.toArray 0)).push (f6 "list" #[] 0) }:am):=by
  intro c p q v C y;refine aab (seqEpoch_at g rfl ?_);rw[C];refine aab (Sc g rfl ?_ (aa7 _) ([zad,zaa,zao,q.sz]\acT u));rw[y];simp only[bne_self_eq_false,zaq,if_false];exact aaf (h p q v)
 by_cases b:vs.toArray.size<2
 ·rw[zac b,zac b];refine aab (aaf ?_);rw[StateT.run_pure];refine aab (aaf ?_);rw[f]at b;have k:Arr (iv (eg vs.length)) vs.length:=⟨by simp,by simp⟩
  refine fin (yaV general' (vs.toArray.zip vs.toArray) #[] 7 none) (iv (eg vs.length)) k ?_ ?_ rfl
  ·rw[L]at k ⊢;refine vk m (gr.mpr λi j F D X=>?_) ?_
   ·simp at F D;left
   ·exact List.Perm.of_eq (ac4 ⇑5 λi G b=>by simp[b])
  ·apply Vn.mp;show(Array.map (·.2) (vs.toArray.zip vs.toArray)).toList=_;rw[Vm,show(vs.toArray.zip vs.toArray)=tr vs from rfl,nw,Xs (zbZ _)];refine ac4 ⇑5 λi G b=>?_;simp[G]
 ·rw[zab b,zab b];rw[f]at b;refine aab (x (λz=>by rw[z]at b;simp at b) _ λd M=>?_);have W:=TS.C6 (prog:=prog) (w:=w) (A:=A) (E:=E) (s:=({ s with heap:=((s.heap.update a (ej λ_=>#[])).push (f6 "tuple" vs.toArray 0)).push (f6 "list" #[] 0) }:am)) (st:=yaV d (tr vs) #[] 7 none) (Q:=λ_ c=>∃p,Arr p vs.length/\(p.toList.map λi=>nss.getD i [])=bh nss/\(arrOf c).map (·.2)=iv (p.toList.map λi=>vs.getD i ft)/\tt c=none) (JC m o (N d M)) (AK m o) ⟨Array.Perm.refl _,rfl,rfl⟩ rfl (by
   have:(tr vs).toList.length=vs.length:=by rw[nw,zaZ,zbM]
   rw[zao]at this;left) λc B O=>DT m o B O
  refine aab (aaX W (λr U R=>?_) λ_ _ e=>e);ext(⟨e,p,q,v,C,y⟩:R);subst e;exact fin r.2 p q v C y
def rm{a:Addr}{n:Nat}{P:PySem.Fin->am->Prop}(q:A.units<cLine)(t:s.heap.get? a=↥(f6 "list" vs.toArray n))(e:vs.length<100000)(f:nss.Nodup)
  (b:md (((s.heap.update a (ej λ_=>#[])).push (f6 "tuple" vs.toArray 0)).push (f6 "list" #[] 0)) vs nss)
  (h:∀p:Array Nat,Arr p vs.length->(p.toList.map λi=>nss.getD i [])=bh nss->P (.done (.ret .none)) { s with heap:=sortedHeap s.heap a vs (iv (p.toList.map λi=>vs.getD i ft)) }) :
  ⇑1 (nf.«list.sort» ⟨[.ref a],[]⟩) P E s :=
 DB t e f b.fn Ht (λg Q B=>kind_any b g B) (λC u i j z v G D H Q d c r=>by
  ext(⟨x,F,e1,o,m⟩:b.2 i _ (aaA z))(⟨y,I,e2,l,k⟩:b.2 j _ (aaA v));rw[e1]at d;rw[e2]at c;cases d;cases c;exact OH u q o l m k r) h
def GD{es:Array mX}(p:A.handled=none)(I d:Addr)(n:d≠I):Walks prog w A I [I,d] [I] es.size (λi v=>∃e,es[i]?=↥e/\v=e.key) (λi h=>h.IsKeyIter I d i es.size ep/\jN h d es ep) where
 sub:=λb c=>by simp at c;simp[c]
 frame:=λ_ _ _ a k=>⟨a.1.at λo e=>k I ⇑5 o e,let ⟨o,ho,r⟩:=a.2;⟨o,k d ⇑5 o ho,r⟩⟩
 item:=λi s Q E l a f=>KD a.1 a.2 l λh' m j=>f _ h' s.toks ⟨es[i],ab3 l,rfl⟩ ⟨m,let ⟨o,ho,r⟩:=a.2;⟨o,j.extBut d o n ho,r⟩⟩ λb o c e=>j.extBut b o (λh=>c (by simp[h])) e
 done:=λs Q E a f=>QP p a.1 a.2 (aao _) λh' g=>f h' s.toks λb o c e=>g b o (λh=>c (by simp[h])) e
 self:=λ_ _ _ _ a f=>wpAny_pyIter_keyiter a.1 f
def QO{d:Addr}{es:Array mX}(lo:(d==kw)=false):PySem.W.KdlSrc prog w "dict" d d es.size (λi v=>∃e,es[i]?=↥e/\v=e.key) (λh=>jN h d es ep) where
 type:=λ_ a=>a.typeIs
 there:=λ_ a=>let ⟨_,ho,_⟩:=a;⟨aan ho,aan ho⟩
 keep:=λ_ _ a c=>let ⟨o,ho,r⟩:=a;⟨o,c d (.inl rfl) o ho,r⟩
 notList:=by decide
 notTuple:=by decide
 hint:=λ_ _ _ _ a b=>PySem.W.kdl_hint_dict a.typeIs b
 iter:=λ_ _ f a=>⟨_,_,(λ_ _ b=>KG lo a b),GD f _ d (let ⟨_,ho,_⟩:=a;aaw (aan ho)),⟨⟨_,aax _ rfl,rfl,rfl⟩,let ⟨o,ho,r⟩:=a;⟨o,aai _ ho,r⟩⟩⟩
theorem vh{d:Addr}{es:Array mX}(G:A.handled=none)(K:A.units+2<cLine)(lo:(d==kw)=false)(D:jN s.heap d es ep)(J:es.size<1000)(v:nss.Nodup)(z:md s.heap (es.toList.map (·.key)) nss)
  (h:∀(S:Addr) (h':Heap) (tk e:Nat) (p:Array Nat),s.heap.get? S=none->(∀b o,s.heap.get? b=↥o->h'.get? b=↥o)->Arr p es.size->(p.toList.map λi=>nss.getD i [])=bh nss ->
   h'.get? S=↥(f6 "list" (iv (p.toList.map λi=>(es.toList.map (·.key)).getD i ft)) e)->Q (.ref S) { s with heap:=h',toks:=tk }) :
  ⇑1 (call (.builtin "sorted") [.ref d]) Q E s:=by
 refine ac9 yag WP WV (Xc _) ?_;unfold nf.«sorted»;have t:es.size<=sizeLine:=by rw[i8];left
 refine aab (m:=yaQ "sorted" 1 1 _) (aaf (aab (PySem.W.kdu_collect (A:=A.in1) (QO lo) G D t λa tk c f k=>?_)));have I:c.toList=es.toList.map (·.key):=by
  refine aea λi=>?_;rw[bv,fx,fx];by_cases F:i<es.size
  ·have r:i<c.size:=[k.1]\F
   ext(⟨e,j,y⟩:k.2 i c[i] (ab3 r));rw[lm r,j,y];rfl
  ·rw[hF (by rw[k.1];left),hF ⋯];rfl
 rw[I];generalize H:es.toList.map (·.key)=vs at *;have n:vs.length=es.size:=by rw[<- H];simp
 refine aab (adC ?_ ([n]\t));show wpAny _ _ _ _ _ ({ s with heap:=a.push (f6 "list" vs.toArray 0),toks:=tk }:am);have l:(a.push (f6 "list" vs.toArray 0)).get? a.objs.size=↥(f6 "list" vs.toArray 0):=aax _ rfl;have x:∀b o,s.heap.get? b=↥o->((((a.push (f6 "list" vs.toArray 0)).update a.objs.size (ej λ_=>#[])).push (f6 "tuple" vs.toArray 0)).push (f6 "list" #[] 0)).get? b=↥o:=λb o e=>by
  refine aai _ (aai _ ?_);exact[rN _ _ (zbv (yw (f b o e)))]\aai _ (f b o e)
 have g:s.heap.get? a.objs.size=none:=by
  cases q:s.heap.get? a.objs.size with
  |none=>rfl
  |some o=>exact absurd (aan (f _ o q)) (abb _)
 refine aab (abS (abP Pn ⟨_,l,rfl⟩ LZ (rm (s:={ s with heap:=a.push (f6 "list" vs.toArray 0),toks:=tk }) (nss:=nss) (show A.in1.in1.units<cLine by show A.units+1+1<cLine;left) l (by rw[n];left) v (z.mono x) λp C B=>⟨_,rfl,?_⟩) (Pv _)));ext(⟨e,j⟩:sortedHeap_at (out:=iv (p.toList.map λi=>vs.getD i ft)) l);refine aaf ⟨_,rfl,h a.objs.size _ tk e p g (λb o e=>?_) ([-n]\C) B j⟩;ext(u:aan (f b o e));exact[sortedHeap_old (zbJ u) ([Rs]\yn u)]\aai _ (f b o e)
end
variable {X:Cx}
def Inv.Uc{pins:au}{c:St}{H:Hp}{s:am}{t':Nat}{a:Addr}{o:HO}(I:Inv X pins c H s)(k:∀b u,s.heap.get? b=↥u->h'.get? b=↥u)(g:s.heap.get? a=none)(new:cN (upd H a o) h' a o):
  H a=none/\Inv X pins c (upd H a o) { s with heap:=h',toks:=t' }:=by
 have f:H a=none:=by
  cases q:H a with
  |none=>rfl
  |some u =>
   ext(⟨z,d⟩:gF (I.cI a u q));rw[g]at d;exact nk d
 have up:∀b u,H b=↥u->upd H a o b=↥u:=λb u e=>[bt (dQ e f)]\e
 refine⟨f,I.step (g':=s.gens) (d':=s.drawn) (ch:=[]) (λb l=>nomatch l) (λb o _ _ _ e _=>k b o e) (λb o _ _ _ e _=>⟨o.slots,k b o e⟩) (λb u _ e n=>?_)
  (λb o _ e=>⟨o,k b o e⟩) (λ_ _ e=>up _ _ e) (λ_ _ _ e=>up _ _ e) (λm j=>?_) (λb u e=>?_) I.bare⟩
 ·rw[bt λz=>by rw[z,g]at e;cases e];exact n
 ·ext(⟨o,p,ep,i,r⟩:j);exact⟨o,p,ep,k _ o i,r⟩
 ·by_cases z:b=a
  ·subst z;rw[aT]at e;cases e;exact new
  ·rw[bt z]at e;exact(I.cI b u e).lK (k b)
section
variable {X:Cx}{pins:au}{σ:St}{H:Hp}{s:am}{d:Addr}{cs:az}{as:aX}{xs:ah}{ep:Nat}
def N1(I:Inv X pins σ H s)(h:H d=↥(.ext (DO d cs as xs ep))):∃a:Array mX,jN s.heap d a ep/\a.size=as.length/\a.toList.map (·.key)=as.map em/\cs.Nodup/\as.length=cs.length/\(d==kw)=false:=by
 obtain⟨⟨i,o,a,e1,e2,e3,f,c,hd,b,g,j,e⟩,_⟩:=(show cN H s.heap d (.ext (DO d cs as xs ep)) from I.cI d _ h)
 refine⟨a,⟨o,f,c,hd⟩,?_,?_,g,?_,e⟩
 ·rw[<- zao,b,<- e2,zaa,zaa]
 ·rw[b,<- e2,zah,zah];rfl
 ·rw[<- e1,<- e2,zaa,zaa]
end
theorem gH(g:Fl->Fl):∀a:az,ao g (a.map cH)=a.map cH
 |[]=>rfl
 |c::a=>by
  show aJ g (cH c)::ao g (a.map cH)=_;rw[gH g a];have:∀c:ae,ao g (c.map D.int)=c.map D.int:=λc=>by
   induction c with
   |nil=>rfl
   |cons i c b=>show D.int i::ao g (c.map D.int)=_;rw[b];rfl
  show D.tup (ao g (c.map D.int))::_=_;rw[this];rfl
variable {N:k_}{T:qv}
def IY{k:bw}{a:Addr}{c:ae}(h:T a (c.map V.int)):Rep T N k (.ref a) (cH c):=.tup h (aH.ints c)
def yQ(R:X.calm=true)(J:X.A.units+2<cLine):fJ X (.builtin "sorted") (λw H Q=>∃(d:Addr) (cs:az) (as:aX) (v:ah) (ep:Nat),w=[.ref d]/\H d=↥(.ext (DO d cs as v ep))/\dk (a_ X.K H) as cs/\cs.length<1000 /\
  ∀(l:Addr) (bs:aX),H l=none->dk (a_ X.K H) bs (bh cs)->Q (.ref l) (upd H l (.lst (bs.map V.ref)))):=by
 intro pins s σ H w us Q I r h;ext(⟨d,cs,as,v,ep,rfl,hd,x,z,q⟩:h)(⟨u,rfl,B⟩:r.one);cases B;ext(⟨W,FE,G,y,Y,hlen,BZ⟩:N1 I hd);have L:md s.heap (W.toList.map (·.key)) cs:=by
  rw[y];refine⟨by rw[zaa,hlen],λi ns e=>?_⟩;have f:i<as.length:=[hlen]\(bi.mp e).1
  ext(⟨BN,C,E,_⟩:I.tuple (x.tup i as[i] ns (aaA f) e));exact⟨as[i],BN,by rw[bv,ce f];rfl,E,du C⟩
 refine vh (I.ok.hd R) J BZ FE ([G,hlen]\z) Y L λS h' tk e p U Z g O k=>?_;rw[y]at k;have Pk:(p.toList.map λi=>(as.map em).getD i ft)=(p.toList.map λi=>as.getD i 0).map em:=by
  rw[zah];refine aaZ λi f=>?_;have t:i<as.length:=by
   have:=g8.mp (g.pm.mem_iff.mp f);left
  simp[t]
 rw[Pk]at k;have Py:dk (a_ X.K H) (p.toList.map λi=>as.getD i 0) (bh cs):=by
  rw[<- O];refine⟨by simp,λj a c b n=>?_⟩;rw[bv]at b n;cases m:p.toList[j]? with
  |none=>rw[m]at b;exact nk b
  |some i =>
   rw[m]at b n;have t:i<as.length:=by
    have:=g8.mp (g.pm.mem_iff.mp (aa6 m));left
   cases b;cases n;exact x.tup i _ _ (by simp[t]) (by simp[show i<cs.length by left])
 have D:∀l:aX,Vals (l.map V.ref) (l.map em):=λl=>by
  induction l with
  |nil=>exact .nil
  |cons a l F=>exact .cons rfl F
 have M:sizeLine=16777216:=acj;ext(⟨P,I'⟩:Inv.Uc (t':=tk) (o:=.lst ((p.toList.map λi=>as.getD i 0).map V.ref)) I Z U ⟨by rw[zaa,zaa,zao,g.sz];left,_,e,D _,k⟩);exact⟨.ref S,_,I',rfl,q S _ P Py⟩
def qa(xs:aa):O D:=match one xs with
 |some d=>match iB d with
  |some z=>if z.1.length<1000 then ok (.ow\((bh z.1).map cH))else none
  |none=>none
 |none=>none
variable {xs:aa}
def Cj{r:D}(h:qa xs=ok r):∃f c vs,xs=[.cF f c vs]/\c.length<1000/\r=.ow\((bh c).map cH):=by
 unfold qa at h;cases b:one xs with
 |none=>rw[b]at h;exact nk h
 |some d =>
  rw[b]at h;have h:(match iB d with|↥z=>if z.1.length<1000 then ok (D.lst .ow ((bh z.1).map cH))else none|none=>none)=ok r:=h;cases a:iB d with
  |none=>rw[a]at h;exact nk h
  |some z =>
   rw[a]at h;ext(⟨g,rfl⟩:qN (show(if z.1.length<1000 then ok (D.lst .ow ((bh z.1).map cH))else none)=ok r from h))(⟨f,e⟩:lZ a);exact⟨f,z.1,z.2,by rw[bM b,e],g,rfl⟩
theorem mJ{T:qv}{N:k_}:∀{bs:aX} {cs:az} {k:bw} {n:Nat},dk T bs cs->aH T N k n (bs.map V.ref) (cs.map cH)
 |[],[],_,_,_=>.nil
 |[],_::_,_,_,h=>by have:=h.len;simp at this
 |_::_,[],_,_,h=>by have:=h.len;simp at this
 |b::bs,c::cs,_,_,h=>.cons (IY (h.tup 0 b c rfl rfl)) (mJ ⟨by have:=h.len;simpa using this,λj a f e d=>h.tup (j+1) a f e d⟩)
def Gx:MZ (gn ("sorted" : Str)) qa:=by
 intro q n m X S bl k L e args r F W g;ext(⟨p,j,a,rfl,rfl,I,G⟩:kf r)(⟨c,rfl⟩:g.c1);have y:PA X [a] (ri X F q [c]):=PA.imp (b0 g.1 (PA.imp cZ λ_ _ _ h=>jW h) (g.2.1 _)) λ_ _ _ h=>fY h;have B:X.A.units+2<cLine:=aaV (aaC (by decide:2<=64) _) L.room.units;have this:PE X (.Call (.Name ("sorted" : Str) p) [a] [] j) (tD X F q (.cJ n [c])):=by
  refine PE.imp (cU (yQ L.calm B) (L.gl I) (L.bl _ G) ⇑6 y (he:=g.2.1 _)) λO H Q o=>?_;ext(⟨R,t,u,d,K,i,o⟩:o)(⟨xs,J,i⟩:aI i);rw[m]at i;ext(⟨f,z,vs,rfl,D,rfl⟩:Cj i);refine⟨R,t,u,_,K,J,λP Y e1 r1=>?_⟩;ext(⟨s,V,x⟩:r1)(⟨v,rfl,w⟩:x.one);cases w with
  |cF C E U =>
   refine⟨_,z,_,_,_,rfl,C.dat,E,D,λl bs b M=>o _ _ (e1.trans (aL.upd b)) (ck.qJ (e1.free b) (e1.trans (aL.upd b)) aT ?_)⟩;exact mJ (M.imp λ_ _ h=>a_.same (aL.upd b) h)
 exact⟨this,cQ this λ_=>rfl⟩
section
variable {X:Cx}{pins:au}{σ:St}{H:Hp}{s:am}{d:Addr}{cs:az}{as:aX}{xs:ah}{ep:Nat}
def S_(I:Inv X pins σ H s)(h:H d=↥(.ext (DO d cs as xs ep))):∃a:Array mX,jN s.heap d a ep/\a.size=as.length/\a.toList.map (·.key)=as.map em/\Vals xs (a.toList.map (·.val))/\as.length=cs.length/\(d==kw)=false:=by
 obtain⟨⟨g,o,a,e1,e2,e3,f,c,hd,b,i,j,e⟩,_⟩:=(show cN H s.heap d (.ext (DO d cs as xs ep)) from I.cI d _ h)
 refine⟨a,⟨o,f,c,hd⟩,?_,?_,?_,?_,e⟩
 ·rw[<- zao,b,<- e2,zaa,zaa]
 ·rw[b,<- e2,zah,zah];rfl
 ·exact[b,zah]\e3
 ·rw[<- e1,<- e2,zaa,zaa]
end
section
variable {prog:aG}{w:World}{A:aF}{E:aB}{s:am}{d it:Addr}{es:Array mX}{ep i:Nat}
def Gw(d:Addr)(hd:(d==kw)=false):MeetsIn prog w (nf.«dict.values» ⟨[.ref d],[]⟩) (λ_ R s=>(∃es ep,jN s.heap d es ep)/\R (.ok (.ret (.ref s.heap.objs.size))) { s with heap:=s.heap.push { cls:=.type "dict_values",data:=.fields #[.ref d] } }) :=
 .of_wp λA R s b=>by
  ext(⟨⟨_,_,a⟩,h⟩:b);refine aab ?_;unfold yb8;refine aab (adS a.typeIs ?_);show wpAny _ _ (pure d) _ _ s;refine aaf ?_;show wpAny _ _ (mo d >>= _) _ _ s;unfold mo;exact[zab ([hd]\zal)]\aab (aaf (aab (abF (aaf ⟨_,rfl,h⟩))))
def Kx{v:Addr}(a:s.heap.IsValuesView v d)(g:jN s.heap d es ep)
  (k:Q (.ref s.heap.objs.size) { s with heap:=s.heap.push { cls:=.type "dict_valueiterator",data:=.fields #[.ref d,.int 0 0,.int es.size 0,.int ep 0] } }):⇑1 (rO (.ref v)) Q E s:=by
 ext(⟨l,b,j,c⟩:id a)(⟨o,e,m,f⟩:g);refine yaJ a.typeIs P3 (abP P3 a.typeIs F.entry_dict_values_iter ?_ (F.args_dict_values_iter_1 _));unfold nf.«dict_values.__iter__»;refine aab (aaf (aab ?_));unfold Vh;refine aab (ad5 b c (x:=.ref d) rfl (aaf (aab ?_)));unfold Vf;refine aab (acK e f (aab (ada e f ?_)));simp only[show i7 "dict_valueiterator" = false by decide,adj,if_false];refine abF (aaf ⟨_,rfl,"dict_valueiterator",_,⟨_,aax _ rfl,rfl⟩,F.slot_dict_valueiterator_next.lookup,?_⟩);simpa [vv]using k
def Kw{Q:Option Value->am->Prop}(a:s.heap.IsValIter it d i es.size ep)(g:jN s.heap d es ep)(l:i<es.size)
  (k:∀h',h'.IsValIter it d (i+1) es.size ep->iS it s.heap h'->Q ↥es[i].val { s with heap:=h' }):⇑1 (o1 (.ref it)) Q E s:=by
 ext(⟨o,c,j,hd⟩:id a)(⟨n,f,m,e⟩:g);unfold o1;refine aab (adD (acO (name:=tv "__next__") a.typeIs ab9 (abP ab9 a.typeIs CP ?_ (zv _))));refine aab (aaf (aab (aab ?_)))
 first|refine aab (acb a.typeIs (aaf ?_))|refine aab (acM a.typeIs (aaf ?_))
 refine aab (Pm c hd ?_);simp only[show i7 "dict_valueiterator" = false by decide,adj,if_false];show wpAny _ _ (if (em d==ft)=true then _ else _) _ _ s;rw[zab (show ¬ ((em d==ft)=true) from zal)];refine aab (aaf (aab (acK f e ?_)));rw[zab ⇑5];refine aab (aaf (aab (ada f e ?_)));rw[zab ⇑5];refine aaf ?_;simp only[show ¬ ((i:Int)<0) from by left,if_false,zaj,lm l];refine aab ?_
 first|refine aab (acb a.typeIs (aaf ?_))|refine aab (acM a.typeIs (aaf ?_))
 refine aab (adT a.typeIs ?_);show wpAny _ _ (yaw (.ref it) 1 (vv ((i:Int)+1)) >>= _) _ _ s;refine aab (ad4 c hd ⇑5 ?_);have b:(s.heap.update it (rA (·.setIfInBounds 1 (vv ((i:Int)+1))))).IsValIter it d (i+1) es.size ep :=
  ⟨_,abO _ c (PM (ov hd _)),(Xk ..).trans j,by rw[ov hd];simp[vv]⟩
 refine aab (abS ?_);refine aab (adT (s:={ s with heap:=s.heap.update it (rA (·.setIfInBounds 1 (vv ((i:Int)+1)))) }) b.typeIs ?_);refine aab (adT (s:={ s with heap:=s.heap.update it (rA (·.setIfInBounds 1 (vv ((i:Int)+1)))) }) b.typeIs ?_);show wpAny _ _ (pure es[i].val) _ _ _;exact aaf (aaf ⟨_,rfl,aaf (k _ b (abX ..))⟩)
def QK{Q:Option Value->am->Prop}(l:A.handled=none)(c:s.heap.IsValIter it d i es.size ep)(k:jN s.heap d es ep)(j:es.size<=i)
  (n:∀h',rj it s.heap h'->Q none { s with heap:=h' }):⇑1 (o1 (.ref it)) Q E s:=by
 ext(⟨o,e,r,hd⟩:id c)(⟨q,g,p,f⟩:k);unfold o1;refine aab (adD (acO (name:=tv "__next__") c.typeIs ab9 (abP ab9 c.typeIs CP ?_ (zv _))));refine aab (aaf (aab (aab ?_)))
 first|refine aab (acb c.typeIs (aaf ?_))|refine aab (acM c.typeIs (aaf ?_))
 refine aab (Pm e hd ?_);simp only[show i7 "dict_valueiterator" = false by decide,adj,if_false];show wpAny _ _ (if (em d==ft)=true then _ else _) _ _ s;rw[zab (show ¬ ((em d==ft)=true) from zal)];refine aab (aaf (aab (acK g f ?_)));rw[zab ⇑5];refine aab (aaf (aab (ada g f ?_)));rw[zab ⇑5];refine aaf ?_;simp only[show ¬ ((i:Int)<0) from by left,if_false,zaj,hF j];refine aab ?_
 first|refine aab (acb c.typeIs (aaf ?_))|refine aab (acM c.typeIs (aaf ?_))
 show wpAny _ _ (yaw (.ref it) 0 .none >>= _) _ _ s;refine aab (ad4 e hd ⇑5 ?_);show wpAny _ _ (newExc (.type "StopIteration") [] >>= _) _ _ _;refine aab ?_;simp only[newExc,newTuple];refine aab (abF ?_ (by size_fits));refine aab (m:=wT _ _) (yaa (a:=ft) (by first|rfl | (simp only[wT];rfl)) ?_);refine abF ?_ (by size_fits);simp only[raiseNew];refine aab (wpAny_handled ?_);rw[show A.in1.handled=none from l];refine aab (aaf (wpAny_throw ?_));refine aab (GM (T:="StopIteration") (b:=true) ⟨_,aax _ rfl,rfl⟩ Ps ?_);exact aaf (n _ (((abX ..).extBut.push _).push _))
def Gv(p:A.handled=none)(I d:Addr)(n:d≠I):Walks prog w A I [I,d] [I] es.size (λi v=>∃e,es[i]?=↥e/\v=e.val) (λi h=>h.IsValIter I d i es.size ep/\jN h d es ep) where
 sub:=λb c=>by simp at c;simp[c]
 frame:=λ_ _ _ a k=>⟨a.1.at λo e=>k I ⇑5 o e,let ⟨o,ho,r⟩:=a.2;⟨o,k d ⇑5 o ho,r⟩⟩
 item:=λi s Q E l a f=>Kw a.1 a.2 l λh' m j=>f _ h' s.toks ⟨es[i],ab3 l,rfl⟩ ⟨m,let ⟨o,ho,r⟩:=a.2;⟨o,j.extBut d o n ho,r⟩⟩ λb o c e=>j.extBut b o (λh=>c (by simp[h])) e
 done:=λs Q E a f=>QK p a.1 a.2 (aao _) λh' g=>f h' s.toks λb o c e=>g b o (λh=>c (by simp[h])) e
 self:=λ_ _ _ _ a f=>wpAny_pyIter_valiter a.1 f
def QJ{v:Addr}(B:A.handled=none)(t:s.heap.IsValuesView v d)(f:jN s.heap d es ep)(l:Vals (ns.map V.int) (es.toList.map (·.val)))
  (h:∀h' tk a,(∀b o,s.heap.get? b=↥o->h'.get? b=↥o)->Q (.int ns.sum a) { s with heap:=h',toks:=tk }):⇑1 (call (.builtin "sum") [.ref v]) Q E s:=by
 have hlen:es.size=ns.length:=by
  have:=l.length;simpa using this.symm
 have m:d<s.heap.objs.size:=let ⟨_,ho,_⟩:=f;aan ho;refine call_sum_walkAnyS (Kx t f ⟨s.heap.objs.size,_,_,_,es.size,_,_,λi=>ns.getD i 0,rfl,(Gv (A:=A.in1) (es:=es) (ep:=ep) B _ d (aaw m)).toS,⟨⟨_,aax _ rfl,rfl,rfl⟩,let ⟨o,ho,r⟩:=f;⟨o,aai _ ho,r⟩⟩,λb j=>?_,λi v C=>?_,λc a n=>?_⟩)
 ·show b<(s.heap.push _).objs.size;rw[Rs];ext((e|j):c0.mp j)
  ·exact[e]\abc _
  ·exact[bn.mp j]\abG m
 ·ext(⟨e,g,rfl⟩:C);have F:i<es.size:=by
   by_cases z:i<es.size
   ·exact z
   ·rw[hF ⋯]at g;cases g
  have x:(ns.map V.int)[i]?=↥↑(ns.getD i 0):=by
   rw[bv,ce ⋯];simp[wp,show i<ns.length by left]
  ext(⟨u,k,p⟩:l.get x);rw[bv,fx,g]at k;cases k;exact p
 ·have y:∀b o,s.heap.get? b=↥o->c.heap.get? b=↥o:=λb o e =>
   n.heap b o (λD=>absurd (aan e) ([bn.mp D]\abb _)) (aai _ e)
  rw[Moved.eq_with n];have q:preSum (λi=>ns.getD i 0) es.size=ns.sum:=by
   rw[hlen,jx _ ns (λ_=>rfl) _ (zbZ _),zbN]
  exact[q]\h c.heap c.toks a y
end
def oG(_:Scope)(_:aq)(e:Expr):Option (aj):=match uY ("values" : Str) (.Expr e ⟨0,0,0,0⟩)with
 |some z=>if isNm z.1=true/\isNil z.2=true then ↥[z.1] else none
 |none=>none
variable {args:aj}
def yK{sc:Scope}{bl:aq}{e:Expr}(h:oG sc bl e=↥args):∃x p c b,e=.Call (.Attribute (.Name x p) ("values" : Str) c) [] [] b/\args=[.Name x p]/\(c.endLine==b.line)=true:=by
 unfold oG at h;cases d:uY ("values" : Str) (.Expr e ⟨0,0,0,0⟩)with
 |none=>rw[d]at h;exact nk h
 |some z =>
  ext(⟨o,as⟩:z);rw[d]at h;by_cases a:isNm o=true/\isNil as=true
  ·have h:(if isNm o=true/\isNil as=true then ↥[o] else none)=↥args:=h;rw[zac a]at h;cases h;ext(⟨c,b,f,e1,g⟩:oU d);cases e1;ext(⟨x,p,rfl⟩:ou a.1)(rfl:jE a.2);exact⟨_,_,_,_,rfl,rfl,g⟩
  ·have h:(if isNm o=true/\isNil as=true then ↥[o] else none)=↥args:=h;rw[zab a]at h;exact nk h
def AO(sc:Scope)(bl:aq)(e:Expr):Option (aj):=match gn ("sum" : Str) sc bl e with
 |some as=>match one as with
  |some i=>oG sc bl i
  |none=>none
 |none=>none
def GU{sc:Scope}{bl:aq}{e:Expr}(h:AO sc bl e=↥args):∃q b x p d c,e=.Call (.Name ("sum" : Str) q) [.Call (.Attribute (.Name x p) ("values" : Str) d) [] [] c] [] b/\args=[.Name x p]/\(d.endLine==c.line)=true/\fI sc ("sum" : Str)=true/\("sum" : Str)∈bl:=by
 unfold AO at h;cases f:gn ("sum" : Str) sc bl e with
 |none=>rw[f]at h;exact nk h
 |some as =>
  rw[f]at h;ext(⟨q,b,a,rfl,rfl,j,i⟩:kf f)(⟨x,p,d,c,rfl,rfl,g⟩:yK (show oG sc bl a=↥args from h));exact⟨q,b,x,p,d,c,rfl,rfl,g,j,i⟩
def Ro(xs:aa):O D:=match one xs with
 |some d=>match iB d with
  |some z=>match intsOf z.2 with
   |some ns=>ok ↑ns.sum
   |none=>none
  |none=>none
 |none=>none
def NA{r:D}(h:Ro xs=ok r):∃f g,∃ns:ae,xs=[.cF f g (ns.map D.int)]/\r=.int ns.sum:=by
 unfold Ro at h;cases c:one xs with
 |none=>rw[c]at h;exact nk h
 |some d =>
  rw[c]at h;have h:(match iB d with|↥z=>(match intsOf z.2 with|↥ns=>ok (D.int ns.sum)|none=>none)|none=>none)=ok r:=h;cases b:iB d with
  |none=>rw[b]at h;exact nk h
  |some z =>
   rw[b]at h;have h:(match intsOf z.2 with|↥ns=>ok (D.int ns.sum)|none=>none)=ok r:=h;cases a:intsOf z.2 with
   |none=>rw[a]at h;exact nk h
   |some ns =>
    rw[a]at h;cases h;ext(⟨f,e⟩:lZ b);exact⟨f,z.1,ns,by rw[bM c,e,dX a],rfl⟩
def VW(v d:Addr)(h:Heap):Prop:=h.IsValuesView v d
variable {p1 p2:Pos}{td:TE}
def Jh{x:Str}{p:Pos}(l:PE X (.Name x p) td)(m:(p1.endLine==p2.line)=true):PE X (.Call (.Attribute (.Name x p) ("values" : Str) p1) [] [] p2) (λf H Q=>td f H λu e=>∃d i as xs ep,u=.ref d/\e d=↥(.ext (DO d i as xs ep))/\∀v,e v=none->Q (.ref v) (upd e v (.ext (VW v d)))):=by
 intro pins s f H Q I h;refine yaM rfl rfl m Fk Da PySem.F.type_dict_values (dD (l pins s f H _ I h) λu b y=>?_);ext(⟨v,e,c,j,d,i,as,xs,ep,t,hd,q⟩:y);subst t;cases j;ext(⟨w,z,C,G,B,hlen,A⟩:S_ c hd)(⟨t1,t2⟩:dict_cls c hd);refine⟨t1,t2,?_⟩;show wpAny _ _ (callWith p2 (.builtin "dict.values") [.ref d] [] []) _ _ b;refine method_meetsIn Da PySem.F.entry_dict_values rfl (PySem.evalArgs_none ⟨rfl,t1,PySem.F.args_dict_values_1 _,_,Gw d A,⟨w,ep,z⟩,?_⟩);have g:(b.heap.push { cls:=.type "dict_values",data:=.fields #[.ref d] }).get? b.heap.objs.size=some { cls:=.type "dict_values",data:=.fields #[.ref d] }:=aax _ rfl;refine⟨.ref b.heap.objs.size,_,c.laid (a:=b.heap.objs.size) (o:=.ext (VW b.heap.objs.size d)) (t':=b.toks) (λ_ _ q=>aai _ q) (aao _) ⟨⟨_,g,rfl,rfl⟩,⟨_,g⟩,?_⟩,rfl,q _ (c.cI.fresh (aao _))⟩;rintro D E ⟨o,r,n⟩ k;exact⟨o,k _ r,n⟩
def Cr(i:X.calm=true):fJ X (.builtin "sum") (λxs H Q=>∃v d b as ep,∃ns:ae,xs=[.ref v]/\H v=↥(.ext (VW v d))/\H d=↥(.ext (DO d b as (ns.map V.int) ep))/\Q ↑ns.sum H):=by
 intro pins s l H xs m Q I r h;ext(⟨v,d,b,as,ep,ns,rfl,f,hd,q⟩:h)(⟨u,rfl,c⟩:r.one);cases c;ext(⟨o,k,n,t,e,hlen,p⟩:S_ I hd);obtain⟨j,_⟩:=(show cN H s.heap v (.ext (VW v d)) from I.cI v _ f)
 refine QJ (I.ok.hd i) j k e λh' tk a g=>⟨.int ns.sum,H,I.kept (t':=tk) g,⟨a,rfl⟩,q⟩
variable {F:Addr->Prop}{cs:aA}{Φ:aY}
def SJ{n:Nat}(g:Φ n=Ro){sc:Scope}{bl:aq}{k:Nat}(L:PX X sc bl k){e:Expr}(he:AO sc bl e=↥args)(hs:qx X F Φ cs args):PE X e (tD X F Φ (.cJ n cs))/\PT X e (jX X F Φ (.cJ n cs)):=by
 ext(⟨q,b,x,p,p1,p2,rfl,rfl,w,A,z⟩:GU he);cases cs with
 |nil=>exact hs.elim
 |cons c cs=>cases cs with
  |cons _ _=>exact hs.2.2.2.elim
  |nil =>
   have this:PE X (.Call (.Name ("sum" : Str) q) [.Call (.Attribute (.Name x p) ("values" : Str) p1) [] [] p2] [] b) (tD X F Φ (.cJ n [c])):=by
    refine PE.imp (cU (Cr L.calm) (L.gl A) (L.bl _ z) ⇑6 (b0 (Jh hs.1 w) cZ)) λE H Q i=>?_;ext(⟨R,D,G,d,C,a,i⟩:i)(⟨xs,j,a⟩:aI a);rw[g]at a;ext(⟨f,l,ns,rfl,rfl⟩:NA a)(⟨y,B,j⟩:aI j);cases j;refine tD.intro C B λu M e1 r1=>?_;ext(⟨r,K,q1⟩:r1);cases q1 with
    | @cF _ o _ as I ep _ _ s J t =>
     cases t.ofInts;have hd:=s.dat;refine⟨o,l,as,_,ep,rfl,hd,λv m=>⟨v,o,l,as,ep,ns,rfl,aT,?_,i _ _ (e1.trans (aL.upd m)) ⟨λ_=>none,λ_ _ h=>by simp at h,.int _⟩⟩⟩;exact aL.upd m _ _ hd
   exact⟨this,cQ this λ_=>rfl⟩
section
variable {prog:aG}{w:World}{K:Type}[DecidableEq K]{knd:HeapKind prog w K}{A:aF}{E:aB}{s:am}
def vq{d a:Addr}{xs:List (K×Addr×Value)}{k:K}{v:Value}(r:knd.room A)(l:knd.is s.heap k a)(u:s.heap.DictOfH knd d xs)
  (B:∀p,atKey xs k=↥p->Q p.2 { s with toks:=s.toks+knd.draws k })
  (n:atKey xs k=none->∀h',h'.DictOfH knd d (sK xs k a v)->iS d s.heap h'->Q v { s with heap:=h',toks:=s.toks+knd.draws k })
  (hsz:xs.length<=sizeLine):⇑1 (Pu d (.ref a) v) Q E s:=by
 ext(⟨o,D,ep,c,z,hd,i,f,m⟩:u);unfold Pu
 try with_reducible refine abS ?_
 refine aab (knd.pyHash r l ?_);refine aab (wpAny_dictFind_heap (s:={ s with toks:=s.toks+knd.draws k }) r l c hd i f m ?_ ?_)
 ·intro g;have C:k∉xs.map (·.1):=not_mem_keys_of_get g;ext(n:n (rP g));refine aab (acf (aab (wpAny_updateDictKeys (hz:=by ext(e:size_of_entries i);left) (s:={ s with toks:=s.toks+knd.draws k }) c hd (aaf (n _ ⟨_,_,ep+1,abO _ c (Obj.isFreed_of_dict (RJ hd _)),
   z.mapDictKeys _,RJ hd _,?_,?_,?_⟩ (abX ..))))))
  ·rw[yae (rP g)];simp[i,entryOfKey]
  ·rw[yae (rP g)];intro x b;ext((b|b):dz.mp b)
   ·exact knd.keeps (f x b) c hd (abX ..)
   ·simp only[zaO]at b;subst b;exact knd.keeps l c hd (abX ..)
  ·rw[yae (rP g)];rw[zak,zbH];refine⟨m,by simp,?_⟩;intro x b y q;simp only[zam,zbK,zaO]at q;subst q;exact λe=>C (e▸b)
 ·intro j p t;refine aab (acK (s:={ s with toks:=s.toks+knd.draws k }) c hd ?_);exact[entry_at i j,t]\aab (acf (aaf (B p (atKey_of_get m t))))
def sU(d a:Addr)(hd:(d==kw)=false)(v:Value):
  MeetsIn prog w (nf.«dict.setdefault» ⟨[.ref d,.ref a,v],[]⟩) (λA R s=>knd.room A.in1/\∃k xs,knd.is s.heap k a/\s.heap.DictOfH knd d xs/\xs.length<=sizeLine /\
   (∀p,atKey xs k=↥p->R (.ok (.ret p.2)) { s with toks:=s.toks+knd.draws k }) /\
   (atKey xs k=none->∀h',h'.DictOfH knd d (sK xs k a v)->iS d s.heap h'->R (.ok (.ret v)) { s with heap:=h',toks:=s.toks+knd.draws k })) :=
 .of_wp λA R s n=>by
  ext(⟨g,k,xs,e,b,f,m,l⟩:n);unfold nf.«dict.setdefault»;refine aab ?_;unfold yb9;refine aab (adS b.typeIs ?_);show wpAny _ _ (pure (d,em a,↥v)) _ _ s;refine aaf ?_;show wpAny _ _ (if (d==kw)=true then _ else(Pu d (.ref a) v >>= _)) _ _ s;exact[zab ([hd]\zal)]\aab (vq g e b (λp i=>aaf ⟨p.2,rfl,m p i⟩) (λj h' o c=>aaf ⟨v,rfl,l j h' o c⟩) f)
end
meta def q_(J:Nat)(d:D):Nat->aa->aa
 |_,[]=>[]
 |n,x::xs=>(if n=J then d else x)::q_ J d (n+1) xs
theorem aH.q_{T T':qv}{N N':k_}{q:bw}{J:Nat}{d:D}(i:∀p xs,T p xs->T' p xs)(j:∀c m p xs f,m≠J->N (c++(m::q)) p xs f->N' (c++(m::q)) p xs f){n:Nat}{vs:ah}{ds:aa}(h:aH T N q n vs ds):(∀k v,vs[k]?=↥v->n+k=J->Rep T' N' (J::q) v d)->aH T' N' q n vs (DI.q_ J d n ds) :=
 h.ind (P:=λn vs ds=>(∀k v,vs[k]?=↥v->n+k=J->Rep T' N' (J::q) v d)->aH T' N' q n vs (DI.q_ J d n ds)) (λ_ _=>.nil) λn v _ x _ h t g b=>by
  refine .cons ?_ (g λk v e z=>b (k+1) v e ([zN n k]\z));by_cases a:n=J
  ·rw[zac a];subst a;exact b 0 _ rfl rfl
  ·exact[zab a]\h.imp (q:=n::q) (q':=n::q) i λc p xs f h=>j c n p xs f a h
section
variable {X:Cx}{F R:af}{τ:Addr->Option bw}{ρ:aV}{σ:St}{H:Hp}
def SI.Xa{p a:Addr}{q q0:bw}{n:Nd}{f:Fl}{o:HO}{xs:ah}(j:SI X F R τ ρ σ H)(i:H p=↥(.lst xs))(c:τ p=↥q0)(g:q≠q0)(h:nd X.K R ⇑7 τ H q a n f):nd X.K R ⇑7 τ (upd H p o) q a n f:=by
 have b:∀{a:Addr} {z:Nd},a≠p->eN H a z->eN (upd H p o) a z:=λne h=>h.at λu e=>[bt ne]\e
 cases f with
 |ow=>exact⟨b (λz=>by subst z;exact g (aaI (h.2.symm.trans c))) h.1,h.2⟩
 |fz=>exact⟨b (λz=>by subst z;rw[j.rt _ h.2]at c;cases c) h.1,h.2⟩
 |al=>exact h.2.elim
 |sc =>
  ext(⟨k,rfl,h⟩:h.DM);exact h.elim (λ⟨d,w⟩=>.inl ⟨d,by rw[bt (λz=>by subst z;rw[i]at w;cases w)];exact w⟩) .inr
def SI.clr{i j:Nat}{A d1:D}{p:Addr}{xs g:ah}(b:SI X F R τ ρ σ H)(r:ρ[i]?=↥↥A)(o:H p=↥(.lst xs))(l:τ p=↥[j,i])
  {v:V} (s:σ[i]?=↥↥v) (t:Rep (a_ X.K (upd H p (.lst g))) (nd X.K R ⇑7 τ (upd H p (.lst g))) [i] v d1):SI X F R τ (ρ.set i ↥d1) σ (upd H p (.lst g)):=by
 have B:i<ρ.length:=by
  by_cases z:i<ρ.length
  ·exact z
  ·rw[dV ⋯]at r;cases r
 have there:∀a,H a≠none->upd H p (.lst g) a≠none:=λa h=>by
  by_cases z:a=p
  ·rw[z,aT];simp
  ·exact[bt z]\h
 refine⟨by simp[b.len],λm d k=>?_,b.rt,λa w=>there a (b.rh a w),b.rf,λa q e=>there a (b.th a q e),b.t0,λa u e=>?_⟩
 ·by_cases z:m=i
  ·subst z;rw[eo B]at k;cases k;exact⟨v,s,t⟩
  ·rw[cb (ip z)]at k;ext(⟨v,y,x⟩:b.rep m d k);refine⟨v,y,x.imp (q:=[m]) (q':=[m]) (λ_ _ h=>jZ o h) λc a n f h=>b.Xa o l (λe=>?_) h⟩;have:=aa5 re e;simp at this;exact z this
 ·rw[bt (λz=>by subst z;rw[b.t0 _ _ l]at e;cases e)];exact b.same a u e
end
def FC{A:aF}{k:Nat}(a:gw k A):A.units+2<cLine:=aaV (aaC (by decide:2<=64) _) a.units
meta def pf:Fl->Bool
 |.fz=>false
 |_=>true
def N0{K:av}{R A A':af}{a τ':Addr->Option bw}{H:Hp}{k k':bw}{v:V}{d:D}(h:Rep (a_ K H) (nd K R A a H) k v d)(hf:aW pf d=false):Rep (a_ K H) (nd K R A' τ' H) k' v d:=by
 have:=Rep.gen (T':=a_ K H) (N':=nd K R A' τ' H) (g:=id) (P:=pf) (C:=λ_ _=>True) (I:=λ_ _=>True) ⇑10 trivial (λ_ _ e=>e) (λ_ _ _ _ e _=>e) (λk k' p xs f _ b h=>by
  cases f<;>first | (cases b;done)|exact h) h (k':=k') trivial hf
 rw[eY]at this;exact this
def mG:az->aa->ae->D->Option (aa)
 |[],vs,_,d=>if vs.length=0 then ↥[.ow\[d]] else none
 |c'::cs,vs,c,d=>match vs with
  |[]=>none
  |v::vs=>if c'=c then(match Ep v with
    |some a=>if a.length<cB then ↥(.ow\(a++[d])::vs) else none
    |none=>none)else(mG cs vs c d).map (v :: ·)
theorem Ak{a:Type}{c:ae}:∀{cs:az} {xs:List a},c∉cs->cw cs xs c=none
 |[],_,_=>by unfold cw;rfl
 |c'::cs,[],_=>rfl
 |c'::cs,x::xs,h=>by
  show(if c'=c then ↥x else cw cs xs c)=none;rw[zab (λe:c'=c=>h (e▸zbl)),Ak λz=>h (zaU _ z)]
theorem zi{d:D}:∀{vs:aa} {j n m:Nat},q_ (j+m) d (n+m) vs=q_ j d n vs
 |[],_,_,_=>rfl
 |v::vs,j,n,m=>by
  show(if n+m=j+m then d else v)::q_ (j+m) d (n+m+1) vs=(if n=j then d else v)::q_ j d (n+1) vs;rw[show n+m+1=n+1+m by left,zi];by_cases e:n=j
  ·rw[zac e,zac ⋯]
  ·rw[zab e,zab ⋯]
theorem Di{d:D}:∀{vs:aa} {j n:Nat},j<n->q_ j d n vs=vs
 |[],_,_,_=>rfl
 |v::vs,j,n,h=>by
  show(if n=j then d else v)::q_ j d (n+1) vs=_;rw[zab ⋯,Di ⋯]
theorem sV{c:ae}{d:D}:∀{cs:az} {vs ws:aa},mG cs vs c d=↥ws->(c∉cs/\cs.length=vs.length/\ws=vs++[.ow\[d]])\/∃j a,vs[j]?=↥(.ow\a)/\a.length<cB/\c∈cs/\(∀(xs:ah),xs.length=vs.length->cw cs xs c=xs[j]?)/\ws=q_ j (.ow\(a++[d])) 0 vs
 |[],vs,ws,h=>by
  unfold mG at h;by_cases g:vs.length=0
  ·rw[zac g]at h;cases h;ext(rfl:KM.mp g);exact .inl ⟨by simp,rfl,rfl⟩
  ·rw[zab g]at h;exact nk h
 |c'::cs,[],ws,h=>nk h
 |c'::cs,v::vs,ws,h=>by
  have h:(if c'=c then(match Ep v with|↥a=>if a.length<cB then ↥(D.lst .ow (a++[d])::vs) else none|none=>none)else(mG cs vs c d).map (v :: ·))=↥ws:=h;by_cases e:c'=c
  ·rw[zac e]at h;cases b:Ep v with
   |none=>rw[b]at h;exact nk h
   |some a =>
    rw[b]at h;have h:(if a.length<cB then ↥(D.lst .ow (a++[d])::vs) else none)=↥ws:=h;by_cases i:a.length<cB
    ·rw[zac i]at h;cases h;refine .inr ⟨0,a,by rw[x_ b];rfl,i,e▸aag,λxs f=>?_,?_⟩
     ·cases xs with
      |nil=>cases f
      |cons x xs=>exact abE e
     ·show _=(if 0=0 then _ else v)::q_ 0 _ 1 vs;rw[zac rfl,Di ⋯]
    ·rw[zab i]at h;exact nk h
  ·rw[zab e]at h;ext(⟨o,b,rfl⟩:im.mp h)((⟨l,k,rfl⟩|⟨j,a,l,k,n,m,rfl⟩):sV b)
   ·exact .inl ⟨λz=>(c0.mp z).elim (λq=>e q.symm) l,by rw[zae,zae,k],rfl⟩
   ·refine .inr ⟨j+1,a,l,k,aaj _ n,λxs f=>?_,?_⟩
    ·cases xs with
     |nil=>cases f
     |cons x xs =>
      show(if c'=c then ↥x else cw cs xs c)=_;rw[zab e,m xs (Xm f)];rfl
    ·show _=(if 0=j+1 then _ else v)::q_ (j+1) _ (0+1) vs;rw[zab ⋯,zi]
def vSd(e:Expr):Option (Expr×Expr):=(sI e).bind λz=>(zh z.1).bind λy=>(two z.2.1).bind λw=>(Ng w.2).bind λl =>
 if y.2.1=("setdefault" : Str)/\z.2.2.1.isEmpty=true/\(y.2.2.endLine==z.2.2.2.line)=true/\l.isEmpty=true then ↥(y.1,w.1) else none
variable {o:Expr}
def Nb{e k:Expr}(h:vSd e=↥(o,k)):∃p1 p2 d,e=.Call (.Attribute o ("setdefault" : Str) p1) [k,.List [] d] [] p2/\(p1.endLine==p2.line)=true:=by
 ext(⟨⟨f,as,q,p2⟩,m,h⟩:bT h)(⟨⟨n,p,p1⟩,j,h⟩:bT h)(⟨⟨a,b⟩,i,h⟩:bT h)(⟨l,g,h⟩:bT h)(⟨c,h⟩:gT h);cases h;ext(rfl:mv m)(rfl:oW j)(rfl:fX i)(⟨d,rfl⟩:zd g)(rfl:Jv c.2.1)(rfl:Jv c.2.2.2)(rfl:c.1);exact⟨p1,p2,d,rfl,c.2.2.1⟩
def yL(_:Scope)(_:aq)(st:Stmt):Option (Expr×aj):=(uY ("append" : Str) st).bind λz=>(one z.2).bind λe=>(vSd z.1).bind λy=>↥(y.1,[y.2,e])
variable {st:Stmt}
def Co{sc:Scope}{bl:aq}(h:yL sc bl st=↥(o,args)):∃k e p1 p2 d c f a,args=[k,e]/\st=.Expr (.Call (.Attribute (.Call (.Attribute o ("setdefault" : Str) p1) [k,.List [] f] [] p2) ("append" : Str) d) [e] [] c) a/\(p1.endLine==p2.line)=true/\(d.endLine==c.line)=true:=by
 ext(⟨⟨b,as⟩,m,h⟩:bT h)(⟨e,l,h⟩:bT h)(⟨⟨n,k⟩,j,h⟩:bT h);cases h;ext(rfl:bM l)(⟨p1,p2,f,rfl,i⟩:Nb j)(⟨d,c,a,rfl,g⟩:oU m);exact⟨k,e,p1,p2,d,c,f,a,rfl,rfl,i,g⟩
variable {kd:D}
protected def OB{n i:Nat}{ρ:aV}{d:D}{r:Fo×aV}(h:EL Φ n i ρ kd d=ok r):∃x a,ρ[i]?=↥↥x/\aW anyF kd=false/\aW anyF d=false/\Φ n [x,kd,d]=ok a/\r=(.nx,ρ.set i ↥a):=by
 unfold EL at h;split at h
 ·rename_i x c;split at h
  ·rename_i b;ext(⟨a,f,e⟩:aI h);cases e;exact⟨x,a,c,b.1,b.2,f,rfl⟩
  ·cases h
 ·cases h
section
variable {X:Cx}{F R:af}{τ:Addr->Option bw}{ρ:aV}{σ:St}{H:Hp}
def SI.drop(i:Nat)(S:SI X F R τ ρ σ H):SI X F R τ (ρ.set i none) σ H:=by
 refine⟨by simp[S.len],λj d a=>?_,S.rt,S.rh,S.rf,S.th,S.t0,S.same⟩;have b:i≠j:=by
  rintro rfl;by_cases h:i<ρ.length
  ·rw[eo h]at a;cases a
  ·rw[dV (by rw[zaJ];left)]at a;cases a
 rw[cb b]at a;exact S.rep j d a
end
section
variable {X:Cx}{pins:au}{σ:St}{H:Hp}{s:am}{p b:Addr}{cs:az}{as:aX}{xs:ah}{ep:Nat}{c:ae}{A:aF}{E:aB}
def GA{r:Value}{v:V}{t:Nat}{zs:List (ae×Addr×Value)}(I:Inv X pins σ H s)(h:H p=↥(.ext (DO p cs as xs ep)))(e1:zs.map (·.1)=cs)(e2:zs.map (·.2.1)=as)(e3:Vals xs (zs.map (·.2.2)))(L:cs.length<sizeLine)(hs:(p==kw)=false)(f:RelV v r)
  (dd:h'.DictOfH (vu (pc X.prog X.w)) p (sK zs c b r)) (sb:iS p s.heap h'):∃d,Inv X pins σ (upd H p (.ext (DO p (bp cs c) (ng cs as c b) (bP cs xs c v) d))) { s with heap:=h',toks:=t }:=by
 ext(⟨q,K,d,e,n,m,l,_,k⟩:dd);refine⟨d,I.write (x:=p) ([h]\nY) (λb q j z=>(sb.2 b j).trans z) ⟨q,e⟩ ⟨⟨sK zs c b r,q,K,?_,?_,?_,e,n,m,l,?_,?_,hs⟩,⟨q,e⟩,?_⟩⟩
 ·rw[gz,e1]
 ·rw[nq,e1,e2]
 ·exact[nj,e1]\uW e3 f
 ·exact[-e1,-gz (zs:=zs) (c:=c) b r]\k
 ·unfold bp;split
  ·left
  ·rw[zaf,zaC];left
 ·rintro M O ⟨J,g,a,G,C,B,y,u⟩ i;exact⟨J,g,a,G,C,B,i _ y,u⟩
def Cg{z:V}{r:Value}(S:A.units+2<cLine)(I:Inv X pins σ H s)(h:H p=↥(.ext (DO p cs as xs ep)))(k:dk (a_ X.K H) as cs)(C:a_ X.K H b (c.map V.int))(n:RelV z r)(L:cs.length<sizeLine)
  (J:∀v g d,cw cs xs c=↥v->Inv X pins σ H d->RelV v g->Q g d)
  (G:c∉cs->∀f d,Inv X pins σ (upd H p (.ext (DO p (bp cs c) (ng cs as c b) (bP cs xs c z) f))) d->Q r d) :
  wpAny (model X.prog X.w) A (call (.builtin "dict.setdefault") [.ref p,.ref b,r]) Q E s:=by
 ext(⟨a,o,W,e1,e2,e3,U,R,hd,l,_,j,i⟩:oF I h k);have u:a.length<=sizeLine:=by rw[<- e1,zaa]at j;exact j
 refine call_meetsIn xd l.typeIs PySem.F.entry_dict_setdefault (PySem.F.args_dict_setdefault_3 _ _ _) (sU (knd:=vu (pc X.prog X.w)) p b i r) ⟨adh ⋯,c,a,pI I C,l,u,λq x=>?_,λy h' O m=>?_⟩
 ·ext(e:lD (cs:=cs) e3 c);have:(atKey a c).map (·.2)=cw cs (a.map (·.2.2)) c:=by rw[kh,e1]
  rw[x]at this;rw[<- this]at e;cases q2:cw cs xs c with
  |none=>rw[q2]at e;exact e.elim
  |some v=>rw[q2]at e;exact J v _ _ q2 (I.tok _) e
 ·have M:c∉cs:=λB=>by
   have:=(d8 a c).mpr ([e1]\B);rw[y]at this;cases this
  ext(⟨f,P⟩:GA (t:=s.toks+(vu (pc X.prog X.w)).draws c) I h e1 e2 e3 L i n O m);exact G M f _ P
end
def Oc{x:Str}{p:Pos}{a b:Expr}{y:TA}(P:X.A.units+2<cLine)(R:PE X (.Name x p) td)(Z:PA X [a,b] y)(B:∀g,cj (a::g) X.env=(false,eval a X.env)::cj g X.env)(s2:∀g,cj (b::g) X.env=(false,eval b X.env)::cj g X.env)(U:(p1.endLine==p2.line)=true):
  PE X (.Call (.Attribute (.Name x p) ("setdefault" : Str) p1) [a,b] [] p2) (λe H Q=>td e H λv i=>∃q cs as xs ep,v=.ref q/\i q=↥(.ext (DO q cs as xs ep))/\y e i λw d=>∃k c z,w=[.ref k,z]/\d q=↥(.ext (DO q cs as xs ep))/\dk (a_ X.K d) as cs/\a_ X.K d k (c.map V.int)/\cs.length<sizeLine/\(∀u,cw cs xs c=↥u->Q u d)/\(c∉cs->∀m,Q z (upd d q (.ext (DO q (bp cs c) (ng cs as c k) (bP cs xs c z) m))))):=by
 intro pins s e H Q I h;refine yaM rfl (by rw[B,s2];rfl) U Fk xd PySem.F.type_dict_setdefault (dD (R pins s e H _ I h) λu j r=>?_);ext(⟨v,i,E,J,q,cs,as,xs,ep,ex,hd,q1⟩:r);subst ex;obtain rfl:u=em q:=J;ext(⟨t1,t2⟩:dict_cls E hd);refine⟨t1,t2,?_⟩;ext(C:Z p2 pins j e i _ E q1);rw[B]at C ⊢;refine KT (by show(false||(nU p2 (cj [b] X.env)).any (·.1))=false;rw[s2];rfl) (adX ?_);refine dD C λus s3 r=>?_;ext(⟨w,d,I2,r2,k,c,z,ey,n,W,Y,dg,q2,M⟩:r);subst ey;ext(⟨w1,w2,rfl,l,f⟩:vals2 r2);cases l;exact Cg P I2 n W Y f dg (λv w' G O t L=>⟨v,d,t,L,q2 v O⟩) λS m G t=>⟨z,_,t,f,M S m⟩
def zk{k:bw}{v:V}{d:D}{c:ae}(a:keyOf d=↥c)(r:Rep T N k v d):∃b,v=.ref b/\T b (c.map V.int):=by
 rw[lS a]at r;ext(⟨b,xs,rfl,e,r1⟩:r.C_);cases r1.ofInts;exact⟨b,rfl,e⟩
def yB(xs:aa):O D:=match two xs with
 |some z=>match iB z.1 with
  |some d=>match keyOf z.2 with
   |some c=>match cw d.1 d.2 c with
    |some v=>if aW pf v=false then ok v else none
    |none=>none
   |none=>none
  |none=>none
 |none=>none
def Ks{r:D}(h:yB xs=ok r):∃f cs vs c kd,xs=[.cF f cs vs,kd]/\keyOf kd=↥c/\cw cs vs c=↥r/\aW pf r=false:=by
 unfold yB at h;cases g:two xs with
 |none=>rw[g]at h;cases h
 |some z =>
  rw[g]at h;have h:(match iB z.1 with|↥d=>(match keyOf z.2 with|↥c=>(match cw d.1 d.2 c with|↥v=>if aW pf v=false then ok v else none|none=>none)|none=>none)|none=>none)=ok r:=h;cases e:iB z.1 with
  |none=>rw[e]at h;cases h
  |some d =>
   rw[e]at h;have h:(match keyOf z.2 with|↥c=>(match cw d.1 d.2 c with|↥v=>if aW pf v=false then ok v else none|none=>none)|none=>none)=ok r:=h;cases b:keyOf z.2 with
   |none=>rw[b]at h;cases h
   |some c =>
    rw[b]at h;have h:(match cw d.1 d.2 c with|↥v=>if aW pf v=false then ok v else none|none=>none)=ok r:=h;cases a:cw d.1 d.2 c with
    |none=>rw[a]at h;cases h
    |some v =>
     rw[a]at h;ext(⟨i,rfl⟩:qN (show(if aW pf v=false then ok v else none)=ok r from h))(⟨f,e1⟩:lZ e);exact⟨f,d.1,d.2,c,z.2,by rw[fX g,e1],b,a,i⟩
def N3(K:av):R2:=λx y H Q=>∃p b cs as xs ep c v,x=.ref p/\y=.ref b/\H p=↥(.ext (DO p cs as xs ep))/\dk (a_ K H) as cs/\a_ K H b (c.map V.int)/\cw cs xs c=↥v/\Q v H
def Fm(J:X.A.units+2<cLine):Lh X (N3 X.K):=by
 intro value slice pins s f H x y v u Q I k j h m;ext(⟨p,b,cs,as,xs,ep,c,w,rfl,rfl,n,t,B,z,q⟩:h);cases k;cases j;ext(⟨g,o,O,e1,e2,e3,L,G,hd,d,_,M,P⟩:oF I n t)(e:lD (cs:=cs) e3 c);rw[z]at e;ext(⟨u,E,l⟩:CB.some_of e);have:(atKey g c).map (·.2)=↥u:=[kh,e1]\E
 ext(⟨a,C,rfl⟩:im.mp this);exact acR (x:=a.2) d.typeIs AC.lookup
  (yav (knd:=vu (pc X.prog X.w)) (Q:=λr i=>r=a.2/\EP X pins f Q r i) (adh ⋯) (pI I B) d C ⟨rfl,w,H,I.tok _,l,q⟩) m
def QF{n:Nat}(j:Φ n=yB){sc:Scope}{bl:aq}{k:Nat}(L:PX X sc bl k){e:Expr}(he:m8 sc bl e=↥args)(hs:qx X F Φ cs args):PE X e (tD X F Φ (.cJ n cs))/\PT X e (jX X F Φ (.cJ n cs)):=by
 unfold m8 at he;cases p:xH e with
 |none=>rw[p]at he;cases he
 |some z =>
  rw[p]at he;cases he;ext(⟨i,rfl⟩:lE p)(⟨⟨c1,c2,rfl,p1,p2⟩,_⟩:mM hs);have this:PE X (.Subscript z.1 z.2 i) (tD X F Φ (.cJ n [c1,c2])):=by
   refine PE.imp (Em (Fm (FC L.room)) p1 p2 hs.2.2.2.2.2.1) λZ H Q l=>?_;ext(⟨R,C,ρ,d,t,g,l⟩:l)(⟨xs,a,g⟩:aI g);rw[j]at g;ext(⟨f,cs,vs,c,kd,rfl,m,r,K⟩:Ks g)(⟨x,U,a⟩:aI a)(⟨ys,Y,a⟩:aI a)(⟨y,S,V⟩:aI Y);cases V;cases a;refine tD.intro t U λv H1 e1 r1=>tD.intro (t.go e1) S λu W e2 r2=>?_;ext(⟨B,f1,q1⟩:r1)(⟨A,f2,q2⟩:r2)(⟨b,rfl,M⟩:zk m q2);cases q1 with
   |cF I J G =>
    ext((⟨_,q⟩|⟨w,d',E,P,s,O,_⟩):o6 G c)
    ·rw[r]at q;cases q
    ·rw[r]at s;cases s;refine⟨_,b,_,_,_,_,c,w,rfl,rfl,e2 _ _ I.dat,J.imp λ_ _ h=>a_.same e2 h,M,P,l w W (e1.trans e2) ⟨λ_=>none,λ_ _ h=>by simp at h,?_⟩⟩;exact(N0 (A':=k9 (gP X F) C (gK (.cJ n [c1,c2]))) (τ':=λ_=>none) (k':=[]) O K).imp (λ_ _ h=>a_.same e2 h) λ_ _ _ _ h=>nd.same e2 h
  exact⟨this,cQ this λ_=>rfl⟩
def xM(xs:aa):O D:=match three xs with
 |some z=>match z.1 with
  |.cF f cs vs=>match keyOf z.2.1 with
   |some c=>match mG cs vs c z.2.2 with
    |some a=>if cq f=true/\cs.length<cB then ok (.cF .ow (bp cs c) a)else none
    |none=>none
   |none=>none
  |_=>none
 |none=>none
protected def Il{x d r:D}(h:xM [x,kd,d]=ok r):∃cs vs c a,x=.cF .ow cs vs/\keyOf kd=↥c/\mG cs vs c d=↥a/\cs.length<cB/\r=.cF .ow (bp cs c) a:=by
 cases x<;>first|exact nk h | (cases h;done)|skip
 rename_i f cs vs;replace h:(match keyOf kd with|↥c=>(match mG cs vs c d with|↥a=>if cq f=true/\cs.length<cB then ok (D.cF .ow (bp cs c) a)else none|none=>none)|none=>none)=ok r:=h;cases e:keyOf kd with
 |none=>rw[e]at h;exact nk h
 |some c =>
  rw[e]at h;replace h:(match mG cs vs c d with|↥a=>if cq f=true/\cs.length<cB then ok (D.cF .ow (bp cs c) a)else none|none=>none)=ok r:=h;cases b:mG cs vs c d with
  |none=>rw[b]at h;exact nk h
  |some a =>
   rw[b]at h;ext(⟨⟨i,g⟩,rfl⟩:qN (show(if cq f=true/\cs.length<cB then ok (D.cF .ow (bp cs c) a)else none)=ok r from h));cases f<;>first | (cases i;done)|exact⟨cs,vs,c,a,rfl,rfl,b,g,rfl⟩
section
variable {X:Cx}{F R:af}{τ:Addr->Option bw}{ρ:aV}{σ:St}{H:Hp}
def SI.abv{i j:Nat}{cs:az}{as:aX}{vs gs:aa}{d:D}{u:V}{p q:Addr}{xs:ah}(r:SI X F R τ ρ σ H)(C:ρ[i]?=↥↥(.cF .ow cs vs))(A:σ[i]?=↥↥(.ref q))(B:H q=↥(.ext (DO q cs as xs ep)))(s:τ q=↥[i])(E:dk (a_ X.K H) as cs)
  (rs:aH (a_ X.K H) (nd X.K R ⇑7 τ H) [i] 0 xs vs) (x:xs[j]?=↥(.ref p)) (G:vs[j]?=↥(.ow\gs)) {k:bw} (y:Rep (a_ X.K H) N k u d) (hf:aW anyF d=false) :
  ∃e,H p=↥(.lst e)/\e.length=gs.length/\τ p=↥[j,i]/\SI X F R τ (ρ.set i ↥(.cF .ow cs (q_ j (.ow\(gs++[d])) 0 vs))) σ (upd H p (.lst (e++[u]))):=by
 ext(⟨w,hw,v⟩:rs.get G);rw[zaD]at v;rw[x]at hw;cases hw;cases v with
 | @lst _ _ e _ _ b t =>
 refine⟨e,b.1,t.length,b.2,r.clr C b.1 b.2 A (.cF (as:=as) (ep:=ep) (xs:=xs) (r.Xa (n:=.d cs as xs ep) (f:=.ow) b.1 b.2 (λz=>?_) ⟨B,s⟩) (E.imp λ_ _ h=>jZ b.1 h) (aH.q_ (λ_ _ h=>jZ b.1 h) (λc m a n f l h=>r.Xa b.1 b.2 (λz=>?_) h) rs λm w g l=>?_))⟩
 ·have:=aa5 l7 z;simp at this
 ·have:=aa5 List.reverse z;simp at this;exact l this.1
 ·rw[zaD]at l;subst l;rw[x]at g;cases g;refine .lst ⟨aT,b.2⟩ (aH.snoc (aH.child (λ_ _ h=>jZ b.1 h) (λc n a I f h=>r.Xa b.1 b.2 (λz=>?_) h) t) ((oh (N':=nd X.K R ⇑7 τ (upd H p (.lst (e++[u])))) y hf).imp (q:=(0+gs.length)::[m,i]) (λ_ _ h=>jZ b.1 h) λ_ _ _ _ h=>h))
  ·have:=aa5 l7 z;simp at this
end
def Nq{n:Nat}(hΦ:Φ n=xM){sc:Scope}{bl:aq}{k:Nat}(L:PX X sc bl k)(hN:X.N.Nodup)(qu:∀x,X.fn x=true){x:Str}{pos:Pos}(he:yL sc bl st=↥(.Name x pos,args))
  {i:Nat} (hi:X.N[i]?=↥x) (hl:L2.Loc X.env.scope x) (pe:PE X (.Name x pos) (mw i)) {c1 c2:CE} (hs:qx X F Φ [c1,c2] args):PS X st (mh X F Φ (.mu2 n i c1 c2)):=by
 ext(⟨ke,ve,p1,p2,p3,p4,pl,pos',rfl,rfl,Ms,Af⟩:Co he)(⟨⟨a1,a2,e0,h1,h2⟩,_,s1,s2⟩:mM hs);cases e0;refine PS.imp (lN (En adp adg C4 rH (Oc (FC L.room) pe (b0 h1 (b0 (tx cZ) cZ) (s1 _)) s1 (λ_=>rfl) Ms) (b0 h2 cZ (s2 _)) (hfew:=by rw[s2];rfl) (hline:=Af) (hs:=s2 _))) λD W H hq=>?_;ext(⟨R,τ,Y,r,A,O,hq⟩:hq)(⟨kd,ekd,O⟩:aI O)(⟨d,ed,O⟩:aI O)(⟨x0,x',I,hfk,hfd,xw,rfl⟩:OB O);rw[hΦ]at xw;ext(⟨cs,vs,c,ws,rfl,hkc,G,mT,rfl⟩:Il xw)(⟨q,as,xs,ep,hv,hd,ht,hk,t⟩:A.Oh I);have hc0:cB=1000000:=rfl;have FA:sizeLine=16777216:=acj;have Mt:i<Y.length:=by
  by_cases z:i<Y.length
  ·exact z
  ·rw[dV ⋯]at I;cases I
 have fin:∀{H':Hp} {τ':Addr->Option bw} {ρ1:aV} {B:az} {g:aX} {Ll:ah} {P:Nat} {vs1 gs:List DI.D} {j:Nat} {u:V},SI X F R τ' ρ1 W H'->Kp R H R H'->ρ1[i]?=↥↥(.cF .ow B vs1)->ρ1.set i none=Y.set i none->vs1[j]?=↥(.ow\gs)->gs.length<cB->B=bp cs c->ws=q_ j (.ow\(gs++[d])) 0 vs1 ->
   H' q=↥(.ext (DO q B g Ll P))->τ' q=↥[i]->dk (a_ X.K H') g B->aH (a_ X.K H') (nd X.K R ⇑7 τ' H') [i] 0 Ll vs1->Ll[j]?=↥u->Yd X.K "list" u H'/\Dy (tD X F Φ c2) Nx W H' λxs H2=>zI u xs H2 λ_ H3=>D.nx W H3:=by
  intro H' τ' ρ1 B g Ll P vs1 gs j u eB kp Mq UA hj hg ek ew we Pe CN sZ E;ext(S:eB.drop i);rw[UA]at S;ext(⟨w,hw,kL⟩:sZ.get hj);rw[E]at hw;cases hw;ext(⟨l,zs,rfl,Z,rz⟩:kL.nI);refine⟨⟨rfl,_,eA.of Z.1⟩,tD.intro S ed λy H3 e3 r3=>?_⟩;ext(⟨τ3,f3,q3⟩:r3)(⟨zs3,J,g5,g6,U⟩:(eB.go e3).abv Mq hv (e3 _ _ we) Pe (CN.imp λ_ _ h=>a_.same e3 h) (sZ.imp (λ_ _ h=>a_.same e3 h) λ_ _ _ _ h=>nd.same e3 h) E hj q3 hfd);refine⟨l,zs3,y,rfl,rfl,J,by left,?_⟩;have er:ρ1.set i ↥(.cF .ow B (q_ j (.ow\(gs++[d])) 0 vs1))=Y.set i ↥(.cF .ow (bp cs c) ws):=by
   rw[ek,<- ew];have:=aa5 (λz:aV=>z.set i ↥(.cF .ow (bp cs c) ws)) UA;simpa using this
  rw[er]at U;exact hq W _ R τ' U (kp.trans (pG (n:=.l _) (eB.go e3) e3 (λ_ h=>h) J g6))
 refine⟨.ref q,hv,q,cs,as,xs,ep,rfl,hd,tD.intro A ekd λu p e1 ru=>⟨by simp,λl Z=>?_⟩⟩;ext(⟨τ1,f1,r1⟩:ru)(⟨b,rfl,hb⟩:zk hkc r1);have e2:aL p (upd p l (.lst [])):=aL.upd Z;ext(e:e1.trans e2)(sA:A.go e)(Ah:hk.imp λ_ _ h=>a_.same e h);have f:a_ X.K (upd p l (.lst [])) b (c.map V.int):=a_.same e2 hb;have LG:aH (a_ X.K (upd p l (.lst []))) (nd X.K R ⇑7 τ (upd p l (.lst []))) [i] 0 xs vs:=t.imp (λ_ _ h=>a_.same e h) λ_ _ _ _ h=>nd.same e h;refine⟨b,c,.ref l,rfl,e _ _ hd,Ah,f,by left,λw hw=>?_,λhn lY=>?_⟩
 ·ext((⟨HD,_,_⟩|⟨j,gs,g1,g2,g3,J,g5⟩):sV G)
  ·rw[Ak HD]at hw;exact nk hw
  ·rw[J xs t.length]at hw;exact fin sA (Kp.of e λ_ h=>h) I rfl g1 g2 (by unfold bp;rw[zac g3]) g5 (e _ _ hd) ht Ah LG hw
 ·ext((⟨HD,hlen,hws⟩|⟨j,gs,g1,g2,g3,J,g5⟩):sV G)
  ·have s:H l=none:=e1.free Z;have hlq:l≠q:=λz=>by rw[z,hd]at s;cases s
   have rk:jt X R τ (upd p l (.lst [])) (.ref l) (.ow\[]):=⟨λa=>if a=l then ↥[] else none,λa z hz=>by
    by_cases ha:a=l
    ·subst ha;refine⟨?_,λhr=>A.rh a hr s,?_,by rw[aT];simp⟩
     ·cases ZU:τ a with
      |none=>rfl
      |some z=>exact absurd s (A.th a z ZU)
     ·cases h0:X.H₀ a with
      |none=>rfl
      |some o=>rw[A.same a o h0]at s;cases s
    ·simp[ha]at hz,.lst ⟨aT,by simp⟩ .nil⟩
   have C:eN (upd p l (.lst [])) q (.d cs as xs ep):=e _ _ hd;have ekc:bp cs c=cs++[c]:=by unfold bp;rw[zab HD]
   have M:bP cs xs c (.ref l)=xs++[.ref l]:=by unfold bP;rw[zab HD]
   obtain⟨τ3,Lc,ht3,rs3⟩:=sA.Tp (m:=vs.length) (n':=.d (bp cs c) (ng cs as c b) (bP cs xs c (.ref l)) lY) (o:=.ext (DO q (bp cs c) (ng cs as c b) (bP cs xs c (.ref l)) lY)) (d1:=.cF .ow (bp cs c) (vs++[.ow\[]])) (xs':=bP cs xs c (.ref l)) (ds':=vs++[.ow\[]]) I hv C ht LG rk aT
    (λhN r=>.cF hN (pH (Ah.imp λ_ _ h=>mD C h) (mD C f)) r) (λt r=>by ext(h:aH.snoc t ⇑r);rw[<- M]at h;exact h)
   refine fin (vs1:=vs++[.ow\[]]) (gs:=[]) (j:=vs.length) Lc (pG sA e (λ_ h=>h) C ht) ⇑[eo Mt] ⇑5 ⇑5 (by simp;left) rfl ?_ aT ht3 (pH (Ah.imp λ_ _ h=>mD C h) (mD C f)) rs3 (by rw[M,d6 ([t.length]\zbZ _),t.length];simp);rw[hws];have:∀(vs:List DI.D) (n:Nat),q_ (n+vs.length) (.ow\[d]) n (vs++[.ow\[]])=vs++[.ow\[d]]:=λvs=>by
    induction vs with
    |nil=>intro n;show(if n=n+0 then _ else _)::q_ _ _ _ []=_;rw[zac ⋯];rfl
    |cons v vs ih =>
     intro n;show(if n=n+(vs.length+1)then _ else v)::q_ (n+(vs.length+1)) _ (n+1) (vs++[.ow\[]])=_;rw[zab ⋯,show n+(vs.length+1)=n+1+vs.length by left,ih];rfl
   ext(h0:this vs 0);rw[zaD]at h0;exact h0.symm
  ·exact absurd g3 hn
meta def n6(n:Int):ae:=(eg n.toNat).map λ(k:Nat)=>(k:Int)
theorem uX:∀{ns:ae} {a:aw},a.length=ns.length->(∀(i:Nat) (u:Value),a[i]?=↥u->∃t,u=.int (ns.getD i 0) t)->Vals (ns.map V.int) a
 |[],[],_,_=>.nil
 |[],_::_,h,_=>by simp at h
 |_::_,[],h,_=>by simp at h
 |n::ns,u::a,h,hu=>.cons (hu 0 u rfl) (uX ⇑h λi v b=>hu (i+1) v b)
end DI
end
section
namespace DI
open PySem PySem.Spec PyProof.Rows L2
open AutoSeq1 (wpAny_loadPart')
section
variable {prog:aG}{w:World}{A:aF}{E:aB}{s:am}
def qR{R:aw->am->Prop}{r:Addr}{a b c:Int}{t u v:Tok}{n:Nat}(H:A.handled=none)(G:IsRange s.heap r a b c t u v)(D:qP a b c=true)(hn:i6 a b c=n)(hlen:n<=2 ^ 24)
  (h:∀(h':Heap) (tk:Nat) (p:aZ),(∀b o,s.heap.get? b=↥o->h'.get? b=↥o)->ItemsOf (λi v=>∃t,v=.int (a+i*c) t) p n->R p.toList { s with heap:=h',toks:=tk }):⇑1 (collect (.ref r)) R E s:=by
 unfold collect;refine aab (Pj (abW ZB ?_));rw[kB PySem.F.plain_proto_collect _];show wpAny _ A.in1 (newList [] >>= λl=>again (.builtin "list.__iadd__" ⟨[l,.ref r],[]⟩)) _ _ s;refine aab (abF ?_);refine aaf ⟨ad9 EQ _,abW ya9 ?_⟩;rw[kB EQ _];have J:(s.heap.push { cls:=.type "list",data:=.seq ([]:aw).toArray }).get? s.heap.objs.size=some { cls:=.type "list",data:=.seq #[] }:=aax _ rfl;show wpAny _ A.in1 (gh (.ref s.heap.objs.size) (.ref r) (.ref s.heap.objs.size)) _ _ _;have z:=wpAny_extend_range (prog:=prog) (w:=w) (A:=A) (s:={ s with heap:=s.heap.push { cls:=.type "list",data:=.seq ([]:aw).toArray } })
  (R:=λ(q:yaz) (s':am)=>∃(h':Heap) (tk:Nat) (d:aZ) (m:Nat),q=.ok (.ret (.ref s.heap.objs.size))/\s'={ s with heap:=h',toks:=tk } /\
   (∀b o,s.heap.get? b=↥o->h'.get? b=↥o)/\h'.get? s.heap.objs.size=some { cls:=.type "list",dict:=none,data:=.seq d m,slots:=#[] }/\ItemsOf (λi v=>∃t,v=.int (a+i*c) t) d n)
  H (aai _ G) D hn hlen s.heap.objs.size (.ref s.heap.objs.size) 0 J
  (λh' tk d m j g k=>⟨h',tk,d,m,rfl,rfl,λb o e=>j b o (aaw (aan e)) (aai _ e),g,k⟩)
 refine aaX z (λfin s' x=>?_) λe s' x=>?_
 ·cases fin with
  |done f =>
   ext(⟨h',tk,d,m,e,rfl,j,g,k⟩:x);cases e;show wpAny _ A (load s.heap.objs.size >>= _) _ _ _;refine aab (Re g ?_);exact aaf (h h' tk d j k)
  |again C =>
   refine⟨x.1,ade x.2 λq B y=>?_⟩;ext(⟨h',tk,d,m,rfl,rfl,j,g,k⟩:y);show wpAny _ A (load s.heap.objs.size >>= _) _ _ _;refine aab (Re g ?_);exact aaf (h h' tk d j k)
 ·ext(⟨_,_,_,_,I,_⟩:x);cases I
def m5{Q₁:aB}{r:Addr}{a b c:Int}{t u v:Tok}{n:Nat}(m:A.handled=none)(f:IsRange s.heap r a b c t u v)(j:qP a b c=true)(hn:i6 a b c=n)(hlen:n<=2 ^ 24)
  (h:∀(h':Heap) (tk:Nat) (d:aZ),(∀b o,s.heap.get? b=↥o->h'.get? b=↥o)->ItemsOf (λi v=>∃t,v=.int (a+i*c) t) d n->Q₁ (.ref h'.objs.size) { s with heap:=h'.push { cls:=.type "tuple",data:=.seq d },toks:=tk }) :
  pp (model prog w) A (.call (.builtin "tuple.__new__") ⟨[.type "tuple",.ref r],[]⟩) (wants Q₁ E) s:=by
 refine codeAny_of_tree ?_;show wpAny _ A.in1 (do HE "tuple.__new__" ⟨[.type "tuple",.ref r],[]⟩;again (.builtin "tuple.__new__" ⟨[.type "tuple",.ref r],[]⟩)) _ _ s;refine aab (yaa (PySem.F.newCall_tuple_1 _) (aaf ⟨ad9 EN _,abW PySem.F.entry_tuple_new ?_⟩));rw[kB EN _];have x:=sub_tuple_self;have p:=init_tuple_lookup;have k:=madeHere_tuple;have q:s.TypeIs (.ref r) "range":=⟨_,f,rfl⟩
 wp_walk using Vr q,qR (A:=A.in1) (n:=n) m f j hn hlen
 intro h' tk d l g;show wpAny _ _ (wE d.toList.toArray >>= λv=>ret v) _ _ _;unfold wE;refine aab (abF ?_ (by show d.toList.toArray.size<=sizeLine;simp only[zbu];rw[g.1,i8];exact hlen));refine aaf ?_;have e:d.toList.toArray=d:=by simp
 exact[e]\h h' tk d l g
def m_{Q:aB}{r:Addr}{a b c:Int}{t u v:Tok}{n:Nat}(l:A.handled=none)(j:IsRange s.heap r a b c t u v)(h:qP a b c=true)(hn:i6 a b c=n)(hlen:n<=2 ^ 24)
  (m:∀(h':Heap) (tk:Nat) (g:aZ),(∀b o,s.heap.get? b=↥o->h'.get? b=↥o)->ItemsOf (λi v=>∃t,v=.int (a+i*c) t) g n->Q (.ref h'.objs.size) { s with heap:=h'.push { cls:=.type "tuple",data:=.seq g },toks:=tk }) :
  ⇑1 (call (.type "tuple") [.ref r]) Q E s:=by
 refine callType_codes (Q₁:=λf d=>d.TypeIs f "tuple" /\ Q f d) rZ (PySem.F.typeCall_tuple_1 _) PySem.F.entry_object_init
  (m5 l j h hn hlen λh' tk g k p=>⟨⟨_,aax _ rfl,rfl⟩,m h' tk g k p⟩) λf d e=>?_
 exact⟨e.1,PySem.F.args_object_init_2 f _,object_init_meets rZ.init.lookup rZ.made ⇑4 prog w A.in1 _ d ⟨e.1,rfl,e.2⟩⟩
end
def Lq(xs:aa):O D:=match one xs with
 |some x=>match x with
  |.int n=>if n<=cB /\ -cB<=n then ok (.tup ((n6 n).map D.int))else none
  |_=>none
 |none=>none
protected def Nr{xs:aa}{d:D}(h:Lq xs=ok d):∃n:Int,xs=[.int n]/\n<=cB /\ -cB<=n/\d=.tup ((n6 n).map D.int):=by
 unfold Lq at h;cases hw:one xs with
 |none=>rw[hw]at h;exact nk h
 |some x =>
  ext(rfl:bM hw);rw[hw]at h;cases x<;>first|exact nk h | (cases h;done)|skip
  rename_i n;ext(⟨⟨c,b⟩,a⟩:qN h);exact⟨n,rfl,c,b,a.symm⟩
def AN(sc:Scope)(bl:aq)(e:Expr):Option (aj):=match eC e with
 |some z=>match one z.2 with
  |some i=>if z.1=("tuple" : Str)/\fI sc z.1=true/\z.1∈bl then gn ("range" : Str) sc bl i else none
  |none=>none
 |none=>none
def GS{sc:Scope}{bl:aq}{e:Expr}{args:aj}(h:AN sc bl e=↥args):∃p c i,e=.Call (.Name ("tuple" : Str) p) [i] [] c/\fI sc ("tuple" : Str)=true/\("tuple" : Str)∈bl/\gn ("range" : Str) sc bl i=↥args:=by
 unfold AN at h;cases f:eC e with
 |none=>rw[f]at h;exact nk h
 |some z =>
  ext(⟨x,as⟩:z);rw[f]at h;ext(⟨p,c,rfl⟩:b9 f);have b:(match one as with|↥i=>if x=("tuple" : Str)/\fI sc x=true/\x∈bl then gn ("range" : Str) sc bl i else none|none=>none)=↥args:=h;clear h;cases hw:one as with
  |none=>rw[hw]at b;exact nk b
  |some a =>
   rw[hw]at b;have d:(if x=("tuple" : Str)/\fI sc x=true/\x∈bl then gn ("range" : Str) sc bl a else none)=↥args:=b;clear b;ext(rfl:bM hw);by_cases g:x=("tuple" : Str)/\fI sc x=true/\x∈bl
   ·rw[zac g]at d;ext(⟨rfl,j,b⟩:g);exact⟨_,_,_,rfl,j,b,d⟩
   ·rw[zab g]at d;cases d
def tTR(d:TA):TE:=λb H Q=>d b H λc a=>∃n:Int,c=[.int n]/\n<=cB /\ -cB<=n/\∀l,a l=none->Q (.ref l) (upd a l (.tup ((n6 n).map V.int)))
def Bz{X:Cx}{e1:Expr}{m:TA}{p pos p' pos':Pos}(M:X.calm=true)(R:Gl X "tuple")(k:X.mg "tuple" = none)(L:Gl X "range")(J:X.mg "range" = none)(N:PA X [e1] m)(hs:cj [e1] X.env=[(false,eval e1 X.env)]):
  PE X (.Call (.Name "tuple" p') [.Call (.Name "range" p) [e1] [] pos] [] pos') (tTR m):=by
 intro pins s z H Q I h;refine ab1 (fB I R k (show j_ "tuple" = ↥(.type "tuple") by decide +kernel) ?_);refine aa3 ?_;show wpAny _ _ (yaf ((false,eval (.Call (.Name "range" p) [e1] [] pos) X.env)::nU pos' (cj [] X.env))) _ _ s;refine adb ?_;refine Call_ (fB I L J yaS (aa3 (dD (N pos pins s z H _ I h) λU g P=>?_) hs rfl));ext(⟨T,S,l,r1,q1⟩:P)(⟨n,e,E,C,G⟩:q1);subst e;have D:n<=1000000:=E;have B:-1000000<=n:=C;cases r1 with
 |cons r A =>
  cases A;ext(⟨t,rfl⟩:r);refine call_range_1 (adu ?_);have e2:i6 0 n 1=((n.toNat:Nat):Int):=by rw[rangeSize_one];split<;>left
  refine m_ (l.ok.hd M) (Mx ..) (small_one ⋯ ⋯ ⋯ ⋯) e2 ⋯ λw tk j q x=>?_;have keep:∀b o,g.heap.get? b=↥o->w.get? b=↥o:=λb o e=>q b o (aai _ e);have d:j.size=n.toNat:=x.1;have f:g.heap.objs.size<=w.objs.size:=by
   ext(O:aan (q _ _ (Mx (h:=g.heap) (a:=0) (b:=n) (c:=1) (t:=_) (u:=_) (v:=_))));exact abq O
  refine⟨.ref _,upd S _ (.tup ((n6 n).map V.int)),l.laid (t':=tk) (λb o e=>aai _ (keep b o e)) f ⟨?_,j.toList,?_,?_⟩,rfl,G _ (l.cI.fresh f)⟩
  ·rw[i8];simp[n6];left
  ·refine uX (by simp[n6,d]) λi u F=>?_;have y:j[i]?=↥u:=⇑F
   have K:i<n.toNat:=[-d]\(Array.getElem?_eq_some_iff.mp y).1
   ext(⟨t,rfl⟩:x.2 i u y);refine⟨t,?_⟩;have:(n6 n).getD i 0=(i:Int):=by unfold n6;simp[wp,K]
   rw[this];congr 1;left
  ·exact⟨_,aax _ rfl,rfl,_,by rw[zbu]⟩
def Sr:MZ (AN) Lq:=by
 intro q n j X S bl k L e args D F U b;ext(⟨p,g,i,rfl,J,I,C⟩:GS D)(⟨y,pos',a,rfl,rfl,G,E⟩:kf C)(⟨c,rfl⟩:b.c1);have x:PA X [a] (ri X F q [c]):=PA.imp (b0 b.1 (PA.imp cZ λ_ _ _ h=>jW h) (b.2.1 _)) λ_ _ _ h=>fY h;have this:PE X (.Call (.Name ("tuple" : Str) p) [.Call (.Name ("range" : Str) y) [a] [] pos'] [] g) (tD X F q (.cJ n [c])):=by
  refine PE.imp (Bz L.calm (L.gl J) (L.bl _ I) (L.gl G) (L.bl _ E) x (b.2.1 _)) λN H Q o=>?_;ext(⟨R,s,t,d,M,f,o⟩:o)(⟨O,K,f⟩:aI f);rw[j]at f;ext(⟨m,rfl,A,z,rfl⟩:Nr f);refine⟨R,s,t,_,M,K,λP V e1 r1=>?_⟩;ext(⟨r,T,w⟩:r1)(⟨v,rfl,u⟩:w.one);cases u;refine⟨m,rfl,A,z,λl B=>o _ _ (e1.trans (aL.upd B)) ⟨λ_=>none,λ_ _ h=>by simp at h,.tup (a_.of aT) (mS _)⟩⟩
 exact⟨this,cQ this λ_=>rfl⟩
end DI
end
section
namespace DI
open PySem PySem.Spec PyProof.Rows L2
def rY(xs:aa):O D:=match two xs with
 |some z=>match z.1 with
  |.lst _ a=>match z.2 with
   |.int k=>if k = -1/\1<=a.length then ok (.ow\(ao bq (a.drop (a.length - 1))))else none
   |_=>none
  |_=>none
 |none=>none
def GO{x y d:D}(h:rY [x,y]=ok d):∃(f:Fl) (ds:aa),x=.lst f ds/\y=.int (-1)/\1<=ds.length/\d=.ow\(ao bq (ds.drop (ds.length - 1))):=by
 cases x<;>first|exact nk h | (cases h;done) | (cases y<;>first|exact nk h | (cases h;done)|skip)
 ext(⟨⟨c,b⟩,a⟩:qN h);subst c;exact⟨_,_,rfl,rfl,b,a.symm⟩
variable {X:Cx}
def KI{Φ:aY}{n:Nat}(r:Φ n=rY){sc:Scope}{bl:aq}{k:Nat}(L:PX X sc bl k){e:Expr}{args:aj}(he:m9 true sc bl e=↥args){F:af}{cs:aA}(hs:qx X F Φ cs args):PE X e (tD X F Φ (.cJ n cs))/\PT X e (jX X F Φ (.cJ n cs)):=by
 ext(⟨a,J,p,o,rfl,rfl⟩:sf he);cases cs with
 |nil=>exact hs.elim
 |cons c cs=>cases cs with
  |nil=>exact hs.2.2.2.elim
  |cons D cs=>cases cs with
   |cons _ _=>exact hs.2.2.2.2.2.2.elim
   |nil =>
    ext(⟨O,_,_,N,_,_,_⟩:hs);have this:PE X (.Subscript a (.Slice ↥J none none p) o) (tD X F Φ (.cJ n [c,D])):=by
     refine PE.imp (vM (L2.sS) O (tm N) tq) λW H Q s=>?_;ext(⟨R,V,Y,d,z,m,s⟩:s)(⟨b,j,m⟩:aI m)(⟨x,U,j⟩:aI j)(⟨Z,A,j⟩:aI j);cases j;ext(⟨y,T,A⟩:aI A);cases A;rw[r]at m;ext(⟨f,C,rfl,rfl,j2,rfl⟩:GO m);refine tD.intro z U λv H1 e1 r1=>tD.intro (z.go e1) T λw H2 e2 r2=>?_;cases r2.isInt;refine⟨-1,rfl,?_⟩;ext(I:(r1.go e2).mono (fv':=gK (.cJ n [c,D])) λi M=>aa4 _ M)(⟨E,S,G⟩:I)(⟨q,b,rfl,K,B⟩:G.nI)(t:e1.trans e2);have hlen:=B.length;refine⟨q,b,rfl,K.sq,λl g=>?_⟩;have u:Cn b ↥(-1) none=b.drop (C.length - 1):=by
      unfold Cn;have P:HT.uM b.length 0 ↥(-1)=b.length - 1:=by
       unfold HT.uM;simp;left
      rw[P,HT.DS,<- zbp,zbN,hlen]
     rw[u];refine s _ _ (t.trans (aL.upd g)) (ck.qJ (t.free g) (t.trans (aL.upd g)) aT ?_);exact((B.Gy (C.length - 1)).gQ z S).imp (λ_ _ h=>a_.same (aL.upd g) h) λ_ _ _ _ h=>nd.same (aL.upd g) h
    exact⟨this,cQ this λ_=>rfl⟩
def kz:aa->Option (az)
 |[]=>↥[]
 |d::ds=>match keyOf d with
  |some c=>(kz ds).map (c :: ·)
  |none=>none
theorem vA:∀{ds:aa} {nss:az},kz ds=↥nss->ds=nss.map cH
 |[],nss,h=>by cases h;rfl
 |d::ds,nss,h=>by
  have h:(match keyOf d with|↥c=>(kz ds).map (c :: ·)|none=>none)=↥nss:=h;cases a:keyOf d with
  |none=>rw[a]at h;cases h
  |some c =>
   rw[a]at h;ext(⟨b,e,rfl⟩:im.mp (show(kz ds).map (c :: ·)=↥nss from h));rw[vA e,lS a];rfl
theorem ro:∀a:az,kz (a.map cH)=↥a
 |[]=>rfl
 |c::a=>by
  show(match keyOf (cH c)with|↥c=>(kz (a.map cH)).map (c :: ·)|none=>none)=_;have:keyOf (cH c)=↥c:=bY c;rw[this,ro a];rfl
def LH(K:av)(H:Hp)(a:ah)(nss:az):Prop:=a.length=nss.length/\∀(i:Nat) (ns:ae),nss[i]?=↥ns->∃t,a[i]?=↥(.ref t)/\a_ K H t (ns.map V.int)
variable {nss:az}
def Bq{K:av}{H:Hp}{N:k_}{k:bw}{n:Nat}{a:ah}(r:aH (a_ K H) N k n a (nss.map cH)):LH K H a nss:=by
 refine⟨by rw[r.length,zaa],λi f e=>?_⟩;obtain⟨v,g,b⟩:=r.get (j:=i) (d:=cH f) (by rw[bv,e];rfl);cases b with
 |tup h c=>cases c.ofInts;exact⟨_,g,h⟩
section
variable {prog:aG}{w:World}{A:aF}{E:aB}{s:am}
def sQ{l:Addr}{vs:aw}{Q:aB}(r:A.units+2<cLine)(n:s.heap.IsList l vs.toArray)(q:vs.length<1000)(c:nss.Nodup)(g:md s.heap vs nss)
  (h:∀p:Array Nat,Arr p vs.length->(p.toList.map λi=>nss.getD i [])=bh nss->Q (.ref (s.heap.objs.size+1)) { s with heap:=sortedAll s.heap vs (iv (p.toList.map λi=>vs.getD i ft)) }) :
  ⇑1 (call (.builtin "sorted") [.ref l]) Q E s:=by
 refine ac9 yag WP WV (Xc _) ?_;unfold nf.«sorted»;have a:vs.length<=sizeLine:=by rw[i8];left
 refine aab (m:=yaQ "sorted" 1 1 _) (aaf (aab (collect_list n (aab (adC ?_ a)) a)));have e1:((s.heap.push (f6 "list" #[] 0)).update s.heap.objs.size (ej (· ++ vs.toArray))).objs.size=s.heap.objs.size+1:=by rw[X2,Rs]
 have e2:(((s.heap.push (f6 "list" #[] 0)).update s.heap.objs.size (ej (· ++ vs.toArray))).push (f6 "list" vs.toArray 0)).get? (s.heap.objs.size+1)=↥(f6 "list" vs.toArray 0):=by
  exact[-e1]\aax _ rfl
 show wpAny _ _ _ _ _ ({ s with heap:=((s.heap.push (f6 "list" #[] 0)).update s.heap.objs.size (ej (· ++ vs.toArray))).push (f6 "list" vs.toArray 0) }:am);rw[e1];have f:∀b o,s.heap.get? b=↥o->(((s.heap.push (f6 "list" #[] 0)).update s.heap.objs.size (ej (· ++ vs.toArray))).push (f6 "list" vs.toArray 0)).get? b=↥o:=λb o e=>by
  refine aai _ ?_;exact[rN _ _ (zbv (yw e))]\aai _ e
 have d:∀b o,s.heap.get? b=↥o->((((((s.heap.push (f6 "list" #[] 0)).update s.heap.objs.size (ej (· ++ vs.toArray))).push (f6 "list" vs.toArray 0)).update (s.heap.objs.size+1) (ej λ_=>#[])).push (f6 "tuple" vs.toArray 0)).push (f6 "list" #[] 0)).get? b=↥o:=λb o e=>by
  refine aai _ (aai _ ?_);exact[rN _ _ (zbv (yn (yw e)))]\f b o e
 exact aab (abS (abP Pn ⟨_,e2,rfl⟩ LZ (rm (s:={ s with heap:=((s.heap.push (f6 "list" #[] 0)).update s.heap.objs.size (ej (· ++ vs.toArray))).push (f6 "list" vs.toArray 0) }) (nss:=nss) (show A.in1.in1.units<cLine by show A.units+1+1<cLine;left) e2 ⋯ c (g.mono d) λp k j=>⟨_,rfl,aaf ⟨_,rfl,h p k j⟩⟩) (Pv _)))
end
def yP(y:X.A.units+2<cLine):fJ X (.builtin "sorted") (λD H Q=>∃(p:Addr) (n:ah) (nss:az),D=[.ref p]/\eA X.K H p n/\LH X.K H n nss/\nss.Nodup/\nss.length<1000 /\
  ∀(l:Addr) (bs:aX),H l=none->dk (a_ X.K H) bs (bh nss)->Q (.ref l) (upd H l (.lst (bs.map V.ref)))):=by
 intro pins s σ H D us Q I r h;ext(⟨p,n,nss,rfl,T,⟨W,hT⟩,N,xB,q⟩:h)(⟨u,rfl,w⟩:r.one);cases w;ext(⟨d,E,M,hz⟩:I.list T);have Mt:d.length=nss.length:=[-E.length]\W
 have k:∀(i:Nat) (ns:ae),nss[i]?=↥ns->∃t,n[i]?=↥(.ref t)/\d[i]?=↥(.ref t)/\a_ X.K H t (ns.map V.int):=λi ns e=>by
  ext(⟨t,e1,e2⟩:hT i ns e)(⟨u,y,w⟩:E.get e1);cases w;exact⟨t,e1,y,e2⟩
 have PK:∃as:aX,d=as.map em/\as.length=nss.length:=by
  have:∀(d:aw) (nss:az),d.length=nss.length->(∀(i:Nat) (ns:ae),nss[i]?=↥ns->∃t,d[i]?=↥(.ref t))->∃as:aX,d=as.map em/\as.length=nss.length:=λd=>by
   induction d with
   |nil=>intro nss h _;exact⟨[],rfl,⇑h⟩
   |cons v d x =>
    intro nss h F;cases nss with
    |nil=>simp at h
    |cons ns nss =>
     ext(⟨t,R⟩:F 0 ns rfl)(⟨as,f,g⟩:x nss ⇑h λi O e=>F (i+1) O e);cases R;exact⟨t::as,by rw[f];rfl,by simp[g]⟩
  exact this d nss Mt λi ns e=>let ⟨t,_,h,_⟩:=k i ns e;⟨t,h⟩
 ext(⟨as,rfl,G⟩:PK);have Y:dk (a_ X.K H) as nss:=⟨G,λj a c f g=>by
  ext(⟨t,_,e2,e3⟩:k j c g);rw[bv,f]at e2;cases e2;exact e3⟩
 refine sQ (nss:=nss) y (dK M) (by rw[zaa];left) N ⟨by rw[zaa,G],λi ns e=>?_⟩ λm o S=>?_
 ·ext(⟨t,_,e2,e3⟩:k i ns e)(⟨BN,J,P,_⟩:I.tuple e3);exact⟨t,BN,e2,P,du J⟩
 ·rw[zaa]at o;have Pk:(m.toList.map λi=>(as.map em).getD i ft)=(m.toList.map λi=>as.getD i 0).map em:=by
   rw[zah];refine aaZ λi Z=>?_;have C:i<as.length:=g8.mp (o.pm.mem_iff.mp Z);simp[C]
  rw[Pk];have Py:dk (a_ X.K H) (m.toList.map λi=>as.getD i 0) (bh nss):=by
   rw[<- S];refine⟨by simp,λj a c f g=>?_⟩;rw[bv]at f g;cases B:m.toList[j]? with
   |none=>rw[B]at f;cases f
   |some i =>
    rw[B]at f g;have C:i<as.length:=g8.mp (o.pm.mem_iff.mp (aa6 B));cases f;cases g;exact Y.tup i _ _ (by simp[C]) (by simp[show i<nss.length by left])
  have L:∀l:aX,Vals (l.map V.ref) (l.map em):=λl=>by
   induction l with
   |nil=>exact .nil
   |cons a l x=>exact .cons rfl x
  ext(⟨e,he⟩:sortedAll_at s.heap (as.map em) (iv ((m.toList.map λi=>as.getD i 0).map em)));have U:H (s.heap.objs.size+1)=none:=I.cI.fresh (ady _);refine⟨.ref (s.heap.objs.size+1),upd H (s.heap.objs.size+1) (.lst ((m.toList.map λi=>as.getD i 0).map V.ref)),I.laid (t':=s.toks) (λb u z=>sortedAll_old z) (ady _) ⟨?_,_,e,L _,he⟩,rfl,q _ _ U Py⟩;rw[zaa,zaa,zao,o.sz,i8];left
def oZ(xs:aa):O D:=match one xs with
 |some x=>match x with
  |.lst _ a=>match kz a with
   |some nss=>if nss.Nodup/\nss.length<1000 then ok (.ow\((bh nss).map cH))else none
   |none=>none
  |_=>none
 |none=>none
protected def Bl{xs:aa}{r:D}(h:oZ xs=ok r):∃(f:Fl) (nss:az),xs=[.lst f (nss.map cH)]/\nss.Nodup/\nss.length<1000/\r=.ow\((bh nss).map cH):=by
 unfold oZ at h;cases b:one xs with
 |none=>rw[b]at h;cases h
 |some x =>
  rw[b]at h;ext(rfl:bM b);cases x<;>first | (cases h;done)|skip
  rename_i f c;have h:(match kz c with|↥nss=>if nss.Nodup/\nss.length<1000 then ok (D.lst .ow ((bh nss).map cH))else none|none=>none)=ok r:=h;cases a:kz c with
  |none=>rw[a]at h;cases h
  |some nss =>
   rw[a]at h;ext(⟨⟨g,e⟩,d⟩:qN h);cases vA a;exact⟨f,nss,rfl,g,e,d.symm⟩
def DC:MZ (gn ("sorted" : Str)) oZ:=by
 intro q n m X P bl k L e args s F T g;ext(⟨p,j,a,rfl,rfl,D,C⟩:kf s)(⟨c,rfl⟩:g.c1);have z:PA X [a] (ri X F q [c]):=PA.imp (b0 g.1 (PA.imp cZ λ_ _ _ h=>jW h) (g.2.1 _)) λ_ _ _ h=>fY h;have B:X.A.units+2<cLine:=aaV (aaC (by decide:2<=64) _) L.room.units;have this:PE X (.Call (.Name ("sorted" : Str) p) [a] [] j) (tD X F q (.cJ n [c])):=by
  refine PE.imp (cU (yP B) (L.gl D) (L.bl _ C) ⇑6 z (he:=g.2.1 _)) λM H Q o=>?_;ext(⟨R,u,w,d,J,i,o⟩:o)(⟨N,I,i⟩:aI i);rw[m]at i;ext(⟨f,nss,rfl,G,E,rfl⟩:Bl i);refine⟨R,u,w,_,J,I,λO U e1 r1=>?_⟩;ext(⟨t,S,y⟩:r1)(⟨v,rfl,x⟩:y.one);cases x with
  |lst h r =>
   refine⟨_,_,nss,rfl,h.sq,Bq r,G,E,λl bs b K=>o _ _ (e1.trans (aL.upd b)) (ck.qJ (e1.free b) (e1.trans (aL.upd b)) aT ?_)⟩;exact mJ (K.imp λ_ _ h=>a_.same (aL.upd b) h)
 exact⟨this,cQ this λ_=>rfl⟩
end DI
end
section
namespace DI
open PySem PySem.Spec PyProof.Rows PySem.W
structure XC(K:Frag)(C:Addr):Prop where
 ga:findIn K (.ref C) "__getattribute__" = ↥↥(.builtin "BaseException.__getattribute__")
 gt:findIn K (.ref C) "__getattr__" = ↥none
 cl:findIn K (.ref C) "__class__" = ↥↥(.builtin "object.__class__")
 be:mroIn K C (.type "BaseException")=↥true
 ob:mroIn K C (.type "object")=↥true
 cs:(clsIn K C).isSome=true
section
variable {prog:aG}{w:World}{A:aF}{E:aB}{h:Heap}{g:Array yaE}{d:Drawn}{t:Nat}{os:OsState}{K:Frag}{x C:Addr}{o:Obj}
def X5{R:yaz->am->Prop}(Z:XC K C)(X:K.In h)(a:h.get? x=↥o)(b:o.cls=.ref C)(f:R (.ok (.ret (.ref C))) ⟨h,g,d,t,os⟩):
  pp (model prog w) A (.call (.builtin "getset_descriptor.__get__") ⟨[.builtin "object.__class__",.ref x,.ref C],[]⟩) R ⟨h,g,d,t,os⟩:=by
 ext(c:looks_mroIn (M:=model prog w) X Z.ob);refine ad1 KF.slot_gs.plain KF.entry_gs (KF.slot_gs.check _ _ _ _ _ _ _ _ KF.type_class (KF.args_gs _ _ _) ?_);have e:(⟨h,g,d,t,os⟩:am).TypeIs (.builtin "object.__class__") "getset_descriptor":=adW;have e1:(".".intercalate ("object.__class__".cutAt '.').dropLast) = "object":=F.owner_object_class
 repeat (any_goals (first|assumption | (with_reducible refine aca a ?_;rw[b]) | (with_reducible refine c.at ?_) | (rw[e1];with_reducible refine c.at ?_)|wp_step))
 refine⟨ad6 _ ⇑6,abW F.entry_object_class ?_⟩
 repeat (any_goals (first|assumption | (with_reducible refine aca a ?_;rw[b])|wp_step))
def M4{tk:Tok}{Q:Fin->am->Prop}(Z:XC K C)(X:K.In h)(a:h.get? x=↥o)(b:o.cls=.ref C)(f:Q (.done (.ret (.ref C))) ⟨h,g,d,t,os⟩):
  ⇑1 (nf.«object.__getattribute__» ⟨[.ref x,.str "__class__" tk],[]⟩) Q E ⟨h,g,d,t,os⟩:=by
 have c:(⟨h,g,d,t,os⟩:am).TypeIs (.builtin "object.__class__") "getset_descriptor":=adW;have k:=adW;have j:=F.slot_gs_get.lookup;have i:=F.slot_gs_set.lookup;ext(e:WT (M:=model prog w) X Z.cl)
 repeat (any_goals (first|assumption | (with_reducible refine aca a ?_;rw[b]) | (with_reducible refine e.at ?_)|wp_step))
 refine X5 Z X a b ?_
 repeat (any_goals (first|assumption|wp_step))
def M5{M:Model}{a:Value}{Q:Unit->am->Prop}(Z:XC K C)(X:K.In h)(b:h.get? x=↥o)(f:o.cls=.ref C)(c:Q () ⟨h,g,d,t,os⟩):
  wpAny M A (HE "BaseException.__getattribute__" ⟨[.ref x,a],[]⟩) Q E ⟨h,g,d,t,os⟩:=by
 have e:builtinKind "BaseException.__getattribute__" = ↥.slot:=by decide +kernel
 have i:splitId "BaseException.__getattribute__" = ↥("BaseException","__getattribute__"):=by decide +kernel
 ext(j:looks_mroIn (M:=M) X Z.be)(k:F.args_bexc_ga (.ref x) a);simp only[HE,e,i];refine aab ?_
 ·unfold isInstance
  repeat (first | (with_reducible refine aca b ?_;rw[f]) | (with_reducible refine j.at ?_)|wp_step)
  exact c
def R8{tk:Tok}{R:yaz->am->Prop}(B:Gc "ValueError")(Z:XC K C)(X:K.In h)(a:h.get? x=↥o)(b:o.cls=.ref C)(c:R (.ok (.ret (.ref C))) ⟨h,g,d,t,os⟩):
  pp (model prog w) A (.call (.builtin "BaseException.__getattribute__") ⟨[.ref x,.str "__class__" tk],[]⟩) R ⟨h,g,d,t,os⟩ :=
 ad1 B.ga.plain F.entry_bexc_ga (M5 Z X a b (M4 Z X a b c))
def xby{tk:Tok}{Q:aB}(B:Gc "ValueError")(Z:XC K C)(X:K.In h)(a:h.get? x=↥o)(b:o.cls=.ref C)(i:Q (.ref C) ⟨h,g,d,t,os⟩):
  ⇑1 (getAttrBy (.ref x) (.str "__class__" tk) false) Q E ⟨h,g,d,t,os⟩:=by
 ext(j:B.ga.bind (.ref x));have f:(false&&onTheHeap (qI "BaseException.__getattribute__"))=false:=rfl;have c:(qI "BaseException.__getattribute__" == qI "object.__getattribute__")=false:=by decide +kernel
 have k:(onTheHeap (em C)&&qI "BaseException.__getattribute__" == qI "object.__getattribute__")=false:=by rw[c];rfl
 ext(e:WT (M:=model prog w) X Z.ga)(L2:WT (M:=model prog w) X Z.gt)
 repeat (any_goals (first|assumption | (with_reducible refine aca a ?_;rw[b]) | (with_reducible refine e.at ?_) | (with_reducible refine L2.at ?_)|wp_step))
 refine R8 B Z X a b ?_
 repeat (any_goals (first|assumption|wp_step))
def R9{Q:Option Value->am->Prop}(B:Gc "ValueError")(Z:XC K C)(X:K.In h)(a:h.get? x=↥o)(b:o.cls=.ref C)(c:Q ↥(.ref C) ⟨h,g,d,t+1,os⟩):
  ⇑1 (getAttr? (.ref x) "__class__") Q E ⟨h,g,d,t,os⟩:=by
 unfold getAttr? getAttrBy?
 repeat (any_goals (first|assumption|with_reducible apply xby B Z X a b|wp_step))
end
def A1(x C:Addr)(h:Heap):Prop:=∃o,h.get? x=↥o/\o.cls=.ref C
protected def Fg{K:Frag}{x C:Addr}(B:Gc "ValueError")(Z:XC K C):KitX K (.ref x) (.ref C) (A1 x C) where
 ty:=λM h _ p=>by
  ext(⟨o,f,c⟩:p);exact c▸(Looks.ld f).andThen .now
 it:=λ_ _ X _=>by
  ext(⟨i,a⟩:oq.mp Z.cs);unfold clsIn at a;split at a
  ·rename_i r m j u b;intro L I J D k q;unfold isType loadHead;exact aab (wpAny_loadPart (k _ _ (X _ _ b)) (aaf q))
  ·cases a
 ne:=λh l G H n y X v=>by
  ext(⟨i,a⟩:oq.mp Z.cs);refine Bool.eq_false_iff.mpr λq=>?_;have e:C=l:=Value.ref.inj (beq_iff_eq.mp q);subst e;unfold clsIn at a;split at a
  ·rename_i r m j u b;ext(z:(X _ _ b).symm.trans v);cases z
  ·cases a
 ca:=λ{prog w A E Q s} X p k=>by
  ext(⟨o,f,c⟩:p)(⟨h,g,d,t,F⟩:s);exact R9 B Z X f c k
end DI
end
section
namespace DI
open PySem PySem.Spec PyProof.Rows L2
def X0(l:List Env)(H':Hp)(h h' B:Heap):Prop:=∀b o,h'.get? b=↥o->b∉mY l->(H' b≠none\/h.get? b≠none)->B.get? b=↥o
variable {B base h h' h2 h3:Heap}{H' H1:Hp}
def moved{l:List Env}{H:Hp}(un:Un (mY l) [] H H' h h2)(p:ki H' h2)(r:X0 l H' h h2 B)(m:h.FunFrames base l)(s:∀b∈mY l,H b=none)
  (st:B.StaysIn h3) (f:h2.UpToSlots h3):Un (mY l) [] H H' h h3/\ki H' h3/\X0 l H' h h3 B:=by
 have A:∀b∈mY l,H' b=none:=λb c=>by
  ext(⟨_,o,y,_⟩:m.mem c);exact un.free b o y (s b c) ⇑5
 have keep:∀b o,h2.get? b=↥o->b∉mY l->(H' b≠none\/h.get? b≠none)->h3.get? b=↥o:=λb o e c d=>st b o (r b o e c d);have slot:∀b o,h.get? b=↥o->b∈mY l->∃f,h3.get? b=some { o with slots:=f }:=λb o e c=>by
  ext(⟨w,e1⟩:un.slot b o e (s b c) c ⇑5)(⟨_,i,j,x⟩:m.mem c);rw[e]at j;cases j;ext(⟨t,e2⟩:f b _ e1 (λv z=>x v z));exact⟨t,e2⟩
 refine⟨⟨λb o e n c _=>keep b o (un.keep b o e n c ⇑5) c (.inr (by rw[e];simp)),λb o e n c _=>slot b o e c,un.free,λb o e _=>?_,un.nJ,un.mW⟩,λa o e=>?_,λb o e c d=>?_⟩
 ·by_cases c:b∈mY l
  ·ext(⟨C,e1⟩:slot b o e c);exact⟨_,e1⟩
  ·ext(⟨i,e1⟩:un.there b o e ⇑5);exact⟨i,keep b i e1 c (.inr (by rw[e];simp))⟩
 ·have k:H' a≠none:=by rw[e];simp
  exact(p a o e).lK λu q=>keep a u q (λz=>k (A a z)) (.inl k)
 ·have:∃g,h2.get? b=↥g:=by
   ext((d|d):d)
   ·cases q:H' b with
    |none=>exact absurd q d
    |some u=>exact gF (p b u q)
   ·cases q:h.get? b with
    |none=>exact absurd q d
    |some u=>exact un.there b u q ⇑5
  ext(⟨g,e2⟩:this)(e3:keep b g e2 c d);rw[e]at e3;cases e3;exact r b _ e2 c d
structure XZ(P:aG)(w:World)(C:Addr)(l:List Env)(H:Hp)(s:am)(e:Addr)(H':Hp)(s':am):Prop where
 fly:∃t B,yz B l e (.ref C) (.ref t) s'.heap/\X0 l H' s.heap s'.heap B
 os:s'.os=s.os
 bare:tU s'.gens
 un:Un (mY l) [] H H' s.heap s'.heap
 cI:ki H' s'.heap
abbrev uL(P:aG)(w:World)(C:Addr):CH:=λl H s E e b=>∃a H',e=.ref a/\XZ P w C l H s a H' b/\E (.ref C) none H'
def wy{l:List Env}{e:Addr}{cls a0:Value}(f:yz B l e cls a0 h):e∉mY l:=λg=>by
 ext(⟨_,o,d,c⟩:f.2.2.1.mem g)(⟨i,b,a,_,hd,_⟩:f.first);rw[d]at a;cases a;exact c b hd
variable {C ea f:Addr}{P:aG}{w:World}
def XZ.new{l:List Env}{H:Hp}{s s':am}{e:Addr}(f:XZ P w C l H s e H' s'):H' e=none/\s.heap.get? e=none:=by
 ext(⟨t,B,b,g⟩:f.fly)(⟨c,i,d,_⟩:b.first);have a:¬ (H' e≠none\/s.heap.get? e≠none):=λz=>by
  have:=g e c d (wy b) z;rw[b.2.1]at this;cases this
 exact⟨MF.mp λz=>a (.inl z),MF.mp λz=>a (.inr z)⟩
variable {s1:am}{σ:L2.St}
section
variable {P:aG}{w:World}{C:Addr}{K:av}{mg:aU}{base:Heap}{N:aq}{qual:Str}{scope:Scope}{f:Addr}{cd:Value}{A:aF}{outer:List Env}{s:am}{H:Hp}{E:XK}
def left{pins:au}{s2:am}{t:Addr}
  (I:Inv (jr (uL P w C) P w K mg base N qual scope f cd A outer s H E) pins σ H1 s1)
  (un:Un (mY (jr (uL P w C) P w K mg base N qual scope f cd A outer s H E).stack) [] H1 H' s1.heap h2) (p:ki H' h2) (r:X0 (jr (uL P w C) P w K mg base N qual scope f cd A outer s H E).stack H' s1.heap h2 B)
  (i:yz B outer ea (.ref C) (.ref t) h3) (k:h2.UpToSlots h3) (l:s2.os=s1.os) (bare:tU s2.gens):XZ P w C outer H s ea H' { s2 with heap:=h3 }:=by
 ext(⟨c,j,g⟩:moved un p r I.stack I.lJ i.1 k);have J:=I.AS (s':={ s2 with heap:=h3 }) (ch:=[]) l c j bare λ_ z=>nomatch z;refine⟨⟨t,B,i,λb o e m a=>?_⟩,J.os,bare,J.base,j⟩;have d:b≠s.heap.objs.size:=by
  ext((a|a):a)
  ·rintro rfl;exact a J.free
  ·rintro rfl;exact a (P2 (aao _))
 refine g b o e (λz=>?_) ?_
 ·rcases c0.mp (I.kJ b z)with z|z
  ·exact d z
  ·exact m z
 ·ext((a|a):a)
  ·exact .inl a
  ·right;cases q:s.heap.get? b with
   |none=>exact absurd q a
   |some u =>
    ext(⟨v,n⟩:I.base.there b u q (by intro z;cases z));rw[n];simp
def Tw{E1:XK}(j:∀H',E1 (.ref C) none H'->E (.ref C) none H'):Passes (uL P w C) (jr (uL P w C) P w K mg base N qual scope f cd A outer s H E) E1:=by
 intro pins σ H1 s1 e c I g;ext(⟨ea,H',rfl,⟨⟨t,B,k,m⟩,d,bare,un,l⟩,i⟩:g);show wpAny (model P w) _ (leaving _ (.ref ea)) _ _ c;refine wpAny_leaves_onW (L:=s.heap.objs.size) I.ok.frames rfl k λh' a b=>?_;exact⟨ea,H',rfl,left I un l m a b d bare,j H' i⟩
def IZ{pins:au}{vs:aw}
  (I:Inv (jr (uL P w C) P w K mg base N qual scope f cd A outer s H E) pins σ H1 s1) (d:F0 s1.heap h' ea (.ref C) vs) (he:E (.ref C) none H1) :
  (jr (uL P w C) P w K mg base N qual scope f cd A outer s H E).xe (.ref ea) { s1 with heap:=h' }:=by
 show wpAny (model P w) _ (leaving _ (.ref ea)) _ _ _
 let l:=(jr (uL P w C) P w K mg base N qual scope f cd A outer s H E).stack
 let B:=TD s1.heap (mY l)
 have n:B.StaysIn s1.heap:=λb o e=>NC _ e;refine wpAny_leaves_madeW (h:=s1.heap) (base:=B) (L:=s.heap.objs.size) I.ok.frames rfl n (PySem.W.funFrames_hide (as:=mY l) I.stack λi he a m=>wn.mpr ⟨i,he,m⟩) d λp t r _ _ j=>?_;refine⟨ea,H1,rfl,left (s2:=s1) (H':=H1) I (Un.kept d.keeps) (I.cI.kept d.keeps) (λb o e k c=>?_) r j rfl I.bare,he⟩;have:∃g,s1.heap.get? b=↥g:=by
  ext((c|c):c)
  ·cases q:H1 b with
   |none=>exact absurd q c
   |some u=>exact gF (I.cI b u q)
  ·cases q:s1.heap.get? b with
   |none=>exact absurd q c
   |some u=>exact⟨u,rfl⟩
 ext(⟨g,e1⟩:this)(e2:d.keeps b g e1);have e:h'.get? b=↥o:=e;rw[e]at e2;cases e2;exact Mp _ e1 k
end
abbrev Na:aw:=[.type "ValueError",.type "Exception",.type "BaseException",.type "object"]
abbrev qp(x:Str)(C:Addr)(mg:aU)(h:Heap):Prop:=OwnCls x C Na "ValueError.__new__" mg h
variable {K:av}
protected def Av(q:nt K C Na "ValueError.__new__" = true):∃(dd:Option Addr) (nm:Str) (bs bm:aw) (ns:Addr) (b:Str) (hd:Bool) (sn:aq) (sub:aw) (ab:Bool) (col:Option Bool) (k0 k1 k2 k3 k5:Option Value),
  K.lookup C=↥(Lx nm b C ns bs bm hd sn sub ab col dd k0 k1 k2 k3 k5 "ValueError.__new__")/\PySem.W.tailIn K Na bm=true/\PySem.W.nsOkIn K ns=true/\eD K ns "__init__" = ↥none:=by
 unfold nt at q;split at q
 case h_2=>cases q
 case h_1 dd cd sl ho =>
  split at q
  case h_2=>cases q
  case h_1 C' bm k0 k1 k2 k3 n k5 hm hs =>
   rw[zag,zag,zag,zag,zag]at q;ext(⟨⟨⟨⟨⟨e1,e2⟩,e3⟩,e4⟩,e5⟩,e6⟩:q)(e1:beq_iff_eq.mp e1)(e2:beq_iff_eq.mp e2)(e6:beq_iff_eq.mp e6);subst e1;subst e2;cases cd with
   |mk nm bs c ns b hd sn sub ab col a =>
    cases hm;have e3:a=false:=⇑e3
    subst e3;cases sl with
    |mk l =>
     cases hs;exact⟨_,_,_,_,_,_,_,_,_,_,_,_,_,_,_,_,ho,e4,e5,e6⟩
variable {mg:Str->Option Value}
def zU{x:Str}(X:K.In h)(G:h.Ns cm mg)(e:eD K cm x=↥↥(.ref C))(q:nt K C Na "ValueError.__new__" = true):qp x C mg h:=by
 ext(⟨_,_,_,_,_,_,_,_,_,_,_,_,_,_,_,_,a,e4,e5,e6⟩:Av q);exact⟨abZ X G e,_,_,_,_,_,_,_,_,_,_,_,_,_,_,_,_,_,X _ _ a,.of_isNs (PySem.W.isNs_of_in X e5),PySem.W.nsMap_none_of_in X e5 e6,PySem.W.tail_of_in X e4⟩
variable {cpos np p1 p2 p3 p4 p5 pos:Pos}
section
variable {X:Cx}{C:Addr}{x:Str}
def Nv(X:Cx)(C:Addr):TS:=λD σ H=>∀pins s h' ea a,Inv X pins σ H s->F0 s.heap h' ea (.ref C) a->X.xe (.ref ea) { s with heap:=h' }
def D5{m:Str}{j:Nat}{p:Pos}(S:X.calm=true)(O:qp x C X.mg X.base)(R:Gl X x)(hd:(x==⇑9)=false):
  PS X (.Raise ↥(.Call (.Name x np) [.Constant (.str m) j p] [] cpos) none pos) (Nv X C):=by
 intro pins s σ H D I hw;ext(⟨tl,N,l,q,bs,a,k,b,G,c,E,y,v,u,t,o,n,V,U,g,T⟩:O.obj);refine wpAny_Raise_call_subT (C:=C) (nm:=l) (q:=q) (N:=N) (bs:=bs) (bm:=tl) (hdct:=a) (sn:=k) (sub:=b) (ab:=G) (col:=c) (dd:=E) (k0:=y) (k1:=v) (k2:=u) (k3:=t) (k5:=o)
  Ve (mN:=n) (T.hasType Ve.hasBase) (I.ok.hd S) rfl g (tR I R O.bound ⟨rfl,?_⟩ hd)
 have A:cj [.Constant (.str m) j p] X.env=(false,eval (.Constant (.str m) j p) X.env)::cj [] X.env:=rfl;ext(z:b0 (o_ (X:=X) (x:=m) (j:=j) (pos:=p)) cZ A cpos pins s σ H (λi H'=>H'=H/\i.length<=1) I ⟨rfl,aao 1⟩);rw[A]at z ⊢;refine adX (dD z λJ L W=>?_);ext(⟨i,Y,d,r,q2,M⟩:W);subst q2;exact⟨rfl,[-r.length]\aav M ⇑4,d.bk _ _ V,U.keeps d.bk,T.keeps d.bk,λh' e Q=>hw pins L h' e J d Q⟩
end
variable {X:Cx}
def Cx.Ok.mk'(ok:X.Ok)(e:Value)(E:aB):Cx.Ok { X with A:=X.A.mark ↥e,calm:=false,xe:=E } :=
 ⟨ok.mod,ok.kind,ok.glob,ok.blt,ok.above,ok.inj,ok.has,ok.MT,(λh=>by cases h),ok.frames,ok.NB,ok.VH,ok.bs,ok.G7,ok.vS,ok.yx,ok.kR,ok.CT⟩
def Fx{pins:au}{H:Hp}{s:am}(I:Inv X pins σ H s)(e:Value)(E:aB):Inv { X with A:=X.A.mark ↥e,calm:=false,xe:=E } pins σ H s :=
 ⟨Cx.Ok.mk' I.ok e E,I.os,I.bare,I.base,I.loc,I.cell,I.free,I.gc,I.pin,I.cI,I.len⟩
variable {E:Value->am->Prop}
def yj{pins:au}{H:Hp}{s:am}{e:Value}(ok:X.Ok)(I:Inv { X with A:=X.A.mark ↥e,calm:=false,xe:=E } pins σ H s):Inv X pins σ H s :=
 ⟨ok,I.os,I.bare,I.base,I.loc,I.cell,I.free,I.gc,I.pin,I.cI,I.len⟩
def Jg{i:Nat}{x:Str}(c:X.N[i]?=↥x)(b:MY X.env.scope x)(hd:(x==⇑9)=false)(a:(x==("__classdict__" : Str))=false):PE X (.Name x pos) (mw i):=iP c b hd a
noncomputable abbrev Cx.nK(X:Cx)(pins:au)(E:aB):Cx:={ X with xe:=E,pn:=X.pn++pins }
section
variable {X:Cx}{C:Addr}{x n y:Str}{i j:Nat}{E1:XK}
def JQ{pins:au}{H:Hp}{s:am}(I:Inv X pins σ H s)(E:aB):Inv (Cx.nK X pins E) [] σ H s :=
 ⟨⟨I.ok.mod,I.ok.kind,I.ok.glob,I.ok.blt,I.ok.above,I.ok.inj,I.ok.has,I.ok.MT,I.ok.hd,I.ok.frames,I.ok.NB,I.ok.VH,I.ok.bs,I.ok.G7,I.ok.vS,I.ok.yx,I.ok.kR,I.ok.CT⟩,I.os,I.bare,I.base,I.loc,I.cell,I.free,I.gc,λp a=>I.pin p ⇑a,I.cI,I.len⟩
def iu{pins q:au}{H:Hp}{s:am}(I:Inv (Cx.nK X pins E) q σ H s):Inv X pins σ H s :=
 ⟨⟨I.ok.mod,I.ok.kind,I.ok.glob,I.ok.blt,I.ok.above,I.ok.inj,I.ok.has,I.ok.MT,I.ok.hd,I.ok.frames,I.ok.NB,I.ok.VH,I.ok.bs,I.ok.G7,I.ok.vS,I.ok.yx,I.ok.kR,I.ok.CT⟩,I.os,I.bare,I.base,I.loc,I.cell,I.free,I.gc,λp a=>I.pin p (aa4 _ a),I.cI,I.len⟩
def tracked{l:List Env}{H:Hp}(un:Un (mY l) [] H H' h h')(r:ki H' h')(m:H' ea=none)(g:h.get? ea=none)(a:A1 ea C h'):
  Un (mY l) [] H (upd H' ea (.ext (A1 ea C))) h h'/\ki (upd H' ea (.ext (A1 ea C))) h':=by
 have ne:∀b u,H' b=↥u->b≠ea:=λb u q=>dQ q m;refine⟨⟨un.keep,un.slot,λb o e n p=>?_,un.there,λb d q=>?_,λb o u q=>?_⟩,λb u q=>?_⟩
 ·have:b≠ea:=by rintro rfl;rw[g]at e;cases e
  exact[bt this]\un.free b o e n p
 ·have:=un.nJ b d q;exact[bt (ne _ _ this)]\this
 ·have:=un.mW b o u q;exact[bt (ne _ _ this)]\this
 ·by_cases c:b=ea
  ·subst c;rw[aT]at q;cases q;ext(⟨o,e1,e2⟩:a);exact⟨⟨o,e1,e2⟩,⟨o,e1⟩,λs h2 ⟨o,e1,e2⟩ k=>⟨o,k o e1,e2⟩⟩
  ·rw[bt c]at q;exact(r b u q).lK λ_ q=>q
end
def Yn(C:Addr)(i:Nat)(b:Bool):TE:=λσ H Q=>∃ea,σ[i]?=↥↥(.ref ea)/\H ea=↥(.ext (A1 ea C))/\Q (.bl b) H
def SA(C:Addr)(i:Nat)(bs:List Bool):TA:=λσ H Q=>∃ea,σ[i]?=↥↥(.ref ea)/\H ea=↥(.ext (A1 ea C))/\Q (bs.map V.bl) H
section
variable {X:Cx}{C:Addr}{i:Nat}
def OY{c:V}{d:Value}{b:Bool}(Z:XC X.K C)(k:∀u,RelV c u->u=d)(l:ci X.K (.ref C) d=↥b):
  fJ X (.builtin "isinstance") (λa H Q=>∃ea,a=[.ref ea,c]/\H ea=↥(.ext (A1 ea C))/\Q (.bl b) H):=by
 intro pins s σ H a n Q I r h;ext(⟨ea,rfl,m,q⟩:h)(⟨u,e,rfl,g,j⟩:vals2 r);cases g;cases k e j;obtain⟨⟨o,e1,e2⟩,_⟩:=(show cN H s.heap ea (.ext (A1 ea C)) from I.cI ea _ m)
 exact ab4 (Fg PySem.F.attr_ValueError Z) I.CK ⟨o,e1,e2⟩ l (λz=>nomatch z) λtk=>⟨.bl b,H,I.tok tk,rfl,q⟩
structure R4(X:Cx)(C:Addr)(cl:Str->Option Bool):Prop where
 xc:XC X.K C
 isi:Gl X "isinstance"
 isn:X.mg "isinstance" = none
 ex:∀x b,cl x=↥b->∀p,∃cv cu,PE X (.Name x p) (tC cv)/\(∀u,RelV cv u->u=cu)/\ci X.K (.ref C) cu=↥b
def wa(err:Str)(cl:Str->Option Bool)(e:Expr):Option Bool:=(eC e).bind λz=>(two z.2).bind λw=>(Hw w.1).bind λy=>(Hw w.2).bind λx=>if z.1 = "isinstance" /\ y=err then cl x else none
def eG(err:Str)(cl:Str->Option Bool):aj->Option (List Bool)
 |[]=>↥[]
 |e::es=>match wa err cl e,eG err cl es with
  |some b,↥bs=>↥(b::bs)
  |_,_=>none
def x8{err:Str}{cl:Str->Option Bool}(Z:R4 X C cl)(he:∀p,PE X (.Name err p) (mw i)){e:Expr}{b:Bool}(h:wa err cl e=↥b):PE X e (Yn C i b)/\(∀d,cj (e::d) X.env=(false,eval e X.env)::cj d X.env)/\∀whole,Rv e X.env whole=(do let v <- whole;standAt e.pos;holding [v] (truthy v)):=by
 ext(⟨⟨f,as⟩,k,r⟩:jb.mp h)(⟨u,pos,rfl⟩:b9 k)(⟨⟨s,t⟩,hw,o⟩:jb.mp r);obtain rfl:as=[s,t]:=fX hw;ext(⟨y,g,n⟩:jb.mp o)(⟨p1,rfl⟩:gU g)(⟨x,j,a⟩:jb.mp n)(⟨p2,rfl⟩:gU j);by_cases c:f = "isinstance" /\ y=err
 ·rw[zac c]at a;ext(⟨rfl,rfl⟩:c);refine⟨?_,λ_=>rfl,λ_=>rfl⟩;ext(⟨z,A,m,h2,h3⟩:Z.ex x b a p2);refine PE.imp (cU (OY Z.xc h2 h3) Z.isi Z.isn u6 (b0 (he p1) (b0 m cZ))) λσ H Q l=>?_;ext(⟨ea,e1,e2,q⟩:l);exact⟨_,e1,ea,rfl,e2,q⟩
 ·rw[zab c]at a;cases a
set_option tactic.hygienic true in
theorem x9{err:Str}{cl:Str->Option Bool}(Z:R4 X C cl)(he:∀p,PE X (.Name err p) (mw i)):∀{es:aj} {bs:List Bool},eG err cl es=↥bs->PA X es (SA C i bs)
 |[],bs,h=>by
  cases h;exact PA.imp cZ λσ H Q ⟨ea,_,_,q⟩=>q
 |e::es,bs,h=>by
  rw[eG]at h;split at h
  ·rename_i b d c h2;cases h;ext(⟨p1,p2,_⟩:x8 Z he c);refine PA.imp (b0 p1 (x9 Z he h2) (p2 es)) λσ H Q a=>?_;ext(⟨ea,e1,e2,q⟩:a);exact⟨ea,e1,e2,ea,e1,e2,q⟩
  ·cases h
end
meta def yR:CE:=.cmp .eq (.bf .len [.comp 1 (.nm 0) [] .seq [.v 1] [.v 0] (.v 0)]) ↑1
meta def og(told:Str)(a b r:Expr)(n m l k i:aj)(g e c:Pos)(j:Nat)(d pr I p1 J L p2 y o F t p3 z p N u p4 A q G v p5 D s H x M:Pos):aQ :=
 [.If (.BoolOp .Or [.UnaryOp .Not a g,.UnaryOp .Not b e] c) [.Return ↥(.Constant (.bool false) j d) pr] [] I,.Assign [.Name told p1] (.List n J) L,.Assign [.Name told p2] (.BinOp (.Name told y) .Add (.List m o) F) t,
   .Assign [.Name told p3] (.BinOp (.Name told z) .Add (.List l p) N) u,.Assign [.Name told p4] (.BinOp (.Name told A) .Add (.List k q) G) v,.Assign [.Name told p5] (.BinOp (.Name told D) .Add (.List i s) H) x,.Return ↥r M]
def sO(C:Addr):Sp:=λa H Q _=>∃ea,a=[.ref ea]/\H ea=↥(.ext (A1 ea C))/\∀H',aL H H'->Q (.bl true) H'
variable {qual told:Str}
def KY{i j:Nat}{err:Str}{cl:Str->Option Bool}{es:aj}{bs bs':List Bool}(Z:R4 X C cl)(he:∀p,PE X (.Name err p) (mw i))(n:∀p,PE X (.Name told p) (mw j))(nd:X.N.Nodup)(s:X.N[j]?=↥told)(g:X.env.scope.names.lookup told=↥.local)(t:i≠j)
  (h:eG err cl es=↥bs) (hlen:bs'.length+bs.length<=sizeLine):PS X (.Assign [.Name told p1] (.BinOp (.Name told p2) .Add (.List es p3) p4) p5)
   (λD σ H=>∃ea l,σ[i]?=↥↥(.ref ea)/\H ea=↥(.ext (A1 ea C))/\σ[j]?=↥↥(.ref l)/\H l=↥(.lst (bs'.map V.bl))/\∀a H' b,aL H H'->H b=none->a[i]?=↥↥(.ref ea)->a[j]?=↥↥(.ref b)->H' b=↥(.lst ((bs'++bs).map V.bl))->a.length=σ.length->D.nx a H'):=by
 refine PS.imp (kM (i:=j) nd s (.inl g) (L3 Ey (n p2) (tx (x9 Z he h))) (hf:=.inr g)) λD σ H r=>?_;ext(⟨ea,l,e1,e2,e3,e4,q⟩:r);have c:j<σ.length:=by
  by_cases z:j<σ.length
  ·exact z
  ·rw[dV ⋯]at e3;cases e3
 refine⟨_,e3,ea,e1,e2,by simp;left,λp e=>?_⟩;refine⟨l,p,_,_,rfl,rfl,[bt (dQ e4 e)]\e4,aT,⇑hlen,λm d=>?_⟩;have s1:aL H (upd H p (.lst (bs.map V.bl))):=aL.upd e;ext(k:s1.trans (aL.upd (o:=.lst (bs'.map V.bl++bs.map V.bl)) d));refine q _ _ m k (aL.free s1 d) ?_ ?_ ?_ ?_
 ·exact[cb (ip t)]\e1
 ·rw[eo c]
 ·rw[aT,zak]
 ·simp
variable {b1 b2 b3 b4 b5:List Bool}{Φ:aY}
def yU{S:Sx}{k:Nat}{err:Str}{cl:Str->Option Bool}(L:Lk X S k Φ)(Z:R4 X C cl)(u:X.N=[err,told])(he:X.env.scope.names.lookup err=↥.local)(g:X.env.scope.names.lookup told=↥.local)
  (d1:(err==⇑9)=false) (d2:(err==("__classdict__" : Str))=false) (d3:(told==⇑9)=false) (d4:(told==("__classdict__" : Str))=false) (nd:X.N.Nodup)
  (hlen:b1.length+b2.length+b3.length+b4.length+b5.length<=sizeLine)
  (yp:bg Φ yR [none,↥(.fz\((b1++b2++b3++b4++b5).map DI.D.bl))]=ok (.bl true)) :
  ∀{a b r:Expr} {l1 l2 l3 W Q:aj} {O I z:Pos} {j:Nat} {pj pr Jf p1 Je Jb p2 LP LY L7 LU p3 LO LX A LS p4 LN LW L6 LR p5 LM LV L5 LQ Ja:Pos},wa err cl a=↥true->wa err cl b=↥true->eG err cl l1=↥b1->eG err cl l2=↥b2->eG err cl l3=↥b3->eG err cl W=↥b4->eG err cl Q=↥b5->cc S yR r=true ->
   gS X (og told a b r l1 l2 l3 W Q O I z j pj pr Jf p1 Je Jb p2 LP LY L7 LU p3 LO LX A LS p4 LN LW L6 LR p5 LM LV L5 LQ Ja) (λD σ H=>∃ea,σ=[↥(.ref ea),none]/\H=X.H₀/\H ea=↥(.ext (A1 ea C))/\∀H',aL H H'->D.rt (.bl true) H'):=by
 intro a b r l1 l2 l3 W Q O I z j pj pr Jf p1 Je Jb p2 LP LY L7 LU p3 LO LX A LS p4 LN LW L6 LR p5 LM LV L5 LQ Ja ha hb i1 i2 i3 i4 i5 hr;have h0:X.N[0]?=↥err:=by rw[u];rfl
 have m:X.N[1]?=↥told:=by rw[u];rfl
 have c:∀p,PE X (.Name err p) (mw 0):=λp=>iP h0 (.inl he) d1 d2;have pt:∀p,PE X (.Name told p) (mw 1):=λp=>iP m (.inl g) d3 d4;unfold og;ext(⟨M,_,J⟩:x8 Z c ha)(⟨G,_,A⟩:x8 Z c hb)(T:LK (pos:=z) (rest:=[]) (tf (pos:=O) (s_ M J)) (D2 (pos:=z) (tf (pos:=I) (s_ G A))))(P1:kM (X:=X) (pos:=Jb) (pos':=p1) (i:=1) nd m (.inl g) (tx (pos:=Je) (x9 Z c i1)) (hf:=.inr g))(R:(fy (F:=λ_=>False) L yR r hr).1);refine gS.imp (cG (vI (pos:=Jf) T.pt (gA (mL (pos:=pr) L4)) tj) (cG P1 (cG (KY (bs':=b1) Z c pt nd m g ⇑4 i2 ⋯) (cG (KY (bs':=b1++b2) Z c pt nd m g ⇑4 i3 (by simp;left))
  (cG (KY (bs':=b1++b2++b3) Z c pt nd m g ⇑4 i4 (by simp;left)) (cG (KY (bs':=b1++b2++b3++b4) Z c pt nd m g ⇑4 i5 (by simp;left)) (gA (mL (pos:=Ja) R)))))))) λD σ H hq=>?_
 ext(⟨ea,rfl,rfl,e,q⟩:hq);refine⟨ea,rfl,e,true,rfl,?_⟩;refine⟨ea,rfl,e,true,rfl,?_⟩;refine⟨ea,rfl,e,by simp;left,λt n1=>?_⟩;have s1:aL X.H₀ (upd X.H₀ t (.lst (b1.map V.bl))):=aL.upd n1;refine⟨ea,t,rfl,s1 _ _ e,rfl,aT,λσ2 H2 l2' y n2 e2 f2 g2 OK=>?_⟩;ext(y:s1.trans y);refine⟨ea,l2',e2,y _ _ e,f2,g2,λσ3 H3 Y x n3 e3 f3 g3 Zq=>?_⟩;ext(x:y.trans x);refine⟨ea,Y,e3,x _ _ e,f3,g3,λσ4 H4 U s4 n4 e4 f4 g4 Zp=>?_⟩;ext(YU:x.trans s4);refine⟨ea,U,e4,YU _ _ e,f4,g4,λσ5 H5 s s5 n5 e5 f5 g5 Zo=>?_⟩;ext(o:YU.trans s5);refine⟨λp=>p=s,λ_=>none,[none,↥(.fz\((b1++b2++b3++b4++b5).map DI.D.bl))],_,⟨?_,λi d l=>?_,λ_ _=>rfl,λp hp=>?_,λp hp=>?_,λ_ _ h=>by simp at h,λ_ _ h=>by simp at h,o⟩,yp,λv H' sv rv=>?_⟩
 ·rw[Zo,Zp,Zq,OK];rfl
 ·match i,l with
  |1,l =>
   cases l;refine⟨_,f5,.lst ⟨g5,rfl⟩ ?_⟩;have:∀(bs:List Bool) (n:Nat),aH (a_ X.K H5) (DI.nd X.K (λp=>p=s) ⇑7 ⇑8 H5) [1] n (bs.map V.bl) (bs.map DI.D.bl):=by
    intro bs;induction bs with
    |nil=>intro n;exact .nil
    |cons b bs ih=>intro n;exact .cons (.bl b) (ih _)
   exact this _ _
  |0,l=>cases l
  |n+2,l=>simp at l
 ·subst hp;rw[g5];simp
 ·subst hp;exact .inr (aL.free YU n5)
 ·ext(⟨τt,_,rp⟩:rv);cases rp;exact q H' (o.trans sv)
variable {A:aF}
def Kh{M:Model}{nm q i q':Str}{N B N':Addr}{bs bm bs' a:aw}{hdct F:Bool}{sn c:aq}{sub z:aw}{ab l:Bool}{col k:Option Bool}{dd D:Option Addr}{k0 k1 k2 k3 k5 v u s r p:Option Value}{newId H:String}
   {g:Array yaE} {d:Drawn} {t:Nat} {m:OsState} {e:Addr} {n:Obj} {Q:Bool->am->Prop} {b:Bool}
  (y:h.get? C=↥(Lx nm q C N bs bm hdct sn sub ab col dd k0 k1 k2 k3 k5 newId)) (o:h.get? B=↥(Lx i q' B N' bs' a F c z l k D v u s r p H)) (he:h.get? e=↥n) (J:n.cls=.ref C) (I:a.contains (.type "BaseException")=true) (G:(em C::bm).contains (.ref B)=b)
  (x:Q b ⟨h,g,d,t,m⟩):wpAny M A (excMatches (.ref e) (.ref B)) Q E ⟨h,g,d,t,m⟩:=by
 have j:(em B::a).contains (.type "BaseException")=true:=by rw[List.contains_cons,I,zbt]
 have f:=tc_notTuple;unfold excMatches;cases b
 all_goals
  repeat (first | (with_reducible refine aca he ?_;rw[J])|with_reducible refine aca o ?_ | (with_reducible refine yac o ?_;rw[j]) | (with_reducible refine yac y ?_;rw[G])|wp_step)
  exact x
def uK(C B:Addr)(b:Bool)(h:Heap):Prop:=∃(nm q:Str) (N:Addr) (bs bm:aw) (hdct:Bool) (sn:aq) (sub:aw) (ab:Bool) (col:Option Bool) (dd:Option Addr) (k0 k1 k2 k3 k5:Option Value) (newId:String),h.get? C=↥(Lx nm q C N bs bm hdct sn sub ab col dd k0 k1 k2 k3 k5 newId)/\(em C::bm).contains (.ref B)=b
def Ya(y:Str)(s:Stmt):Option Expr:=(Ba s).bind λa=>(one a.1).bind λt=>(Hw t).bind λb=>if b=y then ↥a.2 else none
def Dd{y:Str}{s:Stmt}{e:Expr}(h:Ya y s=↥e):∃p1 p2,s=.Assign [.Name y p1] e p2:=by
 ext(⟨⟨d,v⟩,b,h⟩:bT h)(⟨t,h2,h⟩:bT h)(⟨c,h3,h⟩:bT h)(⟨a,h⟩:gT h);cases h;ext(⟨p,rfl⟩:jV b)(⟨q,rfl⟩:gU h3)(rfl:bM h2);exact⟨q,p,a▸rfl⟩
meta def vCS:Const->Option Str
 |.str w=>↥w
 |_=>none
def Nl{c:Const}{w:Str}(h:vCS c=↥w):c=.str w:=by cases c<;>cases h;rfl
def Ni(n y z:Str):eO->Option (Str×Str)
 |.ExceptHandler t m b _=>t.bind λe=>(Hw e).bind λx=>b.head?.bind λs1=>(one b.tail).bind λa=>(Ya y s1).bind λc=>(vC c).bind λc=>(vCS c).bind λw=>(Ya z a).bind λd=>(Hw d).bind λg=>if m=↥n/\g=n then ↥(x,w) else none
def De{n y z x w:Str}{h:eO}(e:Ni n y z h=↥(x,w)):∃np p1 d p2 p3 q1 q2 c pos,h=.ExceptHandler ↥(.Name x np) ↥n [.Assign [.Name y p1] (.Constant (.str w) d p2) p3,.Assign [.Name z q1] (.Name n q2) c] pos:=by
 ext(⟨t,m,b,pos⟩:h)(⟨_,rfl,h⟩:bT e)(⟨_,o,h⟩:bT h)(⟨s1,a,h⟩:bT h)(⟨p,h2,h⟩:bT h)(⟨_,h3,h⟩:bT h)(⟨_,l,h⟩:bT h)(⟨_,j,h⟩:bT h)(⟨_,i,h⟩:bT h)(⟨_,g,h⟩:bT h)(k:gT h);cases k.2;ext(⟨rfl,rfl⟩:k.1)(⟨_,rfl⟩:gU o)(⟨_,_,rfl⟩:Dd h3)(⟨_,_,rfl⟩:uZ l)(rfl:Nl j)(⟨_,_,rfl⟩:Dd i)(⟨_,rfl⟩:gU g);cases b with
 |nil=>cases a
 |cons s b =>
  cases a;ext(rfl:bM h2);exact⟨_,_,_,_,_,_,_,_,_,rfl⟩
section
variable {X:Cx}{C:Addr}{n y z:Str}{i j l:Nat}{E1:XK}
inductive y7(X:Cx)(C:Addr)(n y z w:Str):List eO->Prop
 |here {h:eO} {hs:List eO} {x:Str} (v:Ni n y z h=↥(x,w)) (O:qp x C X.mg X.base) (g:Gl X x) (d:(x==⇑9)=false):y7 X C n y z w (h::hs)
 |next {h:eO} {hs:List eO} {x w':Str} {B:Addr} (v:Ni n y z h=↥(x,w')) (O:qp x B X.mg X.base) (OS:uK C B false X.base) (g:Gl X x) (d:(x==⇑9)=false) (r:y7 X C n y z w hs):y7 X C n y z w (h::hs)
def yc{M:Model}{pins:au}{H:Hp}{s:am}{Q:Unit->am->Prop}(I:Inv X pins σ H s)(Y:X.env.kindOf n=↥.local)(nd:X.N.Nodup)(Z:X.N[i]?=↥n)
  (h:∀G,Inv X pins (σ.set i none) H G->Q () G):wpAny M A (do JJ X.env n .none;Zj X.env n pos) Q E s:=by
 ext(⟨m,W,x⟩:id I.loc);have FO:(X.env.scope.kind==.class||(X.env.scope.kind==.module&&X.env.locals != X.env.globals))=false:=by rw[I.ok.kind];rfl
 refine wpAny_nameGoes_keeps Y W FO λh' u J a=>h _ ?_;have tracked:ki H h':=λb S e=>by
  exact(I.cI b S e).lK λF q=>(a.2 b (by rintro rfl;rw[I.free]at e;cases e)).trans q
 refine⟨I.ok,I.os,I.bare,⟨λb o e n D g=>?_,λb o e n D g=>?_,I.base.free,λb o e g=>?_,I.base.nJ,I.base.mW⟩,⟨_,J,λk z v' e1 e2 e3=>?_⟩,λz c e=>?_,I.free,I.gc,λp V=>?_,tracked,[zaJ]\I.len⟩
 ·exact(a.2 b (aaw (aam (aan e) I.ok.above))).trans (I.base.keep b o e n D g)
 ·ext(⟨O,e1⟩:I.base.slot b o e n D g);exact⟨O,(a.2 b (aaw (aam (aan e) I.ok.above))).trans e1⟩
 ·ext(⟨T,e1⟩:I.base.there b o e g);exact⟨T,(a.2 b (aaw (aam (aan e) I.ok.above))).trans e1⟩
 ·have r:i≠k:=by
   rintro rfl;rw[xz]at e2;simp at e2
  rw[cb r]at e2;have ZK:z≠n:=by
   rintro rfl;obtain⟨h1,h2⟩:=bi.mp e1;obtain⟨h3,h4⟩:=bi.mp Z;exact r ((adE nd).mp (h4.trans h2.symm))
  ext(⟨L,R,q⟩:x k z _ e1 e2 e3);refine⟨L,R,?_⟩;ext((⟨v,e⟩|⟨v,c,e,t⟩):q)
  ·exact .inl ⟨v,by show(if z=n then u else m z)=_;rw[zab ZK];exact e⟩
  ·exact .inr ⟨v,c,e,t.sameBut a (I.KO z c e)⟩
 ·ext(⟨F,t⟩:I.cell z c e);exact⟨F,t.sameBut a (I.KO z c e)⟩
 ·ext(⟨e,n,ne,U,d⟩:I.pin p V);exact⟨(a.2 p.1 ne).trans e,n,ne,U,d⟩
def B9{Q:Flow->am->Prop}{pins:au}{H:Hp}{s:am}{w:Str}{hs:List eO}(I:Inv X pins σ H s)(m:∃p,s.heap.get? ea=↥p/\p.cls=.ref C)(h:y7 X C n y z w hs)
  (go:∀p1 k p2 p3 q1 q2 e pos,pp (model X.prog X.w) (X.A.mark ↥(.ref ea)) (.handlers (.ref ea) [.ExceptHandler none ↥n [.Assign [.Name y p1] (.Constant (.str w) k p2) p3,.Assign [.Name z q1] (.Name n q2) e] pos] X.env) (λr a=>match r with
     |.ok f=>⇑0 (do JJ X.env n .none;Zj X.env n pos) (λ_ b=>Q f b) X.xe a
     |.error x=>cameBackBy (model X.prog X.w) X.A X.env X.xe x a) s):⇑0 (handleBy (.ref ea) X.env hs) Q X.xe s:=by
 ext(⟨p,m,G⟩:m);induction h with
 |here v O g d =>
  ext(⟨np,p1,k,p2,p3,q1,q2,e,pos,rfl⟩:De v);refine yad (W1 (acH I.ok.kind g (adn ([I.ok.glob]\I.mod.glob.keeps I.bk) O.bound ?_) d)) (by intro q;cases q);ext(⟨bm,t,R,M,bs,c,L,o,ab,D,dd,Y,W,V,U,T,S,u,_,_,F⟩:(O.keeps I.bk).obj);exact wpAny_excMatches_sub_self u m G (F.hasType ⇑6) (go p1 k p2 p3 q1 q2 e pos)
 |next v O OS g d r Z =>
  ext(⟨np,p1,k,p2,p3,q1,q2,e,pos,rfl⟩:De v);refine yad (W1 (acH I.ok.kind g (adn ([I.ok.glob]\I.mod.glob.keeps I.bk) O.bound ?_) d)) (by intro q;cases q);ext(⟨bm,t,R,M,bs,c,L,o,ab,D,dd,Y,W,V,U,T,S,hB,_,_,F⟩:(O.keeps I.bk).obj)(⟨N,q2,N2,bs2,bm2,ac7,J,aeG,ab2,ag1,Cm,l0,l1,l2,l3,l5,id2,u,Pp⟩:OS);exact Kh (I.bk _ _ u) hB m G (F.hasType ⇑6) Pp Z
def I_{body:aQ}{tb:TS}{w:Str}{h0:eO}{hs:List eO}(Uz:X.stack=X.env::X.outer)(RL:X.env.frame=↥X.env.locals)(Hs:y7 X C n y z w (h0::hs))
  (nd:X.N.Nodup) (p:X.N[i]?=↥n) (V:X.N[j]?=↥y) (U:X.N[l]?=↥z) (hyn:y≠n) (ZK:z≠n) (hyz:y≠z) (S:X.env.scope.names.lookup n=↥.local) (O:X.env.scope.names.lookup y=↥.local) (M:X.env.scope.names.lookup z=↥.local) (dn:(n==⇑9)=false) (dc:(n==("__classdict__" : Str))=false)
  (hb:∀pn HV,Passes (uL X.prog X.w C) (Cx.nK X pn HV) E1->gS (Cx.nK X pn HV) body tb) :
  PS X (.Try body (h0::hs) [] [] pos)
   (λD σ H=>tb D σ H/\∀ea H' c,E1 (.ref C) none H'->H' ea=none->c[j]?=↥↥(.str w)->c[l]?=↥↥(.ref ea)->D.nx c (upd H' ea (.ext (A1 ea C)))):=by
 intro pins s σ H D I hw;ext(⟨hbd,hh⟩:hw);have ok:=I.ok;have lU:∀{a b:Nat} {u v:Str},X.N[a]?=↥u->X.N[b]?=↥v->u≠v->a≠b:=λ{a b u v} h1 h2 h3 h4=>by
  subst h4;rw[h1]at h2;cases h2;exact h3 rfl
 refine wpAny_Try_except ?_;refine aaX (hb pins _ ?_ [] s σ H D (JQ I (λe k=>⇑0 (noteFrame e X.env) (λ_ J=>⇑0 (setFlight e none) (λ_ G=>⇑0 (handleBy e X.env (h0::hs)) (SP X pins D) X.xe G) X.xe J) X.xe k)) hbd) (λf k q=>?_) (λ_ _ q=>q)
 ·intro Ee d H1 s1 e L g hx;ext(⟨ea,H',rfl,fl,he⟩:hx)(⟨n1,n2⟩:fl.new)(⟨⟨t,B,fw,HG⟩,os,bare,un,cI⟩:fl);have g:Inv X pins d H1 s1:=iu g;have fw:yz B (X.env::X.outer) ea (.ref C) (.ref t) L.heap:=Uz▸fw;have aaY:X.A.frames=↥(X.env::X.outer):=Uz▸g.ok.frames;show ⇑0 (noteFrame (.ref ea) X.env) _ X.xe L;refine wpAny_looks_onW aaY RL fw λh4 held sl4=>?_;refine wpAny_landsW held λh5 m sl5=>?_;ext(⟨F,UH,abn⟩:moved un cI HG g.stack g.lJ m.1 (sl4.trans sl5));have I5:Inv X pins d H' { L with heap:=h5 }:=g.AS (ch:=[]) os F UH bare λ_ z=>nomatch z;refine B9 I5 m.there Hs λp1 jj p2 p3 q1 q2 q3 Z0=>codeAny_handlers_suite_as ?_;refine lands_againW m λh6 Q sl6=>?_;ext(⟨Z,Z2,ag0⟩:moved F UH abn g.stack g.lJ Q.1 sl6)(⟨Y,Z1⟩:tracked (C:=C) Z Z2 n1 n2 Q.there);have W:Inv X pins d (upd H' ea (.ext (A1 ea C))) { L with heap:=h6 }:=g.AS (s':={ L with heap:=h6 }) (ch:=[]) os Y Z1 bare λ_ z=>nomatch z;have eI:i<d.length:=[W.len]\(bi.mp p).1
  have yq:j<d.length:=[W.len]\(bi.mp V).1
  have jq:l<d.length:=[W.len]\(bi.mp U).1
  ext(ij:lU p V (acW hyn))(il:lU p U (acW ZK))(jl:lU V U hyz);refine iq W nd p (.inl S) (v:=.ref ea) (u:=.ref ea) rfl (λs8 I8=>?_) (.inr S)
  let R:Cx:={ X with A:=X.A.mark ↥(.ref ea),calm:=false,xe:=AsSuiteRaised (model X.prog X.w) (X.A.mark ↥(.ref ea)) X.env n Z0 (notedBy (model X.prog X.w) (X.A.mark ↥(.ref ea)) X.env (cameBackBy (model X.prog X.w) X.A X.env X.xe)) }
  have ps:gS R [.Assign [.Name y p1] (.Constant (.str w) jj p2) p3,.Assign [.Name z q1] (.Name n q2) q3] _:=cG (kM (X:=R) (i:=j) nd V (.inl O) (o_ (X:=R) (x:=w) (j:=jj) (pos:=p2)) rfl (hf:=.inr O)) (gA (kM (X:=R) (i:=l) nd U (.inl M) (Jg (X:=R) (i:=i) (pos:=q2) p (.inl S) dn dc) rfl (hf:=.inr M)));refine aaX (ps pins s8 _ _ { nx:=λc kF=>kF=upd H' ea (.ext (A1 ea C))/\c[j]?=↥↥(.str w)/\c[l]?=↥↥(.ref ea),rt:=λ_ _=>False } (Fx I8 _ _) ?_) (λf s9 T=>?_) (λ_ _ q=>q)
  ·refine⟨.ref ea,?_,rfl,?_,?_⟩
   ·rw[cb (ip ij),eo eI]
   ·rw[cb (ip jl),eo ⇑yq]
   ·rw[eo ⇑jq]
  ·cases f with
   |next =>
    ext(⟨σ9,H9,I9,rfl,e9,e10⟩:T)(I9:yj ok I9);exact yc I9 S nd p λs10 I10=>⟨_,_,I10,hh ea H' _ he n1 ([cb ij]\e9) ([cb il]\e10)⟩
   |ret v=>ext(⟨_,_,_,_,_,z⟩:T);exact z.elim
   |brk=>ext(⟨_,_,_,z⟩:T);exact z.elim
   |cont=>ext(⟨_,_,_,z⟩:T);exact z.elim
 ·cases f with
  |next=>ext(⟨c,H',o,q⟩:q);exact ac8 ⟨c,H',iu o,q⟩
  |ret v=>ext(⟨v,c,H',o,r,q⟩:q);exact⟨v,c,H',iu o,r,q⟩
  |brk=>ext(⟨c,H',o,q⟩:q);exact⟨c,H',iu o,q⟩
  |cont=>ext(⟨c,H',o,q⟩:q);exact⟨c,H',iu o,q⟩
end
variable {N ps:aq}{st:Stmt}
def abl{CX:CH}{x:Str}{b:hA}{k:Nat}{sp:Sp}(F:CF K x qual st f b)(S:e_ N ps (aE st))(len:∀vs H Q E,sp vs H Q E->vs.length=ps.length)
  (d:∀(a:Value) (A:aF) (outer:List Env) (s:am) (H:Hp) (vs:ah) (Q:VK) (E:XK),gw k (A.deeper (FP qual (aE st) s.heap.objs.size f a))->sp vs H Q E ->
   ∃t,gS (jr CX P w K mg base N qual (aE st) f a A outer s H E) (bC st) t/\t { nx:=λ_ H'=>Q .bX H',rt:=Q } (L2.start N vs) H):fQ P w K mg base CX (k+1) f b ps sp:=by
 ext(⟨n,m,o,j,l,q,a,p,r,rfl,g,c⟩:F.ex);exact MB g c S len λA outer s H vs Q E i e=>d a A outer s H vs Q E i e
def YH(K:av)(C:Addr)(n:Nat)(b:aa->Prop):Sp:=λa H _ E=>∃(F:af) (ds:aa),a.length=n/\aH (a_ K H) (nd K F ⇑7 ⇑8 H) [] 0 a ds/\b ds/\∀H',aL H H'->E (.ref C) none H'
variable {F R1:Addr->Prop}
def vn{vs:ah}{ds:aa}{H:Hp}(l:X.H₀=H)(n:ds.length<=N.length)(rs:aH (a_ X.K H) (nd X.K F ⇑7 ⇑8 H) [] 0 vs ds):
  SI X F (λp=>F p/\H p≠none) ⇑8 (ds.map some++ap (N.length - ds.length) none) (L2.start N vs) H:=by
 have g:vs.length=ds.length:=rs.length;refine⟨?_,λi d a=>?_,λ_ _=>rfl,λp h=>h.2,λp h=>.inl h.1,λ_ _ h=>by simp at h,λ_ _ h=>by simp at h,l▸aL.refl H⟩
 ·unfold L2.start;simp[g]
 ·have e:i<ds.length:=by
   by_cases b:i<ds.length
   ·exact b
   ·rw[d6 ⇑b,hY]at a;split at a<;>simp at a
  rw[d7 ⇑e,bv]at a;have hd:ds[i]?=↥d:=by
   cases q:ds[i]? with
   |none=>rw[q]at a;exact nk a
   |some z=>rw[q]at a;simp at a;rw[a]
  ext(⟨v,k,j⟩:rs.get hd);refine⟨v,?_,j.imp (q:=[0+i]) (q':=[i]) ⇑10 λc p m f h=>?_⟩
  ·unfold L2.start;rw[d7 ([zaa,g]\e),bv,k];rfl
  ·cases f with
   |ow=>exact nomatch h.2
   |fz=>exact⟨h.1,h.2,h.1.ne⟩
   |al=>exact h.2.elim
   |sc=>exact h
def mC(X:Cx)(F:af)(a:aV->Prop):TS:=λ_ σ H=>∃R c b,SI X F R c b σ H/\a b
theorem PS.ya{X:Cx}{st:Stmt}{t:TS}(h:PS X.ya st t):PS X st t:=λpins s σ H D I hw =>
 aaX (h pins s σ H D (I.oS _) hw) (λ_ _ q=>q.iK) λ_ _ q=>q.elim
theorem SI.ya{X:Cx}{F R:af}{a:Addr->Option bw}{ρ:aV}{σ:St}{H:Hp}(S:SI X F R a ρ σ H):SI X.ya F R a ρ σ H:=⟨S.len,S.rep,S.rt,S.rh,S.rf,S.th,S.t0,S.same⟩
variable {ρ:aV}
def SI.Sk{R:Addr->Prop}{a:Addr->Option bw}{H:Hp}(S:SI X.ya F R a ρ σ H):SI X F R a ρ σ H:=⟨S.len,S.rep,S.rt,S.rh,S.rf,S.th,S.t0,S.same⟩
def Bh(X:Cx)(F:af)(a:aV->Prop):TE:=λσ H _=>∃R b ρ,SI X F R b ρ σ H/\a ρ
section
variable {X:Cx}{S:Sx}{k:Nat}{Φ:aY}{F:af}{bad:aV->Prop}{C:Addr}
def Kk{l:Addr}{i:hA}{j:aq}{d:aa->Prop}{m:aA}{g:Str}{e:Expr}{es:aj}(L:Lk X S k Φ)(y:Passes (uL X.prog X.w C) X (λc _ H'=>c=.ref C/\aL X.H₀ H'))
  (O:fQ X.prog X.w X.K X.mg X.base (uL X.prog X.w C) k l i j (YH X.K C j.length d)) (h2:fI S.sc g=true) (G:X.mg g=↥(.ref l)) (D:hO X.K (.ref l)=true) (I:Binds X.K i j []) (hd:(g==⇑9)=false)
  (h3:bW S m (e::es)=true) (x:∀r,cj (e::r) X.env=(false,eval e X.env)::cj r X.env) (hpl:(nU cpos (cj es X.env)).any (·.1)=false) :
  PE X (.Call (.Name g np) (e::es) [] cpos) (Bh X F λρ=>∃a,b6 Φ m ρ=ok a/\d (ao aK a)/\a.length=j.length):=by
 refine PE.imp (tE (X:=X) (p:=np) (pos:=cpos) O L.room (L.gl h2) G D I .nil y (n_ (F:=F) L m (e::es) h3) hd (x _) hpl) λσ H Q z=>?_;ext(⟨R,t,ρ,q,a,M,o,n⟩:z);refine⟨R,t,ρ,a,q,M,λu Y e2 v=>?_⟩;ext(⟨s,V,b⟩:v);rw[zaw];refine⟨λ_=>True,ao aK a,by rw[b.length,n],aH.jA ⇑10 (λk U p T f h=>?_) b _ _,o,λH' J=>⟨rfl,(q.same.trans e2).trans J⟩⟩;cases f with
 |ow=>exact⟨h.1,trivial⟩
 |fz=>exact⟨h.1,trivial⟩
 |al=>exact⟨h.1,trivial⟩
 |sc=>exact h
def Qy{e:Expr}(h:PE X e (Bh X F bad)):PS X (.Return ↥e pos) (mC X F bad):=PS.imp (mL h) λ_ _ _ q=>q
def ME{e:Expr}(h:PE X e (Bh X F bad))(hs:mR e none pos.line X.env=pure false):PS X (.Expr e pos) (mC X F bad):=PS.imp (lN h hs) λ_ _ _ q=>q
def Qx{i:Nat}{x:Str}{e:Expr}{p:Pos}(c:X.N.Nodup)(b:X.N[i]?=↥x)(a:L2.Loc X.env.scope x)(hf:X.fn x=true)(h:PE X e (Bh X F bad))(hs:mR e ↥(.Name x p) pos.line X.env=pure false):PS X (.Assign [.Name x p] e pos) (mC X F bad) :=
 PS.imp (kM c b a h hs (.inl hf)) λ_ _ _ q=>q
end
meta def yF(x:Str):Bool:=!(x==⇑9)&&!(x==("__classdict__" : Str))
theorem SI.nK{X:Cx}{F R:af}{a:Addr->Option bw}{ρ:aV}{σ:St}{H:Hp}{pn:au}{E:aB}(S:SI X F R a ρ σ H):SI (Cx.nK X pn E) F R a ρ σ H:=⟨S.len,S.rep,S.rt,S.rh,S.rf,S.th,S.t0,S.same⟩
theorem Ed{S:Sx}{env:Env}{pos:Pos}:∀{es:aj} {cs:aA},bW S cs es=true->(nU pos (cj es env)).any (·.1)=false
 |[],_,_=>rfl
 |e::es,[],h=>by exact(aad h).elim
 |e::es,c::cs,h=>by
  replace h:=aC h;rw[bG h.1 es env];show(false||(nU pos (cj es env)).any (·.1))=false;rw[Ed h.2];rfl
meta def TJ:CI->Bool
 |.seq _=>true
 |_=>false
mutual
inductive oP(Φ:aY)(Ψ:Nat->aa->Prop)(n:Nat):CS->aV->Prop
 |ex {g:Nat} {es:aA} {ρ:aV} {xs:aa} (h1:b6 Φ es ρ=ok xs) (h2:Ψ g (ao aK xs)):oP Φ Ψ n (.ex (.call g es)) ρ
 |asg {i g:Nat} {es:aA} {ρ:aV} {xs:aa} (h1:b6 Φ es ρ=ok xs) (h2:Ψ g (ao aK xs)):oP Φ Ψ n (.asg (.nm i) (.call g es)) ρ
 |ret {g:Nat} {es:aA} {ρ:aV} {xs:aa} (h1:b6 Φ es ρ=ok xs) (h2:Ψ g (ao aK xs)):oP Φ Ψ n (.ret (.call g es)) ρ
 |rs {ρ:aV}:oP Φ Ψ n (.rs n) ρ
 |Mj {c:CE} {a b:ai} {ρ:aV} (h1:wB Φ c ρ=ok true) (h2:Er Φ Ψ n a ρ):oP Φ Ψ n (.ifs c a b) ρ
 |iff {c:CE} {a b:ai} {ρ:aV} (h1:wB Φ c ρ=ok false) (h2:Er Φ Ψ n b ρ):oP Φ Ψ n (.ifs c a b) ρ
 |fr {t:Tg} {a:CI} {b:ai} {ρ ρ1:aV} {items:aa} (h1:cD Φ a ρ=ok (items,ρ1)) (h2:HJ Φ Ψ n t b items ρ1) (h3:TJ a=true):oP Φ Ψ n (.fr t a b) ρ
inductive Er(Φ:aY)(Ψ:Nat->aa->Prop)(n:Nat):ai->aV->Prop
 |hd {c:CS} {cs:ai} {ρ:aV} (h:oP Φ Ψ n c ρ):Er Φ Ψ n (c::cs) ρ
 |tl {c:CS} {cs:ai} {ρ ρ':aV} (h1:ic Φ c ρ=ok (.nx,ρ')) (h2:Er Φ Ψ n cs ρ'):Er Φ Ψ n (c::cs) ρ
inductive HJ(Φ:aY)(Ψ:Nat->aa->Prop)(n:Nat):Tg->ai->aa->aV->Prop
 |hd {t:Tg} {b:ai} {d:D} {ds:aa} {ρ ρ1:aV} (h1:cn t d ρ=ok ρ1) (h2:Er Φ Ψ n b ρ1):HJ Φ Ψ n t b (d::ds) ρ
 |tl {t:Tg} {b:ai} {d:D} {ds:aa} {ρ ρ1 ρ2:aV} (h1:cn t d ρ=ok ρ1) (h2:bF Φ b ρ1=ok (.nx,ρ2)) (h3:HJ Φ Ψ n t b ds ρ2):HJ Φ Ψ n t b (d::ds) ρ
end
meta def vRs:Stmt->Option Expr
 |.Raise e c _=>match c with
  |none=>e
  |some _=>none
 |_=>none
protected def Nc{s:Stmt}{e:Expr}(h:vRs s=↥e):∃p,s=.Raise ↥e none p:=by
 cases s<;>first|exact nk h | (cases h;done)|skip
 rename_i a c p;cases c with
 |some _=>cases h
 |none=>cases h;exact⟨p,rfl⟩
meta def Uq:Expr->Bool
 |.Constant c _ _=>match c with|.str _=>true|_=>false
 |_=>false
protected def JO{e:Expr}(h:Uq e=true):∃m j p,e=.Constant (.str m) j p:=by
 cases e<;>first|exact(aad h).elim|skip
 rename_i c _ _;cases c<;>first|exact(aad h).elim|exact⟨_,_,_,rfl⟩
def rsB(y:Str)(st:Stmt):Bool:=bA (vRs st) λe=>bA (eC e) λz=>(z.1==y)&&bA (one z.2) Uq
mutual
meta def xk(gl:Bool)(n:Nat)(y:Str):CS->Stmt->Bool
 |.rs m,st=>!(m==n)||(gl&&rsB y st)
 |.ifs _ a b,st=>bA (Nh st) λz=>uS gl n y a z.2.1&&uS gl n y b z.2.2
 |.fr _ _ b,st=>bA (Nj st) λz=>uS gl n y b z.2.2.1
 |_,_=>true
meta def uS(gl:Bool)(n:Nat)(y:Str):ai->aQ->Bool
 |c::cs,st::nL=>xk gl n y c st&&uS gl n y cs nL
 |_,_=>true
end
structure jR(P:aG)(w:World)(K:av)(mg:aU)(base:Heap)(k:Nat)(C:Addr)(y:Str)(mr:aa->Prop):Prop where
 ex:∃(f:Addr) (fd:hA) (ps:aq),fQ P w K mg base (uL P w C) k f fd ps (YH K C ps.length mr)/\mg y=↥(.ref f)/\hO K (.ref f)=true/\Binds K fd ps []/\∀ds,mr ds->ds.length=ps.length
structure Ri(X:Cx)(S:Sx)(k:Nat)(Φ:aY)(Ψ:Nat->aa->Prop)(C:Addr)(y:Str)(gl:Bool):Prop where
 ls:nh X S k Φ
 hR:∀pins σ H1 s1 h' ea vs,Inv X pins σ H1 s1->aL X.H₀ H1->F0 s1.heap h' ea (.ref C) vs->X.xe (.ref ea) { s1 with heap:=h' }
 hx:Passes (uL X.prog X.w C) X (λc _ H'=>c=.ref C/\aL X.H₀ H')
 fe:∀g x,S.fn g=↥x->(∃ds,Ψ g ds)->jR X.prog X.w X.K X.mg X.base k C x (Ψ g)
 gy:gl=true->Gl X y/\(y==⇑9)=false
 own:qp y C X.mg X.base
variable {es:aA}{xs:aa}
section
variable {X:Cx}{S:Sx}{k n:Nat}{Φ:aY}{Ψ:Nat->aa->Prop}{F:af}{C:Addr}{y:Str}{gl:Bool}
def wC(L:Lk X S k Φ)(t:Passes (uL X.prog X.w C) X (λc _ H'=>c=.ref C/\aL X.H₀ H'))(O:∀g x,S.fn g=↥x->(∃i,Ψ g i)->jR X.prog X.w X.K X.mg X.base k C x (Ψ g)){g:Nat}{e:Expr}(h:cc S (.call g es) e=true):PE X e (Bh X F λρ=>∃xs,b6 Φ es ρ=ok xs/\Ψ g (ao aK xs)):=by
 ext(⟨⟨x,as⟩,u,q1⟩:bu h)(⟨p,pos,rfl⟩:b9 u)(⟨q2,q⟩:aC q1)(⟨o,h3⟩:aC q2)(⟨M,h2⟩:aC o)(⟨⟨a,l⟩,v,b⟩:bu q);obtain rfl:as=a::l:=xI v;by_cases j:∃i,Ψ g i
 case neg=>exact λ_ _ _ _ _ _ ⟨_,_,_,_,xs,_,e2⟩=>absurd ⟨_,e2⟩ j
 ext(⟨f,V,ps,Fo,D,I,J,G⟩:(O g x (aac M) j).ex);unfold nS at h3;simp only[zag,zbb]at h3;have s:∀r,cj (a::r) X.env=(false,eval a X.env)::cj r X.env:=λr=>by
  cases es with
  |nil=>exact(aad b).elim
  |cons c T=>exact bG (aC b).1 r _
 have d:(nU pos (cj l X.env)).any (·.1)=false:=by
  cases es with
  |nil=>exact(aad b).elim
  |cons c T=>exact Ed (aC b).2
 refine PE.imp (Kk (F:=F) (C:=C) (np:=p) (cpos:=pos) L t Fo h2 D I J h3.1.1 b s d) λσ H Q z=>?_;ext(⟨R,m,ρ,U,xs,e1,e2⟩:z);exact⟨R,m,ρ,U,xs,e1,e2,by have:=G _ e2;rw[aN,zaa]at this;exact this⟩
def uh(L:Ri X S k Φ Ψ C y gl){g:Nat}{e:Expr}(h:cc S (.call g es) e=true):PE X e (Bh X F λρ=>∃xs,b6 Φ es ρ=ok xs/\Ψ g (ao aK xs)):=wC L.ls.toLk L.hx L.fe h
def CG(X:Cx)(F:af)(Φ:aY)(Ψ:Nat->aa->Prop)(n:Nat)(t:Tg)(b:ai)(R1:af)(H1:Hp)(items:aa)(i:Nat)(σ:St)(H:Hp):Prop:=∃d c a,SI X F d c a σ H/\Kp R1 H1 d H/\HJ Φ Ψ n t b (items.drop i) a
def tEr(X:Cx)(F:af)(Φ:aY)(Ψ:Nat->aa->Prop)(n:Nat)(b:ai):TS:=λD σ H=>lI X F Φ b D σ H\/mC X F (Er Φ Ψ n b) D σ H
def Ax{g:TG}{t:Tg}{b:ai}{D:L2.Ends}{items:List DI.D}{xs:ah}{q:bw}
  (u:∀(v:V) (σ:St) (H:Hp) (Q:St->Hp->Prop) (R:af) (s:Addr->Option bw) (ρ ρ':aV) (d:DI.D),SI X F R s ρ σ H->jt X R s H v d->cn t d ρ=ok ρ'->(∀c a,SI X F R a ρ' c H->Q c H)->g v σ H Q)
  (rs:aH (a_ X.K H1) (nd X.K R1 ⇑7 ⇑8 H1) q 0 xs items) (i:Nat) (x:V) (σ:St) (H:Hp) (O:xs[i]?=↥x) (h:CG X F Φ Ψ n t b R1 H1 items i σ H) :
  g x σ H λm W=>tEr X F Φ Ψ n b { D with nx:=CG X F Φ Ψ n t b R1 H1 items (i+1),ct:=CG X F Φ Ψ n t b R1 H1 items (i+1),bk:=D.nx } m W:=by
 ext(⟨j,a,ρ',I,p,G⟩:h)(⟨d,hd,z⟩:rs.F3 O);have e:i<items.length:=by
  by_cases e:i<items.length
  ·exact e
  ·rw[dV ⋯]at hd;cases hd
 have L:items.drop i=d::items.drop (i+1):=by
  rw[zax e];rw[ce e]at hd;cases hd;rfl
 rw[L]at G;cases G with
 |hd e1 e2=>exact u x σ H _ j a ρ' _ d I (j5 (Rep.mP (p.rep z))) e1 λc o r=>.inr ⟨j,o,_,r,e2⟩
 |tl e1 e2 e3=>exact u x σ H _ j a ρ' _ d I (j5 (Rep.mP (p.rep z))) e1 λc o r=>.inl ⟨j,o,_,(.nx,_),r,e2,λJ Y T l U M=>⟨T,l,_,U,p.trans M,e3⟩⟩
def Gh{t:Tg}{b:ai}{items:List DI.D}{m:Nat}{P:Prop}(hn:m=items.length)(σ:St)(H:Hp)(h:CG X F Φ Ψ n t b R1 H1 items m σ H):P:=by
 ext(⟨_,_,_,_,_,a⟩:h);subst hn;rw[XV]at a;cases a
protected def Qv(L:nh X S k Φ){t:Tg}{a:CE}{b:ai}{V iter:Expr}{x:aQ}(ht:qS S t V=true)(r:QW S (.seq a) iter=true)(hb:gS X x (tEr X F Φ Ψ n b)):PS X (.For V iter x [] pos) (mC X F (oP Φ Ψ n (.fr t (.seq a) b))):=by
 ext(⟨g,hg,W⟩:zl (F:=F) L ht);have Z:∀y,nv iter X.env y=pure y:=by
  intro y;cases iter<;>first|rfl|exact(aad r).elim|exact(aad (aC r).2).elim
 intro pins s σ H D I RF;ext(⟨R,τ,ρ,u,Q⟩:RF);cases Q with
 |fr j ef _ =>
  replace r:=aC r;ext(⟨d,ed,j⟩:aI j)(Y:(fy (F:=F) L.toLk a iter r.1).1);cases d<;>try (simp at j;done)
  ·rename_i U;simp at j;ext(⟨rfl,rfl⟩:j);refine kN L.px L.calm (x5 Y) hg hb Z pins s σ H D I (tD.intro u ed λv H1 e1 J=>?_);ext(⟨l,e,hR,T,o⟩:ox u e1 J);rw[aJ]at o;cases o with
   | @tup _ p xs _ q m =>
    refine⟨p,rfl,⟨xs,q⟩,oy (xs:=xs) (CG X F Φ Ψ n t b l H1 (ao aK U)) ⟨l,e,_,T,Kp.refl l H1,[zaV]\ef⟩ (λi c H' _ h=>?_) (λi x c H' O h=>Ax W m i x c H' O h) (λc H' h=>Gh (m.length) c H' h)⟩;ext(⟨R2,z,G,_,M,_⟩:h);exact M.SQ q
  ·rename_i f U;simp at j;ext(⟨rfl,rfl⟩:j);refine kN L.px L.calm (tu Y) hg hb Z pins s σ H D I (tD.intro u ed λv H1 e1 J=>?_);ext(⟨l,e,hR,T,o⟩:ox u e1 J);rw[aJ]at o;cases o with
   | @lst _ p xs _ _ q m =>
    refine⟨p,rfl,⟨xs,q.sq⟩,oy (xs:=xs) (CG X F Φ Ψ n t b l H1 (ao aK U)) ⟨l,e,_,T,Kp.refl l H1,[zaV]\ef⟩ (λi c H' _ h=>?_) (λi x c H' O h=>Ax W m i x c H' O h) (λc H' h=>Gh (m.length) c H' h)⟩;ext(⟨R2,z,G,_,M,_⟩:h);exact(M.nd q).sq
def gg{c:CS}(h:∀ρ,oP Φ Ψ n c ρ->False):PS X st (mC X F (oP Φ Ψ n c)):=λ_ _ _ _ _ _ a=>by
 ext(⟨_,_,ρ,_,b⟩:a);exact(h ρ b).elim
def Gi{c:CS}(h:∀ρ,oP Φ Ψ n c ρ->PS X st (λ_ σ H=>∃R a,SI X F R a ρ σ H)):PS X st (mC X F (oP Φ Ψ n c)):=λpins s σ H D I b=>by
 ext(⟨R,a,ρ,e,d⟩:b);exact h ρ d pins s σ H D I ⟨R,a,e⟩
def Qz(L:Ri X S k Φ Ψ C y gl){g:Nat}(h:qj S (.ex (.call g es)) st=true)(a:b6 Φ es ρ=ok xs)(b:Ψ g (ao aK xs)):PS X st (λ_ σ H=>∃R c,SI X F R c ρ σ H):=by
 ext(⟨v,e,q1⟩:bu h)(⟨pos,rfl⟩:oV e)(⟨d,h2⟩:aC q1);exact PS.imp (ME (uh (F:=F) L d) (iD d (dS h2) _ _ _)) λD σ H i=>by ext(⟨R,c,j⟩:i);exact⟨R,c,ρ,j,_,a,b⟩
def Kj(L:Ri X S k Φ Ψ C y gl){g:Nat}(h:qj S (.ret (.call g es)) st=true)(a:b6 Φ es ρ=ok xs)(b:Ψ g (ao aK xs)):PS X st (λ_ σ H=>∃R c,SI X F R c ρ σ H):=by
 ext(⟨z,e,q1⟩:bu h)(⟨pos,rfl⟩:y_ e)(⟨v,d,q2⟩:bu q1);obtain rfl:z=↥v:=d;exact PS.imp (Qy (uh (F:=F) L q2)) λD σ H i=>by ext(⟨R,c,j⟩:i);exact⟨R,c,ρ,j,_,a,b⟩
def Kl(L:Ri X S k Φ Ψ C y gl){i g:Nat}(h:qj S (.asg (.nm i) (.call g es)) st=true)(a:b6 Φ es ρ=ok xs)(b:Ψ g (ao aK xs)):PS X st (λ_ σ H=>∃R c,SI X F R c ρ σ H):=by
 ext(⟨⟨z,v⟩,m,q1⟩:bu h)(⟨pos,rfl⟩:jV m)(⟨e,l,q2⟩:bu q1);obtain rfl:z=[e]:=bM l;ext(⟨q,G⟩:aC q2)(⟨o,h3⟩:aC q)(⟨d,h2⟩:aC o);obtain⟨x,p,rfl⟩:∃x p,e=.Name x p:=uo h2;ext(j:aC (show _=true from h2));have t:iT v=false:=by
  ext(⟨⟨x,as⟩,r,_⟩:bu d)(⟨p,pos,rfl⟩:b9 r);rfl
 exact PS.imp (Qx L.ls.nd ([L.ls.N]\aac j.1) (L.ls.loc j.2) (L.ls.oB _) (uh (F:=F) L d) (iD d t _ _ _)) λD σ H s=>by ext(⟨R,c,u⟩:s);exact⟨R,c,ρ,u,_,a,b⟩
mutual
theorem erS(L:Ri X S k Φ Ψ C y gl):∀(c:CS) (st:Stmt),qj S c st=true->xk gl n y c st=true->PS X st (mC X F (oP Φ Ψ n c))
 |.ex e,st,h,_=>Gi λρ d=>by cases d with|ex a b=>exact Qz L h a b
 |.ret e,st,h,_=>Gi λρ d=>by cases d with|ret a b=>exact Kj L h a b
 |.asg t e,st,h,_=>Gi λρ d=>by cases d with|asg a b=>exact Kl L h a b
 |.rs m,st,h,g=>by
  by_cases Q:m=n
  ·subst Q;have g:(!(m==m)||(gl&&rsB y st))=true:=g;rw[zbd,Bool.not_true,yaF]at g;ext(⟨hg,g⟩:aC g)(⟨gy,dy⟩:L.gy hg)(⟨e,r,q1⟩:bu g)(⟨pos,rfl⟩:Nc r)(⟨⟨x,as⟩,W,q2⟩:bu q1)(⟨p,pos',rfl⟩:b9 W)(⟨J,G⟩:aC q2)(⟨c,V,Z⟩:bu G);obtain rfl:as=[c]:=bM V;ext(⟨m',j,p',rfl⟩:JO Z);obtain rfl:x=y:=eq_of_beq J;exact PS.imp (D5 L.ls.calm L.own gy dy) λD σ H q=>by
    ext(⟨R,o,ρ,l,d⟩:q);exact λpins s h' ea Y I FG=>L.hR pins _ H s h' ea Y I l.same FG
  ·exact gg λ_ d=>by cases d;exact absurd rfl Q
 |.ifs c a b,st,h,g=>by
  ext(⟨⟨t,x,z⟩,r,q1⟩:bu h)(⟨pos,rfl⟩:sH r)(⟨q2,h3⟩:aC q1)(⟨u,h2⟩:aC q2)(⟨O,M⟩:aC (show(uS gl n y a x&&uS gl n y b z)=true from g));refine PS.imp (vI (pos:=pos) (fy (F:=F) L.ls.toLk c t u).2 (Gj L a x h2 O) (Gj L b z h3 M)) λD σ H q=>?_;ext(⟨R,o,ρ,l,d⟩:q);cases d with
  |Mj e1 e2=>exact⟨R,o,ρ,true,l,e1,λH2 es=>Uj ⟨R,o,ρ,l.go es,e2⟩⟩
  |iff e1 e2=>exact⟨R,o,ρ,false,l,e1,λH2 es=>JM ⟨R,o,ρ,l.go es,e2⟩⟩
 |.par _ _ _ _,st,h,_=>gg λ_ d=>by cases d
 |.mut _ _ _,st,h,_=>gg λ_ d=>by cases d
 |.mu2 _ _ _ _,st,h,_=>gg λ_ d=>by cases d
 |.unp _ _,st,h,_=>gg λ_ d=>by cases d
 |.app _ _,st,h,_=>gg λ_ d=>by cases d
 |.aug _ _ _,st,h,_=>gg λ_ d=>by cases d
 |.Lm _ _,st,h,_=>gg λ_ d=>by cases d
 |.fr t it b,st,h,g=>by
  ext(⟨⟨tg,iter,x,z⟩,r,q1⟩:bu h)(⟨pos,rfl⟩:ze r)(⟨q2,T⟩:aC q1)(⟨J,h4⟩:aC q2)(⟨G,h3⟩:aC J)(⟨u,h2⟩:aC G);obtain rfl:z=[]:=jE u;have g:uS gl n y b x=true:=g;cases it with
  |seq a =>
   ext(p1:iM (F:=F) L.ls b x T)(p2:Gj L b x T g);exact Qv L.ls h2 h3 λpins s σ H D I q=>q.elim (p1 pins s σ H D I) (p2 pins s σ H D I)
  |L0 p cs=>exact gg λ_ d=>by cases d with|fr _ _ h=>cases h
  |nu a=>exact gg λ_ d=>by cases d with|fr _ _ h=>cases h
  |mI a c=>exact gg λ_ d=>by cases d with|fr _ _ h=>cases h
theorem Gj(L:Ri X S k Φ Ψ C y gl):∀(cs:ai) (i:aQ),jn S cs i=true->uS gl n y cs i=true->gS X i (mC X F (Er Φ Ψ n cs))
 |[],_,_,_=>λ_ _ _ _ _ _ b_=>by ext(⟨_,_,_,_,d⟩:b_);cases d
 |_::_,[],h,_=>by exact(aad h).elim
 |c::cs,st::i,h,g=>by
  replace h:=aC h;ext(⟨O,M⟩:aC (show(xk gl n y c st&&uS gl n y cs i)=true from g));have hN:gS X i Ny:=λ_ _ _ _ _ _ z=>z.elim;have u:PS X st (mh X F Φ c):=xU (F:=F) L.ls c st h.1;have A:gS X (st::i) _:=cG (erS L c st h.1 O) hN;have B:gS X (st::i) _:=cG u (Gj L cs i h.2 M);intro pins s σ H D I q;ext(⟨R,o,ρ,l,d⟩:q);cases d with
  |hd e=>exact A pins s σ H D I ⟨R,o,ρ,l,e⟩
  |tl e1 e2=>exact B pins s σ H D I ⟨R,o,ρ,(.nx,_),l,e1,λU H' R' v eB kp=>⟨R',v,_,eB,e2⟩⟩
end
end
def Qw{x:Str}{p:hA}{k n:Nat}{bl:aq}{cs:List (Str×GK)}{px:Px}{c:Nat->Option Str}{Ψ:Nat->aa->Prop}{m:aa->Prop}{b:ai}{y:Str}
  (W:CF K x qual st f p) (d:e_ N ps (aE st)) (Y:jn ⟨aE st,N,c,bl,cs,px⟩ b (bC st)=true) (S:uS (fI (aE st) y&&!(y==⇑9)) n y b (bC st)=true) (FF:nZ px Φ) (U:Hq px Φ)
  (t:∀y∈bl,mg y=none) (G:∀y i,(y,i)∈cs->∃u,mg y=↥u/\xp K i u) (D:∀g y,c g=↥y->Ent P w K mg base k y (Φ g)) (j:∀g y,c g=↥y->(∃a,Ψ g a)->jR P w K mg base k C y (Ψ g))
  (O:qp y C mg base) (M:∀a,m a->a.length=ps.length/\Er Φ Ψ n b (a.map some++ap (N.length - a.length) none)):fQ P w K mg base (uL P w C) (k+1) f p ps (YH K C ps.length m):=by
 refine abl (N:=N) W d (λl H Q E ⟨_,_,h,_⟩=>h) λR A outer s H l Q E J r=>?_;ext(⟨F,a,hl,v,e,o⟩:r)(⟨UZ,T⟩:M a e)
 let X:=jr (uL P w C) P w K mg base N qual (aE st) f R A outer s H E
 have q:nh X ⟨aE st,N,c,bl,cs,px⟩ k Φ:=⟨⟨rfl,rfl,d.nd,rfl,J,t,λg y h=>⟨(D g y h).ex⟩,G,FF⟩,λ_=>rfl,PassesOwn.leaving,d.kind,U⟩
 have L:ps.length<=N.length:=by have:=aa5 l7 d.pre;rw[zar]at this;left
 have V:Ri X ⟨aE st,N,c,bl,cs,px⟩ k Φ Ψ C y (fI (aE st) y&&!(y==⇑9)):=⟨q,λpins σ H1 s1 h' ea l I es Z=>IZ I Z (o H1 es),Tw λH' h=>o H' h.2,j,λz=>⟨q.gl (aC z).1,⇑(aC z).2⟩,O⟩
 exact⟨_,Gj (F:=F) V b _ Y S,_,_,_,vn (X:=X) rfl ⋯ v,T⟩
section
variable {X:Cx}{S:Sx}{k n:Nat}{Φ:aY}{Ψ:Nat->aa->Prop}{F:af}{C B:Addr}
meta def O0:CE->Bool
 |.call _ _=>true
 |_=>false
def OZ:CS->Bool
 |.ex e=>O0 e
 |_=>false
def Im:CS->Bool
 |.ex e=>O0 e
 |.ifs _ a b=>bA (one a) λx=>bA (one b) λy=>OZ x&&OZ y
 |_=>false
def Ab{e:CE}(h:O0 e=true):∃g es,e=.call g es:=by
 cases e<;>first|exact(aad h).elim|exact⟨_,_,rfl⟩
def Aa{c:CS}(h:OZ c=true):∃g es,c=.ex (.call g es):=by
 cases c<;>first|exact(aad h).elim|skip
 ext(⟨g,es,rfl⟩:Ab h);exact⟨g,es,rfl⟩
def MC(L:Lk X S k Φ)(j:Passes (uL X.prog X.w C) X (λc _ H'=>c=.ref C/\aL X.H₀ H'))(m:∀g x,S.fn g=↥x->(∃o,Ψ g o)->jR X.prog X.w X.K X.mg X.base k C x (Ψ g)){g:Nat}(h:qj S (.ex (.call g es)) st=true):PS X st (mC X F (oP Φ Ψ n (.ex (.call g es)))):=by
 ext(⟨v,i,q1⟩:bu h)(⟨pos,rfl⟩:oV i)(⟨d,h2⟩:aC q1);exact PS.imp (ME (wC (F:=F) L j m d) (iD d (dS h2) _ _ _)) λD σ H p=>by ext(⟨R,e,ρ,q,l⟩:p);cases l with|ex a b=>exact⟨R,e,ρ,q,_,a,b⟩
def VI(L:Lk X S k Φ)(m:Passes (uL X.prog X.w C) X (λc _ H'=>c=.ref C/\aL X.H₀ H'))(o:∀g x,S.fn g=↥x->(∃I,Ψ g I)->jR X.prog X.w X.K X.mg X.base k C x (Ψ g)){c:CS}(l:Im c=true)(h:qj S c st=true):PS X st (mC X F (oP Φ Ψ n c)):=by
 cases c<;>first|exact(aad l).elim|skip
 ·ext(⟨g,es,rfl⟩:Ab l);exact MC L m o h
 ·ext(⟨Q,s,y⟩:bu l)(⟨O,r,i⟩:bu y)(⟨q,p⟩:aC i)(⟨_,_,rfl⟩:Aa q)(⟨_,_,rfl⟩:Aa p);cases bM s;cases bM r;ext(⟨⟨t,x,z⟩,u,q1⟩:bu h)(⟨pos,rfl⟩:sH u)(⟨q2,h3⟩:aC q1)(⟨G,h2⟩:aC q2);have one:∀{g:Nat} {es:aA} {j:aQ},jn S [.ex (.call g es)] j=true->gS X j (mC X F (Er Φ Ψ n [.ex (.call g es)])):=λ{g es j} d=>by
   cases j with
   |nil=>exact(aad d).elim
   |cons M rest =>
    ext(d:aC d);cases rest with
    |cons _ _=>exact(aad d.2).elim
    |nil =>
     refine gS.imp (gA (MC (F:=F) (n:=n) L m o d.1)) λD σ H ⟨R,a,ρ,b,i⟩=>?_;cases i with
     |hd e=>exact⟨R,a,ρ,b,e⟩
     |tl _ e=>cases e
  refine PS.imp (vI (pos:=pos) (fy (F:=F) L _ t G).2 (one h2) (one h3)) λD σ H v=>?_;ext(⟨R,a,ρ,b,i⟩:v);cases i with
  |Mj e1 e2=>exact⟨R,a,ρ,true,b,e1,λJ es=>Uj ⟨R,a,ρ,b.go es,e2⟩⟩
  |iff e1 e2=>exact⟨R,a,ρ,false,b,e1,λJ es=>JM ⟨R,a,ρ,b.go es,e2⟩⟩
end
meta def WS:Px:=⟨λ_ _ _ _=>none,λ_ _ _ _=>none,λ_ _ _ _=>none,λ_ _ _ _=>none⟩
def pr0:nZ WS Φ:=⟨(λX b bl k L p e args a F g c=>by cases a),(λX b bl k L p e args a F g j l c pins s σ H R i ρ xs d items I q o n m r hR=>by cases a)⟩
def Ww(K:av)(mg:aU)(sc:Scope)(C:Addr)(x:Str)(b:Bool):Prop :=
 (fI sc x=true/\(x==⇑9)=false)/\((∃a,mg x=↥(.ref a)/\ci K (.ref C) (.ref a)=↥b)\/∃T,mg x=none/\j_ x=↥(.type T)/\x ≠ "__name__" /\ ci K (.ref C) (.type T)=↥b)
def He{x:Str}{G:hA}{k:Nat}{bl:aq}{err:Str}{cl:Str->Option Bool} 
  (Fu:CF K x qual st f G) (l:e_ [err,told] [err] (aE st)) {a b r:Expr} {t q o n m:aj} {Y W U:Pos} {j:Nat} {V pr Jf Je Jb LP LY L7 LU LO LX HA LS LN LW L6 LR LM LV L5 LQ Ja:Pos}
  (JW:bC st=og told a b r t q o n m Y W U j V pr Jf p1 Je Jb p2 LP LY L7 LU p3 LO LX HA LS p4 LN LW L6 LR p5 LM LV L5 LQ Ja) (ha:wa err cl a=↥true) (hb:wa err cl b=↥true)
  (i1:eG err cl t=↥b1) (i2:eG err cl q=↥b2) (i3:eG err cl o=↥b3) (i4:eG err cl n=↥b4) (i5:eG err cl m=↥b5) (c:cc ⟨aE st,[err,told],λ_=>none,bl,[],WS⟩ yR r=true)
  (he:(aE st).names.lookup err=↥.local) (hl:(aE st).names.lookup told=↥.local) (d1:(err==⇑9)=false) (d2:(err==("__classdict__" : Str))=false) (d3:(told==⇑9)=false) (d4:(told==("__classdict__" : Str))=false)
  (S:∀y∈bl,mg y=none) (M:XC K C) (gi:fI (aE st) "isinstance" = true) (ni:mg "isinstance" = none) (d:∀x b,cl x=↥b->Ww K mg (aE st) C x b) (hlen:b1.length+b2.length+b3.length+b4.length+b5.length<=sizeLine)
  (J:bg (λ_ _=>none) yR [none,↥(.fz\((b1++b2++b3++b4++b5).map DI.D.bl))]=ok (.bl true)):fQ P w K mg base uR (k+1) f G [err] (sO C):=by
 refine Fu.ok (N:=[err,told]) l (λO H Q E b_=>by ext(⟨_,h,_⟩:b_);rw[h];rfl) λfN A outer s H O Q E hr R=>?_;ext(⟨ea,rfl,hH,hq⟩:R)
 let X:=(jr uR P w K mg base [err,told] qual (aE st) f fN A outer s H E).ya
 have L:Lk X ⟨aE st,[err,told],λ_=>none,bl,[],WS⟩ k (λ_ _=>none):=⟨rfl,rfl,l.nd,rfl,hr,S,(λg y h=>by cases h),(λy i h=>by cases h),pr0⟩
 have Z:R4 X C cl:=⟨M,L.gl gi,ni,λx b h p=>by
  ext(⟨⟨v,h2⟩,h3⟩:d x b h)((⟨I,h3,e⟩|⟨T,h3,e,h5,h6⟩):h3)
  ·exact⟨.ref I,.ref I,zR (L.gl v) h3 rfl h2,λu z=>z,e⟩
  ·exact⟨.ty T,.type T,zT (L.gl v) h3 e rfl h5 h2,λu z=>z,h6⟩⟩
 exact[JW]\⟨_,yU (X:=X) L Z rfl he hl d1 d2 d3 d4 l.nd hlen J ha hb i1 i2 i3 i4 i5 c,ea,rfl,rfl,hH,hq⟩
end DI
end
section
namespace DI
open PySem (Str)
section
variable {α β:Type}
nonrec def cM(a:α)(f:α->O β):bd (ok a) f=f a:=rfl
nonrec def XQ(c:Nat)(f:α->O β):bd ↥(.error c) f=↥(.error c):=rfl
meta def MX(f:α->O β)(x:O α):O β:=bd x f
nonrec def abw(f:α->O β)(a:α):MX f (ok a)=f a:=rfl
nonrec def XT(f:α->O β)(c:Nat):MX f ↥(.error c)=↥(.error c):=rfl
end
def V8(op:A3)(x y:O D):O D:=bd x λx=>bd y λy=>dh op x y
nonrec def XN(op:A3)(x y:D):V8 op (ok x) (ok y)=dh op x y:=rfl
def VZ(op:CU)(x y:O D):O D:=bd x λx=>bd y λy=>kZ op x y
nonrec def XI(op:CU)(x y:D):VZ op (ok x) (ok y)=kZ op x y:=rfl
def ixO(x y:O D):O D:=bd x λx=>bd y λy=>HC x y
nonrec def Zv(x y:D):ixO (ok x) (ok y)=HC x y:=rfl
def TK(x:O D):O D:=bd (bd x ig) λb=>ok (.bl (!b))
nonrec def W5(b:Bool):TK (ok (.bl b))=ok (.bl (!b)):=rfl
nonrec def Sq(b:Bool):ig (.bl b)=ok b:=rfl
def xN(x:O D):O Bool:=bd x ig
nonrec def WC(b:Bool):xN (ok (.bl b))=ok b:=rfl
nonrec def So(c:Nat):xN ↥(.error c)=↥(.error c):=rfl
def isO(t:Ty)(x:O D):O D:=bd x λx=>ok (.bl (eF t x))
nonrec def ZC(t:Ty)(x:D):isO t (ok x)=ok (.bl (eF t x)):=rfl
def w_(m:aD)(xs:O (aa)):O D:=bd xs λxs=>bd (m (ao aK xs)) λr=>ok (aJ gW r)
def PY(x:O D):O D:=bd x λr=>ok (aJ gW r)
nonrec def aaW(r:D):PY (ok r)=ok (aJ gW r):=rfl
nonrec def Xw(c:Nat):PY ↥(.error c)=↥(.error c):=rfl
nonrec def l6(m:aD)(xs:aa):w_ m (ok xs)=PY (m (ao aK xs)):=rfl
nonrec def RW(m:aD)(c:Nat):w_ m ↥(.error c)=↥(.error c):=rfl
meta def wN(x:O D)(xs:O (aa)):O (aa):=bd x λx=>bd xs λxs=>ok (x::xs)
nonrec def VY(x:D)(xs:aa):wN (ok x) (ok xs)=ok (x::xs):=rfl
nonrec def RU(c:Nat)(xs:O (aa)):wN ↥(.error c) xs=↥(.error c):=rfl
nonrec def QS(x:D)(c:Nat):wN (ok x) ↥(.error c)=↥(.error c):=rfl
def La(x y:O D):O D:=bd (bd x ig) λc=>if c then y else ok (.bl false)
nonrec def abx(y:O D):La (ok (.bl true)) y=y:=rfl
nonrec def aby(y:O D):La (ok (.bl false)) y=ok (.bl false):=rfl
nonrec def abz(a b:Bool):La (ok (.bl a)) (ok (.bl b))=ok (.bl (a&&b)):=by cases a<;>rfl
def WX(x y:O D):O D:=bd (bd x ig) λc=>if c then ok (.bl true)else y
nonrec def acg(y:O D):WX (ok (.bl true)) y=ok (.bl true):=rfl
nonrec def ach(y:O D):WX (ok (.bl false)) y=y:=rfl
nonrec def aci(a b:Bool):WX (ok (.bl a)) (ok (.bl b))=ok (.bl (a||b)):=by cases a<;>rfl
def Fe(x:O D):O D:=bd (bd x ig) λc=>ok (.bl c)
nonrec def Ub(c:Bool):Fe (ok (.bl c))=ok (.bl c):=rfl
nonrec def SU(d:D):zB ↥↥d=ok (aJ bq d):=rfl
section
variable (Φ:aY)(ρ:aV)
nonrec def adL:bg Φ .bX ρ=ok .bX:=rfl
nonrec def agX(b:Bool):bg Φ (.bl b) ρ=ok (.bl b):=rfl
nonrec def MO(i:Int):bg Φ ↑i ρ=ok ↑i:=rfl
nonrec def adH(i:Str):bg Φ (.str i) ρ=ok (.str i):=rfl
nonrec def adP(x:Str)(i:Int):bg Φ (.glo x i) ρ=ok ↑i:=rfl
nonrec def e_v(i:Nat):bg Φ (.v i) ρ=zB ρ[i]?:=rfl
nonrec def AF(op:A3)(a b:CE):bg Φ (.bin op a b) ρ=V8 op (bg Φ a ρ) (bg Φ b ρ):=rfl
nonrec def VR(op:CU)(a b:CE):bg Φ (.cmp op a b) ρ=VZ op (bg Φ a ρ) (bg Φ b ρ):=rfl
nonrec def adN(a:CE):bg Φ (.neg a) ρ=MX Jw (bg Φ a ρ):=rfl
nonrec def adK(a:CE):bg Φ (.not a) ρ=TK (bg Φ a ρ):=rfl
nonrec def adO(a:CE)(t:Ty):bg Φ (.qM a t) ρ=isO t (bg Φ a ρ):=rfl
nonrec def mZ(f:Nat)(es:aA):bg Φ (.call f es) ρ=w_ (Φ f) (b6 Φ es ρ):=rfl
nonrec def Gu(f:Bf)(es:aA):bg Φ (.bf f es) ρ=MX (qU f) (b6 Φ es ρ):=rfl
nonrec def MN(f:Nat)(es:aA):bg Φ (.cJ f es) ρ=MX (Φ f) (b6 Φ es ρ):=rfl
nonrec def abe(a b:CE):bg Φ (.ix a b) ρ=ixO (bg Φ a ρ) (bg Φ b ρ):=rfl
nonrec def abd(a:CE):bg Φ (.mQ a) ρ=MX z4 (bg Φ a ρ):=rfl
nonrec def MG(es:aA):bg Φ (.tup es) ρ=MX (λa=>ok (.tup a)) (b6 Φ es ρ):=rfl
nonrec def VQ(es:aA):bg Φ (.lst es) ρ=MX (λa=>ok (.ow\a)) (b6 Φ es ρ):=rfl
nonrec def adQ(es:aA):bg Φ (.and es) ρ=rW Φ es ρ:=rfl
nonrec def agW(es:aA):bg Φ (.or es) ρ=Cc Φ es ρ:=rfl
nonrec def abg(e:CE):rW Φ [e] ρ=Fe (bg Φ e ρ):=rfl
nonrec def abf(e a:CE)(es:aA):rW Φ (e::a::es) ρ=La (bg Φ e ρ) (rW Φ (a::es) ρ):=rfl
nonrec def adJ(e:CE):Cc Φ [e] ρ=Fe (bg Φ e ρ):=rfl
nonrec def adI(e a:CE)(es:aA):Cc Φ (e::a::es) ρ=WX (bg Φ e ρ) (Cc Φ (a::es) ρ):=rfl
nonrec def adM:b6 Φ [] ρ=ok []:=rfl
nonrec def cz(e:CE)(es:aA):b6 Φ (e::es) ρ=wN (bg Φ e ρ) (b6 Φ es ρ):=rfl
nonrec def e_T(e:CE):wB Φ e ρ=xN (bg Φ e ρ):=rfl
def abj(e:CE):bd (bg Φ e ρ) ig=xN (bg Φ e ρ):=rfl
nonrec def abi:jh Φ [] ρ=ok true:=rfl
nonrec def abh(e:CE):jh Φ [e] ρ=xN (bg Φ e ρ):=by
 rw[jh,abj];cases h:xN (bg Φ e ρ)with
 |none=>rfl
 |some r=>cases r with
  |error c=>rfl
  |ok b=>cases b<;>simp[jh,bd,ok]
end
def pY(is:aS):Nat->aV->aV
 |_,[]=>[]
 |n,d::ρ=>(if n∈is then d.map (aJ aK)else d)::pY is (n+1) ρ
theorem MA(is:aS):∀(ρ:aV) (n:Nat),ρ.mapIdx (λi d=>if i+n∈is then d.map (aJ aK)else d)=pY is n ρ
 |[],_=>rfl
 |d::ρ,n=>by
  rw[List.mapIdx_cons,pY,<- MA is ρ (n+1)];simp only[zaD,zaG,zbr 1 n]
def pW(is:aS)(ρ:aV):iH is ρ=pY is 0 ρ:=by rw[<- MA];rfl
nonrec def Vz(is:aS)(n:Nat):pY is n []=[]:=rfl
nonrec def RR(is:aS)(n:Nat)(d:aM)(ρ:aV):pY is n (d::ρ)=(if n∈is then d.map (aJ aK)else d)::pY is (n+1) ρ:=rfl
def cR(e:CE)(ρ:aV)(x:O D):O (D×aV):=bd x λd=>ok (keep e d ρ)
variable {ρ:aV}
nonrec def eE{e:CE}{d:D}(h:aW bS d=false):cR e ρ (ok d)=ok (d,ρ):=by
 show ok (keep e d ρ)=_;rw[keep,h];rfl
nonrec def pJ{e:CE}{d:D}(h:aW bS d=true):cR e ρ (ok d)=ok (aJ aK d,pY (gK e) 0 ρ):=by
 show ok (keep e d ρ)=_;rw[keep,h,<- pW];rfl
nonrec def Rz(e:CE)(ρ:aV)(c:Nat):cR e ρ ↥(.error c)=↥(.error c):=rfl
def EM(i:Nat)(ρ:aV)(o:Option (aM)):O (D×aV):=match o with
 |some ↥d=>if aW cq d then ok (d,ρ.set i none)else ok (d,ρ)
 |_=>none
nonrec def TV{i:Nat}{d:D}(h:aW cq d=true):EM i ρ ↥↥d=ok (d,ρ.set i none):=abE h
nonrec def TX{i:Nat}{d:D}(h:aW cq d=false):EM i ρ ↥↥d=ok (d,ρ):=ad0 ([h]\aad)
nonrec def k_v(Φ:aY)(i:Nat)(ρ:aV):kc Φ (.v i) ρ=EM i ρ ρ[i]?:=rfl
meta def Uo:CE->Bool
 |.v _=>true
 |_=>false
nonrec def acC(Φ:aY)(ρ:aV)(op:A3)(a b:CE):kc Φ (.bin op a b) ρ=cR (.bin op a b) ρ (bg Φ (.bin op a b) ρ):=rfl
nonrec def acB(Φ:aY)(ρ:aV)(op:CU)(a b:CE):kc Φ (.cmp op a b) ρ=cR (.cmp op a b) ρ (bg Φ (.cmp op a b) ρ):=rfl
nonrec def OQ(Φ:aY)(ρ:aV)(f:Nat)(es:aA):kc Φ (.call f es) ρ=cR (.call f es) ρ (bg Φ (.call f es) ρ):=rfl
nonrec def afz(Φ:aY)(ρ:aV)(f:Bf)(es:aA):kc Φ (.bf f es) ρ=cR (.bf f es) ρ (bg Φ (.bf f es) ρ):=rfl
nonrec def acv(Φ:aY)(ρ:aV)(f:Nat)(es:aA):kc Φ (.cJ f es) ρ=cR (.cJ f es) ρ (bg Φ (.cJ f es) ρ):=rfl
nonrec def afx(Φ:aY)(ρ:aV)(a b:CE):kc Φ (.ix a b) ρ=cR (.ix a b) ρ (bg Φ (.ix a b) ρ):=rfl
nonrec def acs(Φ:aY)(ρ:aV)(es:aA):kc Φ (.tup es) ρ=cR (.tup es) ρ (bg Φ (.tup es) ρ):=rfl
nonrec def acz(Φ:aY)(ρ:aV)(es:aA):kc Φ (.lst es) ρ=cR (.lst es) ρ (bg Φ (.lst es) ρ):=rfl
nonrec def Mf(Φ:aY)(ρ:aV)(i:Int):kc Φ ↑i ρ=cR ↑i ρ (bg Φ ↑i ρ):=rfl
nonrec def afy(Φ:aY)(ρ:aV)(i:Bool):kc Φ (.bl i) ρ=cR (.bl i) ρ (bg Φ (.bl i) ρ):=rfl
nonrec def acx(Φ:aY)(ρ:aV): kc Φ (.bX) ρ=cR (.bX) ρ (bg Φ (.bX) ρ):=rfl
nonrec def acy(Φ:aY)(ρ:aV)(a:CE):kc Φ (.neg a) ρ=cR (.neg a) ρ (bg Φ (.neg a) ρ):=rfl
nonrec def acw(Φ:aY)(ρ:aV)(a:CE):kc Φ (.not a) ρ=cR (.not a) ρ (bg Φ (.not a) ρ):=rfl
nonrec def acD(Φ:aY)(ρ:aV)(es:aA):kc Φ (.and es) ρ=cR (.and es) ρ (bg Φ (.and es) ρ):=rfl
nonrec def afw(Φ:aY)(ρ:aV)(es:aA):kc Φ (.or es) ρ=cR (.or es) ρ (bg Φ (.or es) ρ):=rfl
nonrec def Zu(Φ:aY)(ρ:aV)(n:Nat)(t:Tg)(caps:aS)(b:IK)(es c:aA)(a:CE):kc Φ (.comp n t caps b es c a) ρ=cR (.comp n t caps b es c a) ρ (bg Φ (.comp n t caps b es c a) ρ):=rfl
nonrec def acu(Φ:aY)(ρ:aV)(s:Str):kc Φ (.str s) ρ=cR (.str s) ρ (bg Φ (.str s) ρ):=rfl
nonrec def acA(Φ:aY)(ρ:aV)(a:CE)(t:Ty):kc Φ (.qM a t) ρ=cR (.qM a t) ρ (bg Φ (.qM a t) ρ):=rfl
nonrec def Zt(Φ:aY)(ρ:aV)(a:CE):kc Φ (.mQ a) ρ=cR (.mQ a) ρ (bg Φ (.mQ a) ρ):=rfl
def Fj(Φ:aY)(e:CE)(ρ:aV)(h:Uo e=false):kc Φ e ρ=cR e ρ (bg Φ e ρ):=by cases e<;>first|rfl|cases h
nonrec def Rp(ρ:aV):dJ [] [] ρ=ok ρ:=rfl
variable {ds:aa}{is:aS}
nonrec def NN{i:Nat}{d:D}(h:i<ρ.length):dJ (i::is) (d::ds) ρ=dJ is ds (ρ.set i ↥d):=abE h
nonrec def IG{i:Nat}{d:D}(h:i<ρ.length):cn (.nm i) d ρ=ok (ρ.set i ↥d):=abE h
nonrec def WL(h:aR cq ds=false):cn (.tp is) (.tup ds) ρ=dJ is ds ρ:=ad0 ([h]\aad)
def Q7(i:Nat)(r:O (D×aV)):O (Fo×aV):=bd r λr=>bd (cn (.nm i) r.1 r.2) λa=>ok (.nx,a)
nonrec def oJ{i:Nat}{d:D}(h:i<ρ.length):Q7 i (ok (d,ρ))=ok (.nx,ρ.set i ↥d):=by
 show bd (cn (.nm i) d ρ) _=_;rw[cn,zac h];rfl
nonrec def Wc(i:Nat)(c:Nat):Q7 i ↥(.error c)=↥(.error c):=rfl
def Wb(is:aS)(r:O (D×aV)):O (Fo×aV):=bd r λr=>bd (cn (.tp is) r.1 r.2) λa=>ok (.nx,a)
nonrec def XS(h:aR cq ds=false):Wb is (ok (.tup ds,ρ))=bd (dJ is ds ρ) λa=>ok (.nx,a):=by
 show bd (cn (.tp is) (.tup ds) ρ) _=_;rw[cn,h];rfl
meta def retS(r:O (D×aV)):O (Fo×aV):=bd r λr=>ok (.rt r.1,r.2)
nonrec def WM(d:D)(ρ:aV):retS (ok (d,ρ))=ok (.rt d,ρ):=rfl
nonrec def S8(c:Nat):retS ↥(.error c)=↥(.error c):=rfl
meta def exO(ρ:aV)(x:O D):O (Fo×aV):=bd x λ_=>ok (.nx,ρ)
nonrec def aa2(ρ:aV)(d:D):exO ρ (ok d)=ok (.nx,ρ):=rfl
nonrec def XB(ρ:aV)(c:Nat):exO ρ ↥(.error c)=↥(.error c):=rfl
meta def rg(Φ:aY)(a:ai)(r:O (Fo×aV)):O (Fo×aV):=bd r λr=>match r with
 | (.nx,ρ')=>bF Φ a ρ'
 |r=>ok r
nonrec def dH(Φ:aY)(a:ai)(ρ:aV):rg Φ a (ok (.nx,ρ))=bF Φ a ρ:=rfl
nonrec def Ss(Φ:aY)(a:ai)(d:D)(ρ:aV):rg Φ a (ok (.rt d,ρ))=ok (.rt d,ρ):=rfl
nonrec def Rn(Φ:aY)(a:ai)(c:Nat):rg Φ a ↥(.error c)=↥(.error c):=rfl
meta def JL(Φ:aY)(a b:ai)(ρ:aV)(x:O Bool):O (Fo×aV):=bd x λk=>if k then bF Φ a ρ else bF Φ b ρ
nonrec def Zy(Φ:aY)(a b:ai)(ρ:aV):JL Φ a b ρ (ok true)=bF Φ a ρ:=rfl
nonrec def Zz(Φ:aY)(a b:ai)(ρ:aV):JL Φ a b ρ (ok false)=bF Φ b ρ:=rfl
nonrec def Uk(Φ:aY)(a b:ai)(ρ:aV)(c:Nat):JL Φ a b ρ ↥(.error c)=↥(.error c):=rfl
def Wf(i:Nat)(r:O (D×aV)):O (Fo×aV):=bd r λr=>match Eo r.2[i]? with
  |some ds=>if ds.length<cB then ok (.nx,r.2.set i ↥(.ow\(ds++[r.1])))else none
  |none=>none
nonrec def K9{i:Nat}{d:D}(h:ρ[i]?=↥↥(.ow\ds))(a:ds.length<cB):Wf i (ok (d,ρ))=ok (.nx,ρ.set i ↥(.ow\(ds++[d]))):=by
 show(match Eo ρ[i]? with|↥ds=>_|none=>_)=_;exact[h]\abE a
section
variable (Φ:aY)(ρ:aV)
nonrec def abQ:bF Φ [] ρ=ok (.nx,ρ):=rfl
nonrec def bI(s:CS)(a:ai):bF Φ (s::a) ρ=rg Φ a (ic Φ s ρ):=rfl
nonrec def uT(i:Nat)(e:CE):ic Φ (.asg (.nm i) e) ρ=Q7 i (kc Φ e ρ):=rfl
nonrec def X8(is:aS)(e:CE):ic Φ (.asg (.tp is) e) ρ=Wb is (kc Φ e ρ):=rfl
nonrec def CZ(e:CE):ic Φ (.ret e) ρ=retS (kc Φ e ρ):=rfl
def qY(c:CE)(b:ai):ic Φ (.Lm c b) ρ=fW (λρ=>bd (wB Φ c ρ) λk=>if k then bd (bF Φ b ρ) λr=>match r with
   | (.nx,ρ')=>ok (.inl ρ')
   | (.rt d,ρ')=>ok (.inr (.rt d,ρ'))
  else ok (.inr (.nx,ρ))) ρ:=rfl
def R_(i j:Nat)(a b:CE):ic Φ (.par i j a b) ρ=bd (bg Φ a ρ) λx=>bd (bg Φ b ρ) λy=>if aW anyF x=false/\aW anyF y=false/\i<ρ.length/\j<ρ.length then ok (.nx,(ρ.set i ↥x).set j ↥y)else none:=rfl
nonrec def aee(c:Nat):ic Φ (.rs c) ρ=↥(.error c):=rfl
nonrec def X7(e:CE):ic Φ (.ex e) ρ=exO ρ (bg Φ e ρ):=rfl
nonrec def A5(c:CE)(a b:ai):ic Φ (.ifs c a b) ρ=JL Φ a b ρ (xN (bg Φ c ρ)):=rfl
nonrec def Sd(i:Nat)(e:CE):ic Φ (.app i e) ρ=Wf i (kc Φ e ρ):=rfl
end
meta def mk(Φ:aY)(ar n:Nat)(b:ai):aD:=λds=>if ds.length=ar then qG Φ n b ds else none
meta def jI(r:O (Fo×aV)):O D:=bd r λr=>match r.1 with
 |.nx=>ok .bX
 |.rt d=>ok d
nonrec def XG(ρ:aV):jI (ok (.nx,ρ))=ok .bX:=rfl
nonrec def XF(d:D)(ρ:aV):jI (ok (.rt d,ρ))=ok d:=rfl
nonrec def VN(c:Nat):jI ↥(.error c)=↥(.error c):=rfl
variable {ar:Nat}{Φ:aY}
def mk_eq{n:Nat}{b:ai}(h:ds.length=ar):mk Φ ar n b ds=jI (bF Φ b (ds.map some++ap (n - ds.length) none)):=abE h
protected def yd{n:Nat}{b:ai}(ds:aa)(r:D)(h:mk Φ ar n b ds=ok r):ds.length=ar/\qG Φ n b ds=ok r:=by
 unfold mk at h;split at h
 ·rename_i a;exact⟨a,h⟩
 ·cases h
def Vx(i:Nat):gK (.v i)=[i]:=adm rfl
end DI
end
section
namespace DI
open PySem PySem.Spec PyProof.Rows L2
def Df(K:av)(x:Str)(st:Stmt):Prop:=∃f a,CF K x x st f a/\eD K cm x=↥↥(.ref f)
variable {C f:Addr}{K:av}{st Bj:Stmt}
def dmk{x:Str}{h:Value}{g m:Option Addr}{d:Array (Option Value)}{i j e b ct:Value}(a:eD K cm x=↥↥(.ref f))(l:K.lookup f=↥⟨h,g,.func (hP x x (eJ st) (bC st) (aE st) .none i j e m b ct),d⟩)(c:r4 K b x=true)(k:hO K (.ref f)=true):Df K x st:=⟨f,_,PZ l c k,a⟩
meta def Vy(N P:aq)(sc:Scope):Bool:=decide (sc.kind=.function)&&(!sc.isCoroutine&&(!sc.isGenerator&&(decide N.Nodup&&(decide (N.take P.length=P)&&(P.all (λx=>decide (sc.names.lookup x=↥.local\/sc.names.lookup x=↥.cell))&&sc.names.all λy=>decide (y.2≠.free))))))
variable {N ps:aq}
def wq{P:aq}{sc:Scope}(h:Vy N P sc=true):e_ N P sc:=by
 ext(⟨k,h⟩:aC h)(⟨j,h⟩:aC h)(⟨i,h⟩:aC h)(⟨g,h⟩:aC h)(⟨e,h⟩:aC h)(⟨d,c⟩:aC h);exact⟨aac k,dS j,dS i,aac g,aac e,λx b=>aac (hX.mp d x b),λy a=>aac (hX.mp c y a)⟩
def KS(st:Stmt)(N ps:aq)(tb:List (Nat×Str))(bl:aq)(cs:List (Str×GK))(px:Px)(b:ai):Bool:=Vy N ps (aE st)&&jn ⟨aE st,N,λn=>D6 n tb,bl,cs,px⟩ b (bC st)
def u1{b:Type}{P:List b->Prop}(h:∀a,P [a])(c:List b)(e:c.length=1):P c:=by ext(⟨a,rfl⟩:T_ e);exact h a
def u2{c:Type}{P:List c->Prop}(h:∀a b,P [a,b])(d:List c)(e:d.length=2):P d:=by ext(⟨a,b,rfl⟩:OK e);exact h a b
variable {P:aG}{base:Heap}{k':Nat}{mg:Str->Option Value}{w:World}
def Ent.u{k:Nat}{y:Str}{m:aD}(h:Ent P w K mg base k y m)(a:k<=k':=by decide):Ent P w K mg base k' y m:=h.up a
def en{h:Heap}(X:K.In h)(G:h.Ns cm mg)⦃x:Str⦄⦃st:Stmt⦄⦃N ps bl:aq⦄⦃tb:List (Nat×Str)⦄⦃cs:List (Str×GK)⦄⦃px:Px⦄⦃b:ai⦄(k:Nat)(Φ:aY)(m:aD)(d:Df K x st)(z:KS st N ps tb bl cs px b=true)
  (l:nZ px Φ/\Hq px Φ) (o:bO (λy=>mg y=none) bl) (s:bO (λp:Str×GK=>∃u,mg p.1=↥u/\xp K p.2 u) cs)
  (hf:bO (λp:Nat×Str=>Ent P w K mg base k p.2 (Φ p.1)) tb) (v:∀e r,m e=ok r->e.length=ps.length/\qG Φ N.length b e=ok r) (A:∀(t j q:Value) (F:Option Addr) (E ct:Value) (c:aw),c.length=ps.length->Ag (hP x x (eJ st) (bC st) (aE st) .none t j q F E ct) ⟨c,[]⟩=pure (ps.zip c):=by first|exact λ_ _ _ _ _ _=>u1 λ_=>rfl|exact λ_ _ _ _ _ _=>u2 λ_ _=>rfl|exact λ_ _ _ _ _ _=>u3 λ_ _ _=>rfl|exact λ_ _ _ _ _ _=>u4 λ_ _ _ _=>rfl|exact λ_ _ _ _ _ _=>u5 λ_ _ _ _ _=>rfl):Ent P w K mg base (k+1) x m:=by
 ext(⟨f,H,n,a⟩:d)(⟨D,B⟩:aC z);exact ent n (abZ X G a) (n.binds A) (wq D) B l.1 l.2 (bO.mem o) (bO.two (P:=λy i=>∃u,mg y=↥u/\xp K i u) s) (bO.tab (P:=λg y=>Ent P w K mg base k y (Φ g)) hf) v
noncomputable abbrev xm(PT F:aY)(i:Nat)(m:aD):aY:=λn=>@Bool.rec (λ_=>aD) (@Bool.rec (λ_=>aD) (F n) m (Nat.beq n i)) (PT n) (Nat.ble 1000 n)
def ZI{d:Type}{Q:Nat->Prop}(p:Nat){k:Nat}{a b c:d}(h:(if p=k then a else b)=c)(i:a=c->Q k)(g:b=c->Q p):Q p:=by
 by_cases e:p=k
 ·subst e;rw[zac rfl]at h;exact i h
 ·rw[zab e]at h;exact g h
variable {F:Addr->Prop}{Z:Cx}{cs:aA}{Φ:aY}
def CL{d:Type}{e:Expr}{p k:Nat}{a b c:d}(h:(if p=k then a else b)=c)(i:a=c->PE Z e (tD Z F Φ (.cJ k cs))/\L2.PT Z e (jX Z F Φ (.cJ k cs)))(g:b=c->PE Z e (tD Z F Φ (.cJ p cs))/\L2.PT Z e (jX Z F Φ (.cJ p cs))):PE Z e (tD Z F Φ (.cJ p cs))/\L2.PT Z e (jX Z F Φ (.cJ p cs)):=ZI (Q:=λp=>PE Z e (tD Z F Φ (.cJ p cs))/\L2.PT Z e (jX Z F Φ (.cJ p cs))) p h i g
def ZH{d:Type}{i p k:Nat}{a b c:d}(h:(if p=k then a else b)=c)(g:a=c->PS Z st (mh Z F Φ (.mut k i cs)))(e:b=c->PS Z st (mh Z F Φ (.mut p i cs))):PS Z st (mh Z F Φ (.mut p i cs)):=ZI (Q:=λp=>PS Z st (mh Z F Φ (.mut p i cs))) p h g e
def ZG{d:Type}{c1 c2:CE}{i p k:Nat}{a b c:d}(h:(if p=k then a else b)=c)(g:a=c->PS Z st (mh Z F Φ (.mu2 k i c1 c2)))(e:b=c->PS Z st (mh Z F Φ (.mu2 p i c1 c2))):PS Z st (mh Z F Φ (.mu2 p i c1 c2)):=ZI (Q:=λp=>PS Z st (mh Z F Φ (.mu2 p i c1 c2))) p h g e
def W7{A:Prop}(h:∃_:aa,False):A:=h.elim λ_ z=>z.elim
def eL:True:=trivial
theorem bO.nn{K:av}{h:Heap}{mg:aU}(X:K.In h)(G:h.Ns cm mg):∀{l:aq},bO (λy=>eD K cm y=↥none) l->bO (λy=>mg y=none) l
 |[],_=>trivial
 |_::_,z=>⟨PySem.W.mg_none_of X G z.1,bO.nn X G z.2⟩
def en7{P:aG}{w:World}{K:av}{h base:Heap}{mg:aU}{bl:aq}{cs:List (Str×GK)}{px:Px}{PT:aY}(X:K.In h)(G:h.Ns cm mg)(B:∀F i m,nZ px (xm PT F i m)/\Hq px (xm PT F i m))(v:bO (λy=>mg y=none) bl)(z:bO (λp:Str×GK=>∃u,mg p.1=↥u/\xp K p.2 u) cs)
  ⦃x:Str⦄ ⦃st:Stmt⦄ (k:Nat) (Φ:aY) (d:Df K x st) (N:aq) (a:Nat) (tb:List (Nat×Str)) (b:ai)
  (hf:bO (λp:Nat×Str=>Ent P w K mg base k p.2 (Φ p.1)) tb) (D:KS st N (N.take a) tb bl cs px b=true:=by decide +kernel) (e:∃F i m,Φ=xm PT F i m:=by exact⟨_,_,_,rfl⟩) (s:(N.take a).length=a:=by rfl) (E:∀(l c j:Value) (o:Option Addr) (n ct:Value) (g:aw),g.length=a->Ag (hP x x (eJ st) (bC st) (aE st) .none l c j o n ct) ⟨g,[]⟩=pure ((N.take a).zip g):=by first|exact λ_ _ _ _ _ _=>u1 λ_=>rfl|exact λ_ _ _ _ _ _=>u2 λ_ _=>rfl|exact λ_ _ _ _ _ _=>u3 λ_ _ _=>rfl|exact λ_ _ _ _ _ _=>u4 λ_ _ _ _=>rfl|exact λ_ _ _ _ _ _=>u5 λ_ _ _ _ _=>rfl):Ent P w K mg base (k+1) x (mk Φ a N.length b):=by
 ext(⟨F,i,m,e⟩:e);exact en X G k Φ _ d D (e▸B F i m) v z hf (λt r q=>⟨(yd t r q).1.trans s.symm,(yd t r q).2⟩) (λl c j o n ct g A=>E l c j o n ct g (A.trans s))
def enL{x:Str}{bl:aq}{tb:List (Nat×Str)}{cs:List (Str×GK)}{px:Px}{b:ai}{d:hA}(k:Nat)(Φ:aY)(m:aD)(s:CF K x x st f d)(n:KS st N ps tb bl cs px b=true)
  (c:nZ px Φ/\Hq px Φ) (e:bO (λy=>mg y=none) bl) (j:bO (λp:Str×GK=>∃u,mg p.1=↥u/\xp K p.2 u) cs)
  (hf:bO (λp:Nat×Str=>Ent P w K mg base k p.2 (Φ p.1)) tb) (l:∀a r,m a=ok r->a.length=ps.length/\qG Φ N.length b a=ok r):fQ P w K mg base uR (k+1) f d ps (Hx K ps.length m):=by
 ext(⟨q,o⟩:aC n);exact wx s (wq q) o c.1 c.2 (bO.mem e) (bO.two (P:=λy i=>∃u,mg y=↥u/\xp K i u) j) (λg y h=>(bO.tab (P:=λg y=>Ent P w K mg base k y (Φ g)) hf g y h).ex) l
def jR.up{k:Nat}{y:Str}{a:aa->Prop}(h:jR P w K mg base k C y a)(b:k<=k'):jR P w K mg base k' C y a:=by
 ext(⟨f,e,ps,d,c⟩:h.ex);exact⟨f,e,ps,d.mono b,c⟩
def jR.u{k:Nat}{y:Str}{a:aa->Prop}(h:jR P w K mg base k C y a)(b:k<=k':=by decide):jR P w K mg base k' C y a:=h.up b
section
variable {P:aG}{w:World}{K:av}{h base:Heap}{mg:aU}(X:K.In h)(G:h.Ns cm mg){C:Addr}⦃x:Str⦄⦃st:Stmt⦄⦃N ps bl:aq⦄⦃tb:List (Nat×Str)⦄⦃cs:List (Str×GK)⦄⦃px:Px⦄
include X G
theorem RS{y:Str}(O:qp y C mg base)⦃b:ai⦄(n k:Nat)(Φ:aY)(Ψ:Nat->aa->Prop)(o:aa->Prop)(d:Df K x st)(B:KS st N ps tb bl cs px b=true)(M:uS (fI (aE st) y&&!(y==⇑9)) n y b (bC st)=true)
  (r:nZ px Φ/\Hq px Φ) (t:bO (λy=>mg y=none) bl) (z:bO (λp:Str×GK=>∃u,mg p.1=↥u/\xp K p.2 u) cs)
  (hf:bO (λp:Nat×Str=>Ent P w K mg base k p.2 (Φ p.1)) tb) (j:bO (λp:Nat×Str=>(∃c,Ψ p.1 c)->jR P w K mg base k C p.2 (Ψ p.1)) tb)
  (s:∀c,o c->c.length=ps.length/\Er Φ Ψ n b (c.map some++ap (N.length - c.length) none)) (D:∀(A l v:Value) (L:Option Addr) (J ct:Value) (e:aw),e.length=ps.length->Ag (hP x x (eJ st) (bC st) (aE st) .none A l v L J ct) ⟨e,[]⟩=pure (ps.zip e):=by first|exact λ_ _ _ _ _ _=>u1 λ_=>rfl|exact λ_ _ _ _ _ _=>u2 λ_ _=>rfl|exact λ_ _ _ _ _ _=>u3 λ_ _ _=>rfl|exact λ_ _ _ _ _ _=>u4 λ_ _ _ _=>rfl|exact λ_ _ _ _ _ _=>u5 λ_ _ _ _ _=>rfl):jR P w K mg base (k+1) C x o:=by
 ext(⟨f,I,m,a⟩:d)(⟨H,E⟩:aC B);exact⟨f,I,ps,Qw m (wq H) E M r.1 r.2 (bO.mem t) (bO.two (P:=λy i=>∃u,mg y=↥u/\xp K i u) z) (bO.tab (P:=λg y=>Ent P w K mg base k y (Φ g)) hf) (bO.tab (P:=λg y=>(∃c,Ψ g c)->jR P w K mg base k C y (Ψ g)) j) O s,abZ X G a,m.kp,m.binds D,λc q=>(s c q).1⟩
end
meta def SV(y z q w0 w1:Str)(Bj:Stmt)(hs:List eO)(d c b a:Nat)(a1 a2 a3 p o n pos c1 c2 m l k j i h g r s d1 e:Pos):aQ :=
 [.Assign [.Name y a1] (.Constant (.str w0) d a2) a3,.Assign [.Name z p] (.Constant .none c o) n,.Try [Bj] hs [] [] pos,.If (.BoolOp .And [.Compare (.Name z c1) [.IsNot] [.Constant .none b c2] m,.UnaryOp .Not (.Call (.Name q l) [.Name z k] [] j) i] h) [.Return ↥(.Constant (.str w1) a g) r] [] s,.Return ↥(.Name y d1) e]
def W3(sc:Scope)(N:aq)(n y z a:Str)(i j l:Nat):Bool:=(fI sc a&&!(a==⇑9))&&(decide (N[i]?=↥n)&&(decide (N[j]?=↥y)&&(decide (N[l]?=↥z)&&(decide (y≠n/\z≠n/\y≠z)&&(decide (sc.names.lookup n=↥.local)&&(decide (sc.names.lookup y=↥.local)&&(decide (sc.names.lookup z=↥.local)&&(yF n&&(yF y&&yF z)))))))))
def QR{x:Str}(h:yF x=true):(x==⇑9)=false/\(x==("__classdict__" : Str))=false:=by
 unfold yF at h;simpa only[YI,Vj]using h
section
variable {X:Cx}{S:Sx}{k i j l:Nat}{Φ:aY}{C aal:Addr}{n y z al w:Str}{E1:XK}{VC:hA}{Tr:aq}
def uU{tb:TS}{nrm:Prop}{good:St->Hp->Prop}{h0:eO}{hs:List eO}{w0 w1:Str}(L:Lk X S k Φ)(hk:X.stack=X.env::X.outer)(hf:X.env.frame=↥X.env.locals)(hn:W3 S.sc S.N n y z al i j l=true)(Hs:y7 X C n y z w (h0::hs))
  (Fal:fQ X.prog X.w X.K X.mg X.base uR k aal VC Tr (sO C)) (aau:Binds X.K VC Tr []) (aah:hO X.K (.ref aal)=true) (A:X.mg al=↥(.ref aal))
  (hb:∀pn HV,Passes (uL X.prog X.w C) (Cx.nK X pn HV) E1->gS (Cx.nK X pn HV) [Bj] tb)
  (M:∀D m H,good m H->(∀b a,b[j]?=↥↥(.str w0)->b[l]?=↥↥.bX->aL X.H₀ a->nrm->D.nx b a)->tb D m H) :
  ∀{J I G B:Nat} {a1 a2 a3 b1 b2 b3 pos c1 c2 c3 c4 Y V U v R G6 G5 d1 Q:Pos},gS X (SV y z al w0 w1 Bj (h0::hs) J I G B a1 a2 a3 b1 b2 b3 pos c1 c2 c3 c4 Y V U v R G6 G5 d1 Q)
   (λD m H=>good ((m.set j ↥(.str w0)).set l ↥.bX) H/\(nrm->∀a,aL X.H₀ a->D.rt (.str w0) a)/\∀a,E1 (.ref C) none a->∀r,aL a r->D.rt (.str w) r):=by
 intro J I G B a1 a2 a3 b1 b2 b3 pos c1 c2 c3 c4 Y V U v R G6 G5 d1 Q;unfold SV;ext(⟨O,hn⟩:aC hn)(⟨O,da⟩:aC O)(⟨s,hn⟩:aC hn)(⟨g,hn⟩:aC hn)(⟨e,hn⟩:aC hn)(⟨o,hn⟩:aC hn)(⟨q,hn⟩:aC hn)(⟨d,hn⟩:aC hn)(⟨c,hn⟩:aC hn)(⟨u,hn⟩:aC hn)(⟨t,h⟩:aC hn)(s:aac s)(g:aac g)(e:aac e)(o:aac o)(q:aac q)(d:aac d)(c:aac c);rw[<- L.N]at s g e;rw[<- L.sc]at q d c;ext(u:QR u)(t:QR t)(h:QR h)(S1:kM (X:=X) (pos:=a3) (pos':=a1) (i:=j) L.nd g (.inl d) (o_ (x:=w0) (j:=J) (pos:=a2)) (hf:=.inr d))(S2:kM (X:=X) (pos:=b3) (pos':=b1) (i:=l) L.nd e (.inl c) (El (j:=I) (pos:=b2)) (hf:=.inr c))(S3:I_ (X:=X) (C:=C) (tb:=tb) (pos:=pos) (i:=i) (j:=j) (l:=l) (E1:=E1) hk hf Hs L.nd s g e o.1 o.2.1 o.2.2 q d c u.1 u.2 hb)(T:D3 (pos:=v) (rest:=[]) (N6 (pos:=c3) (Jl (j:=G) (pos':=c2) (iP (pos:=c1) e (.inl c) h.1 h.2))) (zK (pos:=v) (tf (pos:=U) (s_ (tE (X:=X) (p:=c4) (pos:=V) (E:=E0) Fal L.room (L.gl O) A aah aau .nil (L8 (X:=X)) (b0 (iP (pos:=Y) e (.inl c) h.1 h.2) cZ) (dS da))))))(S4:vI (X:=X) (pos:=G5) T.pt (gA (mL (X:=X) (pos:=G6) (o_ (x:=w1) (j:=B) (pos:=R)))) tj)(S5:mL (X:=X) (pos:=Q) (iP (X:=X) (i:=j) (pos:=d1) g (.inl d) t.1 t.2));refine gS.imp (cG S1 (cG S2 (cG S3 (cG S4 (gA S5))))) λD m H hq=>?_;ext(⟨hg,q1,q2⟩:hq);refine⟨M _ _ _ hg λb a e1 e2 sm nr=>?_,λea a b he xy e1 e2=>?_⟩
 ·refine⟨.bX,e2,false,rfl,?_⟩;exact JM ⟨_,e1,q1 nr a sm⟩
 ·refine⟨.ref ea,e2,true,rfl,?_⟩;show(if true=true then _ else _);rw[zac rfl];refine⟨_,e2,ea,rfl,aT,λr sm=>⟨true,rfl,?_⟩⟩;exact JM ⟨_,e1,q2 a he r ((aL.upd xy).trans sm)⟩
end
structure xr(P:aG)(w:World)(K:av)(mg:aU)(base:Heap)(k:Nat)(C:Addr)(y:Str):Prop where
 ex:∃(f:Addr) (fd:hA) (ps:aq),fQ P w K mg base uR k f fd ps (sO C)/\mg y=↥(.ref f)/\hO K (.ref f)=true/\Binds K fd ps []
def xr.u{k:Nat}{y:Str}(h:xr P w K mg base k C y)(a:k<=k':=by decide):xr P w K mg base k' C y:=by
 ext(⟨f,d,ps,c,b⟩:h.ex);exact⟨f,d,ps,c.mono a,b⟩
meta def MS(l:List (Str×Bool)):Str->Option Bool:=λx=>if x = "ValueError" then ↥true else l.lookup x
theorem bO.look{P:Str->Bool->Prop}:∀{l:List (Str×Bool)},bO (λp=>P p.1 p.2) l->∀x b,l.lookup x=↥b->P x b/\(x,b)∈l
 |[],_,x,b,h=>nomatch h
 | (y,c)::l,a,x,b,h=>by
  rw[zan]at h;by_cases e:x=y
  ·subst e;rw[zbd]at h;cases h;exact⟨a.1,aag⟩
  ·rw[beq_eq_false_iff_ne.mpr e]at h;ext(⟨g,d⟩:bO.look a.2 x b h);exact⟨g,aaj _ d⟩
def gB(sc:Scope)(x:Str):Bool:=fI sc x&&!(x==⇑9)
def alB(sc:Scope)(err told:Str)(l:List (Str×Bool)):Bool:=Vy [err,told] [err] sc&&(decide (sc.names.lookup err=↥.local)&&(decide (sc.names.lookup told=↥.local)&&(yF err&&(yF told&&(fI sc "isinstance" && (gB sc "ValueError" && l.all λp=>gB sc p.1))))))
inductive X1(st:Stmt)(err told:Str)(l:List (Str×Bool))(b1 b2 b3 b4 b5:List Bool):Prop
 |mk {a b r:Expr} {l1 l2 l3 l4 l5:aj} {pa pb po:Pos} {j:Nat} {pj pr Jf p1 Je Jb p2 LP LY L7 LU p3 LO LX HA LS p4 LN LW L6 LR p5 LM LV L5 LQ Ja:Pos} (hs:bC st=og told a b r l1 l2 l3 l4 l5 pa pb po j pj pr Jf p1 Je Jb p2 LP LY L7 LU p3 LO LX HA LS p4 LN LW L6 LR p5 LM LV L5 LQ Ja)
  (h0:(decide (wa err (MS l) a=↥true)&&(decide (wa err (MS l) b=↥true)&&(decide (eG err (MS l) l1=↥b1)&&(decide (eG err (MS l) l2=↥b2)&&(decide (eG err (MS l) l3=↥b3)&&(decide (eG err (MS l) l4=↥b4)&&(decide (eG err (MS l) l5=↥b5)&&cc ⟨aE st,[err,told],λ_=>none,["len"],[],WS⟩ yR r)))))))=true):X1 st err told l b1 b2 b3 b4 b5
section
variable {P:aG}{w:World}{K:av}{h base:Heap}{mg:aU}(X:K.In h)(G:h.Ns cm mg){C:Addr}⦃x:Str⦄⦃st:Stmt⦄
include X G
theorem VO⦃err told:Str⦄⦃l:List (Str×Bool)⦄⦃z v u t s:List Bool⦄(E:XC K C)(k:Nat)(d:Df K x st)(hl:bO (λp:Str×Bool=>∃g,eD K cm p.1=↥↥(.ref g)/\ci K (.ref C) (.ref g)=↥p.2) l)(H:ci K (.ref C) (.type "ValueError")=↥true)(M:mg "isinstance" = none)(J:mg "ValueError" = none)(L:mg "len" = none)
  (c:alB (aE st) err told l=true) (JW:X1 st err told l z v u t s) (hlen:z.length+v.length+u.length+t.length+s.length<=100) (B:bg (λ_ _=>none) yR [none,↥(.fz\((z++v++u++t++s).map DI.D.bl))]=ok (.bl true)) (hb:∀(O n I:Value) (an:Option Addr) (fN ct:Value) (m:aw),m.length=[err].length->Ag (hP x x (eJ st) (bC st) (aE st) .none O n I an fN ct) ⟨m,[]⟩=pure ([err].zip m):=by exact λ_ _ _ _ _ _=>u1 λ_=>rfl):xr P w K mg base (k+1) C x:=by
 ext(⟨f,fd,A,a⟩:d);cases JW with
 |mk hs i =>
 ext(⟨i1,i⟩:aC i)(⟨Y,i⟩:aC i)(⟨V,i⟩:aC i)(⟨U,i⟩:aC i)(⟨T,i⟩:aC i)(⟨S,i⟩:aC i)(⟨R,Q⟩:aC i)(⟨c1,c⟩:aC c)(⟨c2,c⟩:aC c)(⟨c3,c⟩:aC c)(⟨r,c⟩:aC c)(⟨q,c⟩:aC c)(⟨c6,c⟩:aC c)(⟨o,c8⟩:aC c)(⟨r,V6⟩:aC r)(⟨q,G4⟩:aC q)(⟨o,Q1⟩:aC o);refine⟨f,fd,[err],He (k:=k) A (wq c1) hs (aac i1) (aac Y) (aac V) (aac U) (aac T) (aac S) (aac R) Q (aac c2) (aac c3) (dS r) (dS V6) (dS q) (dS G4) (bO.mem (l:=[("len" : Str)]) ⟨L,trivial⟩) E c6 M (λy b j=>?_) ([i8]\aav hlen ⇑4) B,abZ X G a,A.kp,A.binds hb⟩;unfold MS at j;by_cases e:y = "ValueError"
 ·subst e;rw[zac rfl]at j;cases j;exact⟨⟨o,dS Q1⟩,.inr ⟨"ValueError",J,by decide +kernel,by decide +kernel,H⟩⟩
 ·rw[zab e]at j;ext(⟨⟨g,h1,h2⟩,h3⟩:bO.look (P:=λy b=>∃g,eD K cm y=↥↥(.ref g)/\ci K (.ref C) (.ref g)=↥b) hl y b j)(⟨h4,h5⟩:aC (hX.mp c8 _ h3));exact⟨⟨h4,dS h5⟩,.inl ⟨g,abZ X G h1,h2⟩⟩
end
inductive Hu(mg:aU)(base:Heap)(sc:Scope)(C:Addr)(n y z w:Str):List eO->Prop
 |here {h:eO} {hs:List eO} {x:Str} (v:Ni n y z h=↥(x,w)) (O:qp x C mg base) (g:gB sc x=true):Hu mg base sc C n y z w (h::hs)
 |next {h:eO} {hs:List eO} {x w':Str} {B:Addr} (v:Ni n y z h=↥(x,w')) (O:qp x B mg base) (OS:uK C B false base) (g:gB sc x=true) (r:Hu mg base sc C n y z w hs):Hu mg base sc C n y z w (h::hs)
theorem Hu.ok{X:Cx}{S:Sx}{k:Nat}{Φ:aY}{C:Addr}{n y z w:Str}(L:Lk X S k Φ):∀{hs:List eO},Hu X.mg X.base S.sc C n y z w hs->y7 X C n y z w hs
 |_,.here v O g=>.here v O (L.gl (aC g).1) (dS (aC g).2)
 |_,.next v O a g r=>.next v O a (L.gl (aC g).1) (dS (aC g).2) (r.ok L)
meta def x4(N:aq)(j l:Nat)(w0:Str)(ds:aa):aV:=((ds.map some++ap (N.length - ds.length) none).set j ↥(.str w0)).set l ↥.bX
def A8{x qual:Str}{fd:hA}{k i j l:Nat}{bl:aq}{cs:List (Str×GK)}{px:Px}{O:Nat->Option Str}{m:aD}{c:CS}{n y z W w0 w1 X9:Str}{C0:Addr}{h0:eO}{hs:List eO}
  {j0 j1 j2 j3:Nat} {a1 a2 a3 b1 b2 b3 pos c1 c2 c3 c4 c5 c6 c7 c8 c9 G6 G5 d1 d2:Pos}
  (Fu:CF K x qual st f fd) (Y:e_ N ps (aE st)) (JW:bC st=SV y z W w0 w1 Bj (h0::hs) j0 j1 j2 j3 a1 a2 a3 b1 b2 b3 pos c1 c2 c3 c4 c5 c6 c7 c8 c9 G6 G5 d1 d2) (hn:W3 (aE st) N n y z W i j l=true)
  (FF:nZ px Φ) (Ph:Hq px Φ) (t5:∀y∈bl,mg y=none) (pQ:∀y i,(y,i)∈cs->∃u,mg y=↥u/\xp K i u) (qu:∀g y,O g=↥y->Ent P w K mg base k y (Φ g)) (ht:Im c=true) (hc:qj ⟨aE st,N,O,bl,cs,px⟩ c Bj=true)
  (H0:Hu mg base (aE st) C0 n y z X9 (h0::hs)) (A0:xr P w K mg base k C0 W)
  (hm:∀q r,m q=ok r->q.length=ps.length/\((r=.str w0/\∃G,ic Φ c (x4 N j l w0 q)=ok (.nx,G)/\G[j]?=↥↥(.str w0)/\G[l]?=↥↥.bX) \/
   ∃M C T J,r=.str M/\Hu mg base (aE st) C n y z M (h0::hs)/\xr P w K mg base k C W/\(∀g y,O g=↥y->(∃q,J g q)->jR P w K mg base k C y (J g))/\oP Φ J T c (x4 N j l w0 q))) :
  fQ P w K mg base uR (k+1) f fd ps (Hx K ps.length m):=by
 refine Fu.ok (N:=N) Y (λvs H Q E ⟨_,_,_,h,_⟩=>h) λfN A outer s H vs Q E hr uN=>?_;ext(⟨F,q,r,hl,rs,er,V⟩:uN)(⟨UZ,U4⟩:hm q r er)
 let X:=(jr uR P w K mg base N qual (aE st) f fN A outer s H E).ya
 have L:Lk X ⟨aE st,N,O,bl,cs,px⟩ k Φ:=⟨rfl,rfl,Y.nd,rfl,hr,t5,λg y h=>⟨(qu g y h).ex⟩,pQ,FF⟩
 have hpl:ps.length<=N.length:=by have:=aa5 l7 Y.pre;rw[zar]at this;left
 ext(I:vn (X:=X) (F:=F) (N:=N) (vs:=vs) (ds:=q) (H:=H) rfl ⋯ rs);have hjl:j<N.length:=(bi.mp (aac (aC (aC (aC hn).2).2).1)).1;have hll:l<N.length:=(bi.mp (aac (aC (aC (aC (aC hn).2).2).2).1)).1;ext(⟨τ1,uH⟩:I.set (i:=j) (v:=.str w0) (d:=.str w0) ⟨λ_=>none,λ_ _ h=>by simp at h,.str w0⟩ (by simp;left))(⟨τ2,sA⟩:uH.set (i:=l) (v:=.bX) (d:=.bX) ⟨λ_=>none,λ_ _ h=>by simp at h,.bX⟩ (by simp;left));rw[JW];ext((⟨rfl,G,e1,e2,e3⟩|⟨M,C,T,J,rfl,Hs,EA,fe,e1⟩):U4)
 ·ext(⟨fa,fda,psa,Fa,ma,ka,ba⟩:A0.ex);refine⟨_,uU (X:=X) (nrm:=True) (E1:=λ_ _ _=>False) (good:=λB H=>∃R p b a,SI X F R p b B H/\ic Φ c b=ok (.nx,a)/\a[j]?=↥↥(.str w0)/\a[l]?=↥↥.bX)
   (tb:=λD B H=>∃R p b a,SI X F R p b B H/\ic Φ c b=ok (.nx,a)/\∀e o R' t,SI X F R' t a e o->D.nx e o) L rfl rfl hn (H0.ok L) Fa ba ka ma (λpn HV _=>?_) (λD B o hg hd=>?_),⟨_,_,_,_,sA,e1,e2,e3⟩,λ_ o sm=>?_,λ_ z=>z.elim⟩
  ·have Lt:nh (Cx.nK X pn HV).ya ⟨aE st,N,O,bl,cs,px⟩ k Φ:=⟨⟨L.sc,L.N,L.nd,L.calm,L.room,L.bl,λf x h=>⟨(L.fn f x h).ex⟩,L.cs,L.pr⟩,λ_=>rfl,PL,Y.kind,Ph⟩
   refine gS.imp (gA (PS.ya (xU (F:=F) Lt c Bj hc))) λD B H ⟨R,p,b,a,I,ev,V⟩=>⟨R,p,b,_,I.nK.ya,ev,λe o R' t U _=>V e o R' t (by have S:=U.Sk;exact⟨S.len,S.rep,S.rt,S.rh,S.rf,S.th,S.t0,S.same⟩)⟩
  ·ext(⟨R,p,b,a,I,ev,f2,f3⟩:hg);refine⟨R,p,b,a,I,ev,λe o R' t U=>?_⟩;ext(⟨v1,g1,r1⟩:U.rep j _ f2)(⟨v2,g2,r2⟩:U.rep l _ f3);cases r1;cases r2;exact hd e o g1 g2 U.same trivial
  ·exact V (.str w0) o sm ⟨λ_=>none,λ_ _ h=>by simp at h,.str w0⟩
 ·ext(⟨fa,fda,psa,Fa,ma,ka,ba⟩:EA.ex);refine⟨_,uU (X:=X) (nrm:=False) (E1:=λc _ o=>c=.ref C/\aL X.H₀ o) (good:=λB H=>∃R p b,SI X F R p b B H/\oP Φ J T c b)
   (tb:=mC X F (oP Φ J T c)) L rfl rfl hn (Hs.ok L) Fa ba ka ma (λpn HV hx=>?_) (λD B o hg hd=>hg),⟨_,_,_,sA,e1⟩,λz=>z.elim,λo hE kF sm=>?_⟩
  ·exact gS.imp (gA (VI (X:=Cx.nK X pn HV) (F:=F) (n:=T) ⟨L.sc,L.N,L.nd,L.calm,L.room,L.bl,λf x h=>⟨(L.fn f x h).ex⟩,L.cs,L.pr⟩ hx fe ht hc)) λD B H ⟨R,p,b,I,hb⟩=>⟨R,p,b,I.nK,hb⟩
  ·exact V (.str M) kF (hE.2.trans sm) ⟨λ_=>none,λ_ _ h=>by simp at h,.str M⟩
end DI
end
section
namespace DI
open PySem (Str)
def pM(i j:Int):(i==j)=decide (i=j):=rfl
section
variable (g:Fl->Fl)(p:Fl->Bool)
nonrec def Jz(b:Bool):aJ g (.bl b)=.bl b:=rfl
nonrec def EW(b:Int):aJ g ↑b=.int b:=rfl
nonrec def T3:aJ g .bX=.bX:=rfl
nonrec def T2(s:Str):aJ g (.str s)=.str s:=rfl
nonrec def ET(ds:aa):aJ g (.tup ds)=.tup (ao g ds):=rfl
nonrec def T4(f:Fl)(ds:aa):aJ g (.lst f ds)=.lst (g f) (ao g ds):=rfl
nonrec def T5(f:Fl)(a:az)(vs:aa):aJ g (.cF f a vs)=.cF (g f) a (ao g vs):=rfl
nonrec def Rx:ao g []=[]:=rfl
nonrec def pz(d:D)(ds:aa):ao g (d::ds)=aJ g d::ao g ds:=rfl
nonrec def BF(a b:aa):ao g (a++b)=ao g a++ao g b:=by simp only[aN,zak]
nonrec def Ry(ds:aa):(ao g ds).length=ds.length:=by rw[aN,zaa]
def fT{a:Type}{e:a->D}(h:∀x,aJ g (e x)=e x)(xs:List a):ao g (xs.map e)=xs.map e:=by
 exact[aN,zah]\aaZ λx _=>h x
theorem dv{b:Type}{e:b->D}(h:∀x,aW p (e x)=false):∀a:List b,aR p (a.map e)=false
 |[]=>by rw[zbK,aR]
 |x::a=>by rw[zam,aR,h x,dv h a];rfl
nonrec def J_(b:Bool):aW p (.bl b)=false:=adm rfl
nonrec def pR(b:Int):aW p ↑b=false:=adm rfl
nonrec def Va:aW p .bX=false:=adm rfl
nonrec def U_(s:Str):aW p (.str s)=false:=adm rfl
nonrec def FR(ds:aa):aW p (.tup ds)=aR p ds:=adm rfl
nonrec def FT(f:Fl)(ds:aa):aW p (.lst f ds)=(p f||aR p ds):=adm rfl
nonrec def Vb(f:Fl)(a:az)(vs:aa):aW p (.cF f a vs)=(p f||aR p vs):=adm rfl
nonrec def RM:aR p []=false:=adm rfl
nonrec def PB(d:D)(ds:aa):aR p (d::ds)=(aW p d||aR p ds):=adm rfl
nonrec def B8:∀a b:aa,aR p (a++b)=(aR p a||aR p b)
 |[],b=>by simp
 |d::a,b=>by simp[B8 a b,Bool.or_assoc]
nonrec def kQ(ns:ae):ao g (ns.map D.int)=ns.map D.int:=fT g (EW g) ns
nonrec def yu(ns:ae):aR p (ns.map D.int)=false:=dv p (pR p) ns
nonrec def BE(ns:List Bool):ao g (ns.map D.bl)=ns.map D.bl:=fT g (Jz g) ns
nonrec def B7(ns:List Bool):aR p (ns.map D.bl)=false:=dv p (J_ p) ns
nonrec def RB(t:Ty)(d:D):eF t (aJ g d)=eF t d:=by cases d<;>cases t<;>rfl
end
nonrec def Qa:bq .ow=.al:=rfl
nonrec def Qb:bq .fz=.fz:=rfl
nonrec def Qc:bq .al=.al:=rfl
nonrec def P_:bq .sc=.sc:=rfl
nonrec def P7:aK .ow=.fz:=rfl
nonrec def P8:aK .fz=.fz:=rfl
nonrec def P9:aK .al=.fz:=rfl
nonrec def P6:aK .sc=.sc:=rfl
nonrec def Qp:gW .ow=.ow:=rfl
nonrec def Qq:gW .fz=.al:=rfl
nonrec def Qr:gW .al=.al:=rfl
nonrec def Qo:gW .sc=.sc:=rfl
nonrec def Ql:bS .ow=false:=rfl
nonrec def Qm:bS .fz=false:=rfl
nonrec def Qn:bS .al=true:=rfl
nonrec def Qk:bS .sc=false:=rfl
nonrec def Qh:cq .ow=true:=rfl
nonrec def Qi:cq .fz=false:=rfl
nonrec def Qj:cq .al=false:=rfl
nonrec def Qg:cq .sc=false:=rfl
nonrec def Qd:qL .ow=false:=rfl
nonrec def Qe:qL .fz=false:=rfl
nonrec def Qf:qL .al=false:=rfl
meta def ak(ns:ae):aa:=ns.map D.int
meta def nX(ns:List Bool):aa:=ns.map D.bl
nonrec def rJ(ns:ae):(ak ns).length=ns.length:=ab_ ..
nonrec def V7(ns:List Bool):(nX ns).length=ns.length:=ab_ ..
nonrec def BW:ak []=[]:=rfl
nonrec def yk(n:Int)(ns:ae):ak (n::ns)=.int n::ak ns:=rfl
nonrec def O8(ns:ae)(n:Int):ak ns++[.int n]=ak (ns++[n]):=by simp[ak]
nonrec def BX(ns:ae)(i:Nat):(ak ns)[i]?=ns[i]?.map D.int:=bv ..
nonrec def fg(g:Fl->Fl)(ns:ae):ao g (ak ns)=ak ns:=kQ g ns
nonrec def wj(p:Fl->Bool)(ns:ae):aR p (ak ns)=false:=yu p ns
nonrec def OE(g:Fl->Fl)(ns:List Bool):ao g (nX ns)=nX ns:=BE g ns
nonrec def PD(p:Fl->Bool)(ns:List Bool):aR p (nX ns)=false:=B7 p ns
nonrec def adV(i j:Int):dh .add ↑i ↑j=ok ↑(i+j):=rfl
nonrec def adU(i j:Int):dh .sub ↑i ↑j=ok ↑(i - j):=rfl
def kC{i j:Int}(h:gG i j=true):dh .mul ↑i ↑j=ok ↑(i*j):=abE h
def iX{i j:Int}(h:AJ j=true):dh .fdiv ↑i ↑j=ok ↑(i.fdiv j):=abE h
nonrec def su{i j:Int}(h:j≠0):dh .mod ↑i ↑j=ok ↑(i.fmod j):=abE (abC h)
def V9{i j:Int}(h:vJ i j=true):dh .shl ↑i ↑j=ok ↑(i*2 ^ j.toNat):=abE h
def MV{i j:Int}(h:vJ i j=true):dh .pow ↑i ↑j=ok ↑(i ^ j.toNat):=abE h
nonrec def aco(i:Int):Jw ↑i=ok ↑(-i):=rfl
def mulOk_of{i j:Int}(h:i.natAbs<2 ^ 9000)(h':j.natAbs<2 ^ 9000):gG i j=true:=by
 simp only[gG,big,h,h',decide_true,yaH,zbt]
def pC{n:Nat}(h:n<2 ^ 64):n<2 ^ 9000:=aam h (abB ⇑4 ⇑4)
def tL{i:Int}(j:Int)(h:i.natAbs<2 ^ 64):gG i j=true:=by simp only[gG,h,decide_true,ya7]
def zY{j:Int}(i:Int)(h:j.natAbs<2 ^ 64):gG i j=true:=by simp only[gG,h,decide_true,ya7,zbt]
def gm{j:Int}(a:j≠0)(h:j.natAbs<2 ^ 9000):AJ j=true:=by
 simp only[AJ,big,h,decide_true,yaG,decide_eq_true_eq];exact a
nonrec def K4{i j:Int}(h:j.natAbs<2 ^ 64):dh .mul ↑i ↑j=ok ↑(i*j):=kC (zY i h)
nonrec def XR{i j:Int}(h:i.natAbs<2 ^ 64):dh .mul ↑i ↑j=ok ↑(i*j):=kC (tL j h)
nonrec def V_{i j:Int}(a:j≠0)(h:j.natAbs<2 ^ 64):dh .fdiv ↑i ↑j=ok ↑(i.fdiv j):=iX (gm a (pC h))
def Q0{a b:D}(d:cg 40 a=true)(c:cg 40 b=true):kZ .eq a b=ok (.bl (lr a b)):=by
 show(if cg 40 a&&cg 40 b then _ else _)=_;rw[d,c];rfl
def V3{a b:D}(d:cg 40 a=true)(c:cg 40 b=true):kZ .ne a b=ok (.bl (!lr a b)):=by
 show(if cg 40 a&&cg 40 b then _ else _)=_;rw[d,c];rfl
nonrec def gD(n:Nat)(i:Int):cg n ↑i=true:=by cases n<;>rfl
nonrec def Zc(n:Nat)(i:Bool):cg n (.bl i)=true:=by cases n<;>rfl
nonrec def W2(n:Nat):cg n .bX=true:=by cases n<;>rfl
nonrec def WZ(n:Nat)(i:Str):cg n (.str i)=true:=by cases n<;>rfl
nonrec def tH(n:Nat)(ds:aa):cg (n+1) (.tup ds)=ds.all (cg n):=rfl
nonrec def WY(n:Nat)(f:Fl)(ds:aa):cg (n+1) (.lst f ds)=ds.all (cg n):=rfl
nonrec def Y6(i j:Int):kZ .eq ↑i ↑j=ok (.bl (decide (i=j))):=by rw[Q0 (gD _ _) (gD _ _)];show ok (D.bl (i==j))=_;rw[pM]
nonrec def Y5(i j:Int):kZ .ne ↑i ↑j=ok (.bl (!decide (i=j))):=by rw[V3 (gD _ _) (gD _ _)];show ok (D.bl (!(i==j)))=_;rw[pM]
nonrec def ae7(i j:Int):kZ .lt ↑i ↑j=ok (.bl (decide (i<j))):=rfl
nonrec def ae8(i j:Int):kZ .le ↑i ↑j=ok (.bl (decide (i<=j))):=rfl
nonrec def ae9(i j:Int):kZ .gt ↑i ↑j=ok (.bl (decide (j<i))):=rfl
nonrec def ae_(i j:Int):kZ .ge ↑i ↑j=ok (.bl (decide (j<=i))):=rfl
nonrec def acI(ds:aa)(i:Int):HC (.tup ds) ↑i=xh ds i:=rfl
nonrec def acJ(f:Fl)(ds:aa)(i:Int):HC (.lst f ds) ↑i=xh ds i:=rfl
variable {ds xs:aa}
def uF{n:Nat}{d:D}(h:ds[n]?=↥d):xh ds (n:Int)=ok (aJ bq d):=by
 have a:n<ds.length:=(bi.mp h).1;have e:Fp ds.length (n:Int)=↥n:=by unfold Fp;rw[zac ⋯,zac ⋯];rfl
 unfold xh;rw[e,Option.bind_some,h]
def at_of{i:Int}{d:D}(a:0<=i)(h:ds[i.toNat]?=↥d):xh ds i=ok (aJ bq d):=by
 have:=uF h
 rwa [show((i.toNat:Nat):Int)=i by left]at this
nonrec def abt(d:D)(ds:aa):xh (d::ds) 0=ok (aJ bq d):=uF (n:=0) rfl
nonrec def ahb(a d:D)(ds:aa):xh (a::d::ds) 1=ok (aJ bq d):=uF (n:=1) rfl
nonrec def aha(a b d:D)(ds:aa):xh (a::b::d::ds) 2=ok (aJ bq d):=uF (n:=2) rfl
nonrec def Xz(ds:aa):qU .len [.tup ds]=ok ↑ds.length:=rfl
nonrec def XA(f:Fl)(ds:aa):qU .len [.lst f ds]=ok ↑ds.length:=rfl
nonrec def ads(i:Int):qU .abs [.int i]=ok ↑i.natAbs:=by
 show ok (D.int (if i<0 then -i else i))=_;congr 2;split<;>left
nonrec def VE(f:Fl)(ds:aa):qU .list1 [.lst f ds]=ok (.ow\(ao bq ds)):=rfl
nonrec def VD(ds:aa):qU .list1 [.tup ds]=ok (.ow\(ao bq ds)):=rfl
nonrec def Xy(f:Fl)(ds:aa):qU .tuple1 [.lst f ds]=ok (.tup (ao bq ds)):=rfl
nonrec def wz(f:Fl)(ns:ae):qU .jv [.lst f (ak ns)]=ok ↑ns.sum:=by
 show(match intsOf (ns.map D.int)with|↥ns=>_|none=>_)=_;rw[bY]
nonrec def adq(f:Fl)(bs:List Bool):qU .all1 [.lst f (nX bs)]=ok (.bl (bs.all id)):=by
 show(match jJ (bs.map D.bl)with|↥ns=>_|none=>_)=_;rw[nc]
variable {ns:ae}
nonrec def Kg(h:ns.length<64):qU .iN [.tup (ak ns)]=ok (.ow\(ak (sortI ns))):=by
 show vm _=_;unfold vm ak;exact[bY]\abE h
nonrec def Qt(h:ns.length<4000):z4 (.tup (ak ns))=ok ↑(uj ns).length:=by
 show(match intsOf (ns.map D.int)with|↥ns=>_|none=>_)=_;exact[bY]\abE h
nonrec def AA(i j:Int):lr ↑i ↑j=decide (i=j):=by show(i==j)=_;rw[pM]
nonrec def aa9(i j:Bool):lr (.bl i) (.bl j)=(i==j):=rfl
nonrec def XE(a b:aa):lr (.tup a) (.tup b)=fM a b:=rfl
nonrec def Km(f g:Fl)(a b:aa):lr (.lst f a) (.lst g b)=fM a b:=rfl
nonrec def VM:fM [] []=true:=rfl
nonrec def Ce(a b:D)(as bs:aa):fM (a::as) (b::bs)=(lr a b&&fM as bs):=rfl
theorem p9:∀{as bs:aa},fM as bs=true->as.length=bs.length
 |[],[],_=>rfl
 |[],_::_,h=>(aad h).elim
 |_::_,[],h=>(aad h).elim
 |a::as,b::bs,h=>by
  replace h:(_&&_)=true:=h;rw[zag]at h;rw[zae,zae,p9 h.2]
theorem wD{b:Type}{e:b->D}[DecidableEq b](h:∀x y,lr (e x) (e y)=decide (x=y)):∀xs a:List b,fM (xs.map e) (a.map e)=decide (xs=a)
 |[],[]=>by simp
 |[],y::a=>by
  cases z:fM ([].map e) ((y::a).map e)with
  |true=>have:=p9 z;simp at this
  |false=>simp
 |x::xs,[]=>by
  cases z:fM ((x::xs).map e) ([].map e)with
  |true=>have:=p9 z;simp at this
  |false=>simp
 |x::xs,y::a=>by
  rw[zam,zam,Ce,h,wD h xs a];by_cases e1:x=y<;>by_cases e2:xs=a<;>simp[e1,e2]
def oj{a:Type}{e:a->D}{n:Nat}(h:∀x,cg n (e x)=true)(xs:List a):(xs.map e).all (cg n)=true:=by
 exact[zaW]\hX.mpr λx _=>h x
theorem bV{bind:D->O aV}{test:aV->O Bool}{el:aV->O D}{b:Type}{e:b->D}{g:b->D}:∀{xs:List b},(∀x∈xs,∃a,bind (e x)=ok a/\test a=ok true/\el a=ok (g x))->ji bind test el (xs.map e)=ok (xs.map g)
 |[],_=>rfl
 |x::xs,h=>by
  ext(⟨a,j,i,f⟩:h x (aag ..))(c:bV (xs:=xs) λy d=>h y (aaj _ d));rw[zam,ji,j,cM,i,cM,zac rfl,f,cM,c];rfl
theorem nF{bind:D->O aV}{test:aV->O Bool}{el:aV->O D}{b:Type}{e:b->D}{g:b->D}{t:b->Bool}:∀{xs:List b},(∀x∈xs,∃a,bind (e x)=ok a/\test a=ok (t x)/\(t x=true->el a=ok (g x)))->ji bind test el (xs.map e)=ok ((xs.filter t).map g)
 |[],_=>rfl
 |x::xs,h=>by
  ext(⟨a,k,j,i⟩:h x (aag ..))(c:nF (xs:=xs) λy d=>h y (aaj _ d));rw[zam,ji,k,cM,j,cM,XP];cases f:t x with
  |true=>rw[zac rfl,i f,cM,c,zac rfl];rfl
  |false=>rw[zab zal,c,zab zal]
section
variable {Φ:aY}{n:Nat}{t:Tg}{caps:aS}{ik:IK}{es bU:aA}{elt:CE}{ρ:aV}{xs items ds:aa}
def c_(f:b6 Φ es ρ=ok xs)(e:eP Φ ik xs=ok items)
  (c:ji (λd=>cn t d (bL n caps ρ)) (λa=>jh Φ bU a) (λa=>bg Φ elt a) items=ok ds) (b:ds.length<=cB):bg Φ (.comp n t caps ik es bU elt) ρ=ok (.ow\(ao gW ds)):=by
 show bd (b6 Φ es ρ) _=_;rw[f,cM,e,cM,c,cM,zac b]
end
def tS(Φ:aY)(ds:aa):eP Φ .seq [.tup ds]=ok (ao aK ds):=rfl
def dt(Φ:aY)(f:Fl)(ds:aa):eP Φ .seq [.lst f ds]=ok (ao aK ds):=rfl
def z_(Φ:aY){n:Int}(a:0<=n)(h:n<=1000000):eP Φ .nu [.int n]=ok ((eg n.toNat).map λ(k:Nat)=>D.int (k:Int)):=by
 show(if n<=(cB:Int) /\ -(cB:Int)<=n then _ else _)=_;have:(cB:Int)=1000000:=rfl;rw[zac ⋯]
def cA{n:Nat}(h:n<=1000000):n<=cB:=h
variable {Φ:aY}{ρ ρ1 ρ2:aV}
def fV{t:Tg}{it:CI}{b:ai}{items:aa}{r:O (Fo×aV)}(h:cD Φ it ρ=ok (items,ρ1))(h':dw (λd ρ=>cn t d ρ) (λρ=>bF Φ b ρ) items ρ1=r):ic Φ (.fr t it b) ρ=r:=by
 show bd (cD Φ it ρ) _=_;exact[h]\h'
def oz(bind:D->aV->O aV)(body:aV->O (Fo×aV))(ρ:aV):dw bind body [] ρ=ok (.nx,ρ):=rfl
def eQ{bind:D->aV->O aV}{body:aV->O (Fo×aV)}{x:D}{r:O (Fo×aV)}(c:bind x ρ=ok ρ1)(b:body ρ1=ok (.nx,ρ2))(a:dw bind body xs ρ2=r):dw bind body (x::xs) ρ=r:=by
 exact[dw,c,cM,b]\a
def F9{bind:D->aV->O aV}{body:aV->O (Fo×aV)}{x y:D}(b:bind x ρ=ok ρ1)(a:body ρ1=ok (.rt y,ρ2)):dw bind body (x::xs) ρ=ok (.rt y,ρ2):=by
 rw[dw,b,cM,a];rfl
def Um{a:CE}{n:Int}(h:bg Φ a ρ=ok ↑n)(c:0<=n)(b:n<=1000000):cD Φ (.nu a) ρ=ok ((eg n.toNat).map λ(k:Nat)=>D.int (k:Int),ρ):=by
 show bd (bg Φ a ρ) _=_;rw[h];show(if n<=(cB:Int) /\ -(cB:Int)<=n then _ else _)=_;have:(cB:Int)=1000000:=rfl;rw[zac ⋯]
def ZA{a:CE}(h:bg Φ a ρ=ok (.tup ds)):cD Φ (.seq a) ρ=ok (ao aK ds,if aR bS ds then pY (gK a) 0 ρ else ρ):=by
 show bd (bg Φ a ρ) _=_;rw[h,<- pW];show ok (_,if aW bS (.tup ds)then _ else _)=_;rw[FR]
def tT{a:CE}{f:Fl}(h:bg Φ a ρ=ok (.lst f ds)):cD Φ (.seq a) ρ=ok (ao aK ds,if (bS f||aR bS ds)then pY (gK a) 0 ρ else ρ):=by
 show bd (bg Φ a ρ) _=_;rw[h,<- pW];show ok (_,if aW bS (.lst f ds)then _ else _)=_;rw[FT]
meta def gk(t b:Int):Int:=if b<0 then -(f7 t b:Int)else(f7 t b:Int)
def Ov(t b:Int):Int:=t.fdiv (gk t b)
def Ow(t b:Int):Int:=b.fdiv (gk t b)
def Al{t b:Int}(h:b≠0):0<f7 t b:=Int.gcd_pos_of_ne_zero_right t h
def kW{t b:Int}(h:b≠0):gk t b≠0:=by
 have:=Al (t:=t) h;unfold gk;split<;>left
def PU{t b:Int}(h:b≠0):f7 t b<=b.natAbs:=yaY ⋯ (Nat.gcd_dvd_right _ _)
def Kv{t b:Int}(h:b≠0):(gk t b).natAbs<=b.natAbs:=by
 have:=PU (t:=t) h;unfold gk;split<;>left
def ph{t b:Int}(h:b≠0):∃g f:Int,t=gk t b*g/\b=gk t b*f/\Ov t b=g/\Ow t b=f/\1<=f/\f7 g f=1:=by
 ext(m:Al (t:=t) h);obtain⟨t1,i⟩:(f7 t b:Int)∣t:=Int.gcd_dvd_left ..;obtain⟨a,j⟩:(f7 t b:Int)∣b:=Int.gcd_dvd_right ..;have l:f7 t1 a=1:=by
  have e:f7 ((f7 t b:Int)*t1) ((f7 t b:Int)*a)=f7 t b*f7 t1 a:=by
   rw[Int.gcd_mul_left];simp
  rw[<- i,<- j]at e;have:f7 t b*1=f7 t b*f7 t1 a:=[TU]\e
  exact(Nat.eq_of_mul_eq_mul_left m this).symm
 by_cases k:b<0
 ·have d:gk t b = -(f7 t b:Int):=by simp[gk,k]
  have e1:t=gk t b*(-t1):=[d,yaq]\i
  have e2:b=gk t b*(-a):=[d,yaq]\j
  refine⟨-t1,-a,e1,e2,?_,?_,?_,[Int.gcd_neg,Int.neg_gcd]\l⟩
  ·unfold Ov
   conv=>lhs;arg 1;rw[e1]
   exact acN _ (kW h)
  ·unfold Ow
   conv=>lhs;arg 1;rw[e2]
   exact acN _ (kW h)
  ·have:a<0:=by
    by_cases c:a<0
    ·exact c
    ·have:0<=(f7 t b:Int)*a:=Int.mul_nonneg ⋯ ⋯;left
   left
 ·have d:gk t b=(f7 t b:Int):=by simp[gk,k]
  have e1:t=gk t b*t1:=[d]\i
  have e2:b=gk t b*a:=[d]\j
  refine⟨t1,a,e1,e2,?_,?_,?_,l⟩
  ·unfold Ov
   conv=>lhs;arg 1;rw[e1]
   exact acN _ (kW h)
  ·unfold Ow
   conv=>lhs;arg 1;rw[e2]
   exact acN _ (kW h)
  ·have:0<a:=by
    by_cases c:0<a
    ·exact c
    ·have:(f7 t b:Int)*a<=0:=Int.mul_nonpos_of_nonneg_of_nonpos ⋯ ⋯;left
   left
meta def qD(q:Rat):D:=.tup [.int q.num,.int q.den]
nonrec def EV(g:Fl->Fl)(q:Rat):aJ g (qD q)=qD q:=by unfold qD;simp
nonrec def PH(g:Fl->Bool)(q:Rat):aW g (qD q)=false:=by unfold qD;simp
meta def fc(a:bB):aa:=a.map qD
nonrec def WQ(a:bB):(fc a).length=a.length:=ab_ ..
nonrec def WO:fc []=[]:=rfl
nonrec def Tf(q:Rat)(a:bB):fc (q::a)=qD q::fc a:=rfl
nonrec def Te(a:bB)(q:Rat):fc a++[qD q]=fc (a++[q]):=by simp[fc]
nonrec def WR(a:bB)(i:Nat):(fc a)[i]?=a[i]?.map qD:=bv ..
nonrec def WN(a:bB)(i:Nat)(q:Rat):(fc a).set i (qD q)=fc (a.set i q):=by unfold fc;rw[List.map_set]
nonrec def T1(g:Fl->Fl)(a:bB):ao g (fc a)=fc a:=fT g (EV g) a
nonrec def U9(g:Fl->Bool)(a:bB):aR g (fc a)=false:=dv g (PH g) a
def vN(n:Nat)(q:Rat):cg (n+1) (qD q)=true:=by
 unfold qD;rw[tH,zas,zas,gD,gD];rfl
nonrec def acF(q:Rat):HC (qD q) ↑0=ok ↑q.num:=by unfold qD;simp
nonrec def acE(q:Rat):HC (qD q) ↑1=ok ↑q.den:=by unfold qD;simp
theorem uf{t b:Int}(f:b≠0):t.fdiv (gk t b)=(ei t b).num/\b.fdiv (gk t b)=((ei t b).den:Int):=by
 ext(⟨a,c,e1,e2,k,j,l,i⟩:ph (t:=t) f)(hd:kW (t:=t) f);have e:ei t b=ei a c:=by
  generalize gk t b=d at *;exact[e1,e2]\Rat.divInt_mul_left hd
 obtain⟨n,rfl⟩:∃n:Nat,c=(n:Int):=⟨c.toNat,by left⟩
 have h:a.natAbs.Coprime n:=by
  have:kb a.natAbs n=1:=by simpa [f7]using i
  exact this
 have g:n≠0:=by left
 have e3:ei a (n:Int)=⟨a,n,g,h⟩:=ZO.symm;exact[e,e3]\⟨k,j⟩
def Bv(q:Rat):(q.den:Int)≠0:=by have:=q.den_pos;left
def LI(q:Rat):(1:Int)<=q.den:=by have:=q.den_pos;left
def mK(q:Rat):ei q.num q.den=q:=Rat.num_divInt_den q
def zJ{t b:Int}(a:b≠0):(ei t b).num.natAbs<=t.natAbs/\(ei t b).den<=b.natAbs:=by
 ext(⟨d,c,e1,e2,h,g,k,j⟩:ph (t:=t) a)(⟨e,i⟩:uf (t:=t) a);have hd:1<=(gk t b).natAbs:=by have:=kW (t:=t) a;left
 rw[show t.fdiv (gk t b)=d from h]at e;rw[show b.fdiv (gk t b)=c from g]at i;refine⟨?_,?_⟩
 ·rw[<- e];have:t.natAbs=(gk t b).natAbs*d.natAbs:=by rw[<- zbn,<- e1]
  exact[this]\O1 _ hd
 ·have f:(ei t b).den=c.natAbs:=by left
  rw[f];have:b.natAbs=(gk t b).natAbs*c.natAbs:=by rw[<- zbn,<- e2]
  exact[this]\O1 _ hd
def LJ(p q:Rat):p*q=ei (p.num*q.num) (p.den*q.den):=by
 conv=>lhs;rw[<- mK p,<- mK q]
 exact Rat.divInt_mul_divInt _ _
def Sm(k:Nat)(q:Rat):Prop:=q.num.natAbs<2 ^ k/\q.den<2 ^ k
def Sm.mono{k l:Nat}{q:Rat}(h:Sm k q)(a:k<=l):Sm l q :=
 ⟨aam h.1 (abB ⇑4 a),aam h.2 (abB ⇑4 a)⟩
def gC{a b k l:Nat}(h:a<2 ^ k)(h':b<2 ^ l):a*b<2 ^ (k+l):=by
 exact[Nat.pow_add]\Nat.mul_lt_mul'' h h'
section
variable {k l:Nat}{p q:Rat}
theorem Sm.den(h:Sm k p)(h':Sm l q):((p.den:Int)*q.den).natAbs<2 ^ (k+l):=by
 exact[zbn]\gC ⇑h.2 ⇑h'.2
def Sm.mul(h:Sm k p)(h':Sm l q):Sm (k+l) (p*q):=by
 have a:(p.den:Int)*q.den≠0:=yas (Bv p) (Bv q);ext(⟨c,b⟩:zJ (t:=p.num*q.num) a);rw[<- LJ]at c b;have e:(p.num*q.num).natAbs<2 ^ (k+l):=[zbn]\gC h.1 h'.1
 ext(d:h.den h');exact⟨by left,by left⟩
def Sm.big(h:Sm k p)(a:k<=9000):p.num.natAbs<2 ^ 9000/\(p.den:Int).natAbs<2 ^ 9000:=by
 have:=h.mono a;exact⟨this.1,⇑this.2⟩
end
def Bm{t b:Int}{k:Nat}(a:b≠0)(d:t.natAbs<2 ^ k)(c:b.natAbs<2 ^ k):Sm k (ei t b):=by
 ext(⟨f,e⟩:zJ (t:=t) a);exact⟨by left,by left⟩
def dN(d:D):Bool:=eF .int d&&!eF .bool d
def eV(m:aD):Prop:=∀d,m [d]=ok (.bl (dN d))
meta def iW:ai:=[.ret (.and [(.qM (.v 0) .int),(.not (.qM (.v 0) .bool))])]
def xZ(Φ:aY):eV (mk Φ 1 1 iW):=by
 intro d;simp[mk_eq,iW,dN]
def p6(a:Int){b:Int}(h:b≠0):(a.fmod b).natAbs<b.natAbs:=by
 ext((c|c):Vd h)
 ·ext(e:Int.neg_fmod_neg a b)(f:adB (-a) (show 0 < -b by left))(d:ad7 (-a) (show 0 < -b by left));left
 ·ext(f:adB a c)(d:ad7 a c);left
def F4(a b:Int):f7 b (a.fmod b)=f7 a b:=by
 rw[Int.fmod_def,Int.gcd_sub_mul_left_right,Int.gcd_comm]
def bJ(m:aD):Prop:=∀a b:Int,m [.int a,.int b]=ok ↑(f7 a b)
meta def C9:CS:=.Lm (.cmp .ne (.v 1) ↑0) [.asg (.nm 2) (.bin .mod (.v 0) (.v 1)),.asg (.nm 0) (.v 1),.asg (.nm 1) (.v 2)]
def dA:ai:=[C9,.ret (.bf .abs [(.v 0)])]
def KV(Φ:aY):∀(n:Nat) (a b:Int) (r:aM),b.natAbs<=n->∃(g:Int) (d:aM),ic Φ C9 [↥↑a,↥↑b,r]=ok (.nx,[↥↑g,↥↑0,d])/\g.natAbs=f7 a b:=by
 intro n;induction n with
 |zero =>
  intro a b r h;have c:b=0:=by left
  subst c;refine⟨a,r,?_,by simp⟩;exact[C9,qY]\iJ ⇑5
 |succ n f =>
  intro a b r h;by_cases c:b=0
  ·subst c;refine⟨a,r,?_,by simp⟩;exact[C9,qY]\iJ ⇑5
  ·ext(j:p6 a c)(⟨g,d,e,i⟩:f b (a.fmod b) ↥↑(a.fmod b) ⋯);refine⟨g,d,?_,by rw[i,F4]⟩;rw[C9,qY]at e ⊢;exact[-e]\oT (by simp[c])
def mH(Φ:aY):bJ (mk Φ 2 3 dA):=by
 intro a b;ext(⟨g,c,e,d⟩:KV Φ b.natAbs a b none (aao _));have e1:(g.natAbs:Int)=(f7 a b:Int):=by left
 simp[mk_eq,dA,e,e1]
def oM(m:aD):Prop:=∀t b:Int,b≠0->b.natAbs<2 ^ 9000->m [.int t,.int b]=ok (qD (ei t b))
def kE(m:aD):Prop:=oM m/\∀t:Int,m [.int t,.int 0]=↥(.error 0)
meta def cX:ai:=[.ifs (.cmp .eq (.v 1) ↑0) [.rs 0] [],.asg (.nm 2) (.call 1 [(.v 0),(.v 1)]),.ifs (.cmp .lt (.v 1) ↑0) [.asg (.nm 2) (.neg (.v 2))] [],.ret (.tup [(.bin .fdiv (.v 0) (.v 2)),(.bin .fdiv (.v 1) (.v 2))])]
def oE{t b:Int}(a:b≠0)(h:b.natAbs<2 ^ 9000)(x:Int):dh .fdiv ↑x ↑(gk t b)=ok ↑(x.fdiv (gk t b)) :=
 iX (gm (kW a) (aaV (Kv a) h))
def qF(Φ:aY)(d:bJ (Φ 1)):kE (mk Φ 2 3 cX):=by
 refine⟨λt b a h=>?_,λt=>by simp[mk_eq,cX]⟩;ext(⟨e1,e2⟩:uf (t:=t) a);unfold bJ at d;ext(g:oE (t:=t) a h t)(f:oE (t:=t) a h b);rw[qD,<- e1,<- e2];by_cases c:b<0
 ·have e:-(f7 t b:Int)=gk t b:=by simp[gk,c]
  simp[mk_eq,cX,a,d,c,e,g,f]
 ·have e:(f7 t b:Int)=gk t b:=by simp[gk,c]
  simp[mk_eq,cX,a,d,c,e,g,f]
meta def dZ:D->Bool
 |.tup [.int a,.int b]=>decide (1<=b)&&decide (f7 a b=1)
 |_=>false
def Ke(q:Rat):dZ (qD q)=true:=by
 ext(b:LI q);have a:f7 q.num q.den=1:=by
  have:=q.reduced;simpa [f7]using this
 simp[qD,dZ,b,a]
protected def wu{d:D}(h:dZ d=true):∃q,d=qD q:=by
 unfold dZ at h;split at h
 ·rename_i a b;simp only[zag,decide_eq_true_eq]at h;obtain⟨n,rfl⟩:∃n:Nat,b=(n:Int):=⟨b.toNat,by left⟩
  have c:a.natAbs.Coprime n:=by
   have:kb a.natAbs n=1:=by simpa [f7]using h.2
   exact this
  exact⟨⟨a,n,by left,c⟩,rfl⟩
 ·cases h
def kD(m:aD):Prop:=∀d,m [d]=ok (.bl (dZ d))
meta def b7:ai:=[.ifs (.or [(.not (.qM (.v 0) .tuple)),(.cmp .ne (.bf .len [(.v 0)]) ↑2)]) [.ret (.bl false)] [],.ifs (.or [(.not (.call 0 [(.ix (.v 0) ↑0)])),(.not (.call 0 [(.ix (.v 0) ↑1)]))]) [.ret (.bl false)] [],.ret (.and [(.cmp .ge (.ix (.v 0) ↑1) ↑1),(.cmp .eq (.call 1 [(.ix (.v 0) ↑0),(.ix (.v 0) ↑1)]) ↑1)])]
def ju(g:Fl->Fl)(d:D):dN (aJ g d)=dN d:=by simp[dN]
def iI{d:D}(h:dN d=true):∃i,d=.int i:=by
 cases d<;>simp[dN,eF]at h ⊢
def rT{x y:D}(h:dN x=false\/dN y=false):dZ (.tup [x,y])=false:=by
 cases x<;>cases y<;>simp[dN,eF]at h<;>rfl
protected def B_(h:ds.length≠2):dZ (.tup ds)=false:=by
 unfold dZ;split
 ·rename_i e;cases e;simp at h
 ·rfl
def qE(Φ:aY)(f:eV (Φ 0))(k:bJ (Φ 1)):kD (mk Φ 1 1 b7):=by
 intro d;unfold eV at f;unfold bJ at k;have g:eF .tuple d=false->mk Φ 1 1 b7 [d]=ok (.bl false):=λh=>by simp[mk_eq,b7,h]
 cases d with
 |tup ds =>
  clear g;by_cases i:ds.length=2
  ·match ds,i with
   |[x,y],_ =>
    by_cases c:dN x=true
    ·by_cases e:dN y=true
     ·ext(⟨a,rfl⟩:iI c)(⟨b,rfl⟩:iI e);simp[mk_eq,b7,f,k,c,e,eF,dZ];by_cases j:a.gcd b=1
      ·simp[j]
      ·simp[j];left
     ·simp[mk_eq,b7,f,c,e,eF,ju,rT (.inr ⇑e)]
    ·simp[mk_eq,b7,f,c,eF,ju,rT (.inl ⇑c)]
  ·have l:¬ (ds.length:Int)=2:=by left
   simp[mk_eq,b7,eF,l,B_ i]
 |_=>exact g rfl
def me(m:aD):Prop:=∀p q,Sm 4000 p->Sm 4000 q->m [qD p,qD q]=ok (qD (p*q))
meta def oI(f:Nat):ai:=[.ret (.call f [(.bin .mul (.ix (.v 0) ↑0) (.ix (.v 1) ↑0)),(.bin .mul (.ix (.v 0) ↑1) (.ix (.v 1) ↑1))])]
section
variable (Φ:aY){f:Nat}(h2:oM (Φ f))
def abk{p q:Rat}(b:Sm 4000 p)(a:Sm 4000 q):(p.den:Int)*q.den≠0/\((p.den:Int)*q.den).natAbs<2 ^ 9000 :=
 ⟨yas (Bv p) (Bv q),aam (b.den a) (abB ⇑4 ⇑4)⟩
def Zh{p q:Rat}(g:Sm 4000 p)(e:Sm 4000 q):dh .mul ↑p.num ↑q.den=ok ↑(p.num*q.den)/\dh .mul ↑p.num ↑q.num=ok ↑(p.num*q.num)/\dh .mul ↑p.den ↑q.den=ok ↑(p.den*q.den)/\dh .mul ↑p.den ↑q.num=ok ↑(p.den*q.num):=by
 ext(⟨a,b⟩:g.big ⇑4)(⟨c,d⟩:e.big ⇑4);exact⟨kC (mulOk_of a d),kC (mulOk_of a c),kC (mulOk_of b d),kC (mulOk_of b c)⟩
include h2
theorem IL:me (mk Φ 2 2 (oI f)):=by
 intro p q h g;ext(⟨a,b,c,d⟩:Zh h g)(⟨n,k⟩:abk h g)(e:h2 (p.num*q.num) _ n k);rw[<- LJ]at e;simp[mk_eq,oI,b,c,e]
omit h2 in
end
def GQ{bind:D->O aV}{test:aV->O Bool}{el:aV->O D}{g:D->D}(h:∀x∈xs,∃ρ,bind x=ok ρ/\test ρ=ok true/\el ρ=ok (g x)):ji bind test el xs=ok (xs.map g):=by
 have:=bV (bind:=bind) (test:=test) (el:=el) (e:=λd=>d) (g:=g) (xs:=xs) h
 rwa [List.map_id']at this
def kS(g:Fl->Fl)(d:D):dZ (aJ g d)=dZ d:=by
 cases d with
 |tup ds =>
  match ds with
  |[]=>simp
  |[_]=>simp[dZ]
  |[x,y]=>cases x<;>cases y<;>simp[dZ]
  |_::_::_::_=>simp[dZ]
 |_=>simp[dZ]
def uw(d:D):Prop:=match d with
 |.lst _ ds=>ds.length<=1000000
 |.tup ds=>ds.length<64
 |_=>True
meta def kn(a:bB):Nat:=a.foldl (λb q=>mV b q.den) 1
def Fc(b:Nat)(q:Rat):(b:Int).fdiv (f7 b q.den)*q.den=(mV b q.den:Nat):=by
 have a:0<kb b q.den:=JZ _ q.den_pos;have e:f7 (b:Int) (q.den:Int)=kb b q.den:=by simp[f7]
 rw[e,zbf _ ⋯];have:((b:Int) / (kb b q.den:Nat))=((b / kb b q.den:Nat):Int):=(Ci ..).symm;rw[this,mV];have hd:kb b q.den∣b:=ZY ..;exact[zbL b,Nat.mul_div_assoc _ hd,zbL]\(yar ..).symm
theorem lcm_pos{b:Nat}(a:0<b)(q:Rat):0<mV b q.den:=Nat.lcm_pos a q.den_pos
theorem z7:∀(a:bB) (b k j:Nat),0<b->b<2 ^ j->(∀q∈a,Sm k q)->0<a.foldl (λb q=>mV b q.den) b/\a.foldl (λb q=>mV b q.den) b<2 ^ (j+k*a.length)/\b∣a.foldl (λb q=>mV b q.den) b/\∀q∈a,q.den∣a.foldl (λb q=>mV b q.den) b
 |[],b,k,j,h0,h1,_=>⟨h0,⇑h1,Nat.dvd_refl _,λq d=>nomatch d⟩
 |q::a,b,k,j,h0,h1,hs=>by
  ext(d:hs q aag);have g:mV b q.den<2 ^ (j+k):=aaV (yaB h0 q.den_pos) (gC h1 d.2);ext(⟨l,i,f,h⟩:z7 a (mV b q.den) k (j+k) (lcm_pos h0 q) g λp c=>hs p (aaj _ c));have e:j+k*(q::a).length=j+k+k*a.length:=by rw[zae,yb0];left
  refine⟨l,[e]\i,yaZ (Nat.dvd_lcm_left ..) f,λp c=>?_⟩;ext((rfl|c):c0.mp c)
  ·exact yaZ (Nat.dvd_lcm_right ..) f
  ·exact h p c
structure xC(k:Nat)(qs:bB):Prop where
 sm:∀q∈qs,Sm k q
 F_:k*qs.length<=3000
 len:qs.length<=1000
variable {qs:bB}
def xC.lcm{k:Nat}(h:xC k qs):0<kn qs/\kn qs<2 ^ (1+k*qs.length)/\∀q∈qs,q.den∣kn qs:=by
 ext(⟨c,b,_,a⟩:z7 qs 1 k 1 ⇑4 ⇑4 h.sm);exact⟨c,b,a⟩
def ye{n j:Nat}(h:n<2 ^ j)(a:j<=9000):n<2 ^ 9000:=aam h (abB ⇑4 a)
def fE(m:aD):Prop:=∀f qs k,xC k qs->m [.lst f (fc qs)]=ok ↑(kn qs)
meta def cE:ai:=[.asg (.nm 1) (.bin .mul (.bin .fdiv (.v 1) (.call 1 [(.v 1),(.ix (.v 2) ↑1)])) (.ix (.v 2) ↑1))]
def cV:ai:=[.asg (.nm 1) ↑1,.fr (.nm 2) (.seq (.v 0)) cE,.ret (.v 1)]
theorem AR(Φ:aY)(f:bJ (Φ 1))(x:aM):∀(qs:bB) (b k j:Nat) (z:aM),0<b->b<2 ^ j->j+k*qs.length<=8000->(∀q∈qs,Sm k q) ->
  ∃c,dw (λd ρ=>cn (.nm 2) d ρ) (λρ=>bF Φ cE ρ) (fc qs) [x,↥↑b,z]=ok (.nx,[x,↥↑(qs.foldl (λb q=>mV b q.den) b:Nat),c])
 |[],b,k,j,z,_,_,_,_=>⟨z,rfl⟩
 |q::qs,b,k,j,z,h0,hb,hj,hs=>by
  ext(g:hs q aag);have m:mV b q.den<2 ^ (j+k):=aaV (yaB h0 q.den_pos) (gC hb g.2);have e:j+k*(q::qs).length=j+k+k*qs.length:=by rw[zae,yb0];left
  ext(⟨c,h⟩:AR Φ f x qs (mV b q.den) k (j+k) ↥(qD q) (lcm_pos h0 q) m ⋯ λp i=>hs p (aaj _ i));have t:0<kb b q.den:=JZ _ q.den_pos;have n:f7 (b:Int) (q.den:Int)=kb b q.den:=by simp[f7]
  have s:kb b q.den<=b:=yaY h0 (ZY ..);have a:b<2 ^ 9000:=ye hb ⋯;have r:dh .fdiv ↑b ↑(kb b q.den:Nat)=ok ↑((b:Int).fdiv (kb b q.den:Nat)):=iX (gm ⋯ ⇑(wP s a));have l:((b:Int).fdiv (kb b q.den:Nat)).natAbs<=b:=by
   rw[zbf _ ⋯,<- Ci];simp;exact yan ..
  have o:dh .mul ↑((b:Int).fdiv (kb b q.den:Nat)) ↑q.den=ok ↑(mV b q.den:Nat):=by
   have:=Fc b q;rw[n]at this;rw[kC (mulOk_of (zba l a) (g.big (by
    rw[e]at hj;have:k<=j+k+k*qs.length:=by left
    left)).2),this]
  unfold bJ at f;refine⟨c,eQ (ρ1:=[x,↥↑b,↥(qD q)]) ⇑5 (ρ2:=[x,↥↑(mV b q.den:Nat),↥(qD q)]) ?_ h⟩;simp[cE,f,r,o]
def nP(Φ:aY)(j:bJ (Φ 1)):fE (mk Φ 1 3 cV):=by
 intro f qs k h;have a:cD Φ (.seq (.v 0)) [↥(.lst f (fc qs)),↥↑1,none]=ok (fc qs,if (bS (bq f)||false)then[↥(.lst (aK f) (fc qs)),↥↑1,none]else[↥(.lst f (fc qs)),↥↑1,none]):=by
  rw[tT (f:=bq f) (ds:=fc qs) ⇑5];simp[show gK (.v 0)=[0] from rfl]
 have l:=h.F_;have g:∀x:aM,∃c,dw (λd ρ=>cn (.nm 2) d ρ) (λρ=>bF Φ cE ρ) (fc qs) [x,↥↑(1:Nat),none]=ok (.nx,[x,↥↑(kn qs),c]):=λx=>AR Φ j x qs 1 k 1 none ⇑4 ⇑4 ⋯ h.sm;cases i:(bS (bq f)||false)with
 |true =>
  rw[i]at a;ext(⟨c,e⟩:g ↥(.lst (aK f) (fc qs)));have:=fV (t:=.nm 2) (b:=cE) a e;simp[mk_eq,cV,this]
 |false =>
  rw[i]at a;ext(⟨c,e⟩:g ↥(.lst f (fc qs)));have:=fV (t:=.nm 2) (b:=cE) a e;simp[mk_eq,cV,this]
meta def fK(b:Nat)(q:Rat):Int:=q.num*(b:Int).fdiv q.den
def To(q:Rat):(q.num:Rat)=q*(q.den:Rat):=by
 have h:(q.den:Rat)≠0:=by
  have:=q.den_pos;intro z;have:((q.den:Int):Rat)=0:=[zaF]\z
  rw[zaY]at this;left
 have e:q=(q.num:Rat) / (q.den:Rat):=by
  conv=>lhs;rw[<- mK q,zaE,zaF]
 grind
def Dn{b:Nat}{q:Rat}(h:q.den∣b):((fK b q:Int):Rat)=q*(b:Rat):=by
 ext(⟨c,rfl⟩:h);have hd:(q.den:Int)≠0:=Bv q;unfold fK;rw[zbY,KQ _ hd,Rat.intCast_mul,To,Rat.natCast_mul,zaF];grind
theorem lG{b:Nat}:∀{qs:bB},(∀q∈qs,q.den∣b)->(((qs.map (fK b)).sum:Int):Rat)=qs.sum*(b:Rat)
 |[],_=>by simp
 |q::qs,h=>by
  rw[zam,zay,zay,yak,Dn (h q zbl),lG λp a=>h p (zaU _ a)];grind
def jM(m:aD):Prop:=∀f qs k (b:Nat),xC k qs->b<2 ^ 8000->m [.lst f (fc qs),.int b]=ok (.ow\(ak (qs.map (fK b))))
meta def gO:ai:=[.ret (.comp 1 (.nm 0) [1] .seq [(.v 0)] [] (.bin .mul (.ix (.v 0) ↑0) (.bin .fdiv (.v 1) (.ix (.v 0) ↑1))))]
def IE{k:Nat}(h:xC k qs){q:Rat}(a:q∈qs):Sm 3000 q:=by
 refine(h.sm q a).mono ?_;have c:=h.F_;have b:0<qs.length:=List.length_pos_of_mem a;have:k*1<=k*qs.length:=ad3 _ b;left
def vy(Φ:aY):jM (mk Φ 2 2 gO):=by
 intro f qs k b a d;have m:bg Φ (.comp 1 (.nm 0) [1] .seq [(.v 0)] [] (.bin .mul (.ix (.v 0) ↑0) (.bin .fdiv (.v 1) (.ix (.v 0) ↑1)))) [↥(.lst f (fc qs)),↥↑b]=ok (.ow\(ak (qs.map (fK b)))):=by
  rw[c_ (xs:=[.lst (bq f) (fc qs)]) (items:=fc qs) (ds:=qs.map λq=>.int (fK b q)) ⇑5 (by rw[dt];simp) (bV λq c=>?_) (by have:=a.len;simp;exact cA ⋯)]
  ·have:(qs.map λq=>D.int (fK b q))=ak (qs.map (fK b)):=by simp[ak]
   rw[this,fg]
  ·refine⟨[↥(qD q),↥↑b],by simp[bL],by simp,?_⟩;ext(g:IE a c)(⟨i,h⟩:g.big ⇑4);have l:dh .fdiv ↑b ↑q.den=ok ↑((b:Int).fdiv q.den):=iX (gm (Bv q) h);have j:dh .mul ↑q.num ↑((b:Int).fdiv q.den)=ok ↑(q.num*(b:Int).fdiv q.den):=by
    refine kC (mulOk_of i ?_);rw[zbf _ ⋯,<- Ci];have:=yan b q.den;ext(e:ye d ⇑4);exact[zbA]\aaV this e
   simp[l,j,fK]
 simp[mk_eq,gO,m]
def qm(m:aD):Prop:=∀f qs k,xC k qs->m [.lst f (fc qs)]=ok (.tup [.int (kn qs),.ow\(ak (qs.map (fK (kn qs))))])
meta def iV:ai:=[.asg (.nm 1) (.call 9 [(.v 0)]),.ret (.tup [(.v 1),(.call 10 [(.v 0),(.v 1)])])]
def xC.OM{k:Nat}(h:xC k qs):kn qs<2 ^ 8000:=aam h.lcm.2.1 (abB ⇑4 (by have:=h.F_;left))
def xY(Φ:aY)(b:fE (Φ 9))(c:jM (Φ 10)):qm (mk Φ 1 2 iV):=by
 intro f qs k a;ext(e1:λf=>b f qs k a)(e2:λf=>c f qs k (kn qs) a a.OM);simp[mk_eq,iV,e1,e2]
def iY(m:aD):Prop:=∀f qs k,xC k qs->m [.lst f (fc qs)]=ok (qD qs.sum)
meta def fO:ai:=[.asg (.nm 1) (.call 41 [(.v 0)]),.ret (.call 2 [(.bf .jv [(.ix (.v 1) ↑1)]),(.ix (.v 1) ↑0)])]
def Io{b:Nat}(c:0<b)(h:∀q∈qs,q.den∣b):ei (qs.map (fK b)).sum b=qs.sum:=by
 have a:((b:Nat):Rat)≠0:=by
  intro z;have:((b:Int):Rat)=0:=[zaF]\z
  rw[zaY]at this;left
 rw[zaE,lG h,zaF];grind
def sX(Φ:aY)(c:kE (Φ 2))(b:qm (Φ 41)):iY (mk Φ 1 2 fO):=by
 intro f qs k a;ext(e1:λf=>b f qs k a)(⟨e,g,d⟩:a.lcm)(e2:c.1 (qs.map (fK (kn qs))).sum (kn qs) ⋯ (by have:=ye a.OM ⇑4;simpa using this));rw[Io e d]at e2;simp[mk_eq,fO,e1,e2]
meta def cy(n:Int):D->Bool
 |.int i=>decide (0<=i)&&decide (i<n)
 |_=>false
def nA(g:Fl->Fl)(n:Int)(d:D):cy n (aJ g d)=cy n d:=by
 cases d<;>simp[cy]
theorem fi{n:Int}:∀{ds:aa},ds.all (cy n)=true->∃ns:ae,ds=ak ns
 |[],_=>⟨[],rfl⟩
 |d::ds,h=>by
  simp only[zas,zag]at h;ext(⟨ns,rfl⟩:fi h.2);cases d with
  |int i=>exact⟨i::ns,rfl⟩
  |_=>simp[cy]at h
def numsOf(ds:aa):ae:=(intsOf ds).getD []
def ff(ns:ae):numsOf (ak ns)=ns:=by unfold numsOf ak;rw[bY];rfl
def bH(d:D)(n:Int):Bool:=match d with
 |.tup ds=>ds.all (cy n)&&decide ((uj (numsOf ds)).length=ds.length)
 |_=>false
def tP(d:D)(n:Int):Bool:=bH d n&&(match d with
 |.tup ds=>decide (numsOf ds=sortI (numsOf ds))
 |_=>false)
def iZ(m:aD):Prop:=∀d n,uw d->m [d,.int n]=ok (.bl (bH d n))
meta def cT:ai:=[.ifs (.not (.qM (.v 0) .tuple)) [.ret (.bl false)] [],.ifs (.not (.bf .all1 [(.comp 1 (.nm 0) [1] .seq [(.v 0)] [] (.and [(.call 0 [(.v 0)]),(.cmp .ge (.v 0) ↑0),(.cmp .lt (.v 0) (.v 1))]))])) [.ret (.bl false)] [],.ret (.cmp .eq (.mQ (.v 0)) (.bf .len [(.v 0)]))]
def sY(Φ:aY)(b:eV (Φ 0)):iZ (mk Φ 2 2 cT):=by
 intro d n l;unfold eV at b;have c:eF .tuple d=false->mk Φ 2 2 cT [d,.int n]=ok (.bl false):=λh=>by simp[mk_eq,cT,h]
 cases d with
 |tup ds =>
  clear c;have k:ds.length<64:=l;have f:bg Φ (.comp 1 (.nm 0) [1] .seq [(.v 0)] [] (.and [(.call 0 [(.v 0)]),(.cmp .ge (.v 0) ↑0),(.cmp .lt (.v 0) (.v 1))])) [↥(.tup ds),↥↑n]=ok (.ow\(nX (ds.map (cy n)))):=by
   rw[c_ (xs:=[.tup (ao bq ds)]) ⇑5 (tS ..) (GQ (g:=λd=>.bl (cy n d)) λx _=>⟨[↥x,↥↑n],by simp[bL],by simp,?_⟩) (by simp;exact cA ⋯)]
   ·simp[aN,Pf,nA,nX]
   ·cases hw:dN x with
    |true =>
     ext(⟨i,rfl⟩:iI hw);simp[b,hw,cy]
    |false =>
     have e:cy n x=false:=by cases x<;>first|rfl|exact lW (show true=false from hw)
     simp[b,hw,e,ju]
  cases a:ds.all (cy n)with
  |true =>
   ext(⟨ns,rfl⟩:fi a);have j:ns.length<4000:=by simp at k;left
   have e:(KP (Ch (cy n) (ak ns)) id)=true:=[zaW]\a
   simp[mk_eq,cT,eF,f,e,Qt j,bH,a,ff];simp[Int.natCast_inj]
  |false =>
   have e:(KP (Ch (cy n) ds) id)=false:=[zaW]\a
   simp only[mk_eq,cT,zae,zaQ];simp[eF,f,e,bH,a]
 |_=>exact c rfl
def xo(m:aD):Prop:=∀d n,uw d->m [d,.int n]=ok (.bl (tP d n))
meta def iG:ai:=[.ret (.and [(.call 43 [(.v 0),(.v 1)]),(.cmp .eq (.bf .list1 [(.v 0)]) (.bf .iN [(.v 0)]))])]
def vO(n:Nat)(f:Fl)(ns:ae):cg (n+1) (.lst f (ak ns))=true:=oj (gD n) ns
def Cd(ns a:ae):fM (ak ns) (ak a)=decide (ns=a):=wD (λx y=>AA x y) ns a
def eH(g:Fl->Fl)(d:D)(n:Int):bH (aJ g d) n=bH d n:=by
 cases d with
 |tup ds =>
  cases h:ds.all (cy n)with
  |true =>
   ext(⟨ns,rfl⟩:fi h);simp
  |false =>
   have a:(ao g ds).all (cy n)=false:=by
    rw[aN,zaW,show(cy n∘aJ g)=cy n from funext λd=>nA g n d];exact h
   simp[bH,h,a]
 |_=>simp[bH]
def iF{g:Fl->Fl}{d:D}(h:uw d):uw (aJ g d):=by
 cases d<;>simp_all [uw]
def DP(Φ:aY)(b:iZ (Φ 43)):xo (mk Φ 2 2 iG):=by
 intro d n c;ext(e1:b (aJ aK (aJ bq d)) n (iF (iF c)));rw[eH,eH]at e1;cases d with
 |tup ds =>
  have g:ds.length<64:=c;simp only[ET]at e1;cases a:bH (.tup ds) n with
  |true =>
   have e:=a;simp only[bH,zag]at e;ext(⟨ns,rfl⟩:fi e.1);have f:ns.length<64:=⇑g
   have e2:kZ .eq (.ow\(ak ns)) (.ow\(ak (sortI ns)))=ok (.bl (decide (ns=sortI ns))):=by
    rw[Q0 (vO 39 _ _) (vO 39 _ _),Km,Cd]
   rw[a]at e1;simp at e1;simp[mk_eq,iG,e1,Kg f,e2,tP,a,ff]
  |false =>
   rw[a]at e1;simp[mk_eq,iG,e1,tP,a]
 |_=>(simp at e1;simp[mk_eq,iG,e1,tP,bH])
def xD(n:Nat)(l:ae):Prop:=l.Pairwise (· < ·)/\∀h∈l,0<=h/\h<(n:Int)
theorem AL:∀(l m:ae),(∀x∈l,x∉m)->l.Nodup->l.foldl (λ(m:ae) (k:Int)=>if m.any (· == k)then m else m++[k]) m=m++l
 |[],m,_,_=>by simp
 |x::l,m,h,hn=>by
  have b:m.any (· == x)=false:=by
   rw[List.any_eq_false];intro y a z;have:y=x:=⇑z
   exact h x aag (this▸a)
  rw[Z8,b,zab zal,AL l (m++[x])]
  ·simp
  ·intro y a z;ext((z|z):dz.mp z)
   ·exact h y (aaj _ a) z
   ·have:y=x:=⇑z
    subst this;exact(gj.mp hn).1 a
  ·exact(gj.mp hn).2
def xD.nodup{n:Nat}{l:ae}(h:xD n l):l.Nodup:=h.1.imp λz=>by left
def DD{l:ae}(h:l.Pairwise (· < ·)):sortI l=l:=by
 unfold sortI;apply List.mergeSort_of_pairwise;exact h.imp λz=>by simp;left
theorem xD.tP{n:Nat}{l:ae}(h:xD n l):tP (.tup (ak l)) n=true:=by
 have c:(ak l).all (cy n)=true:=by
  unfold ak;rw[zaW,zaM];intro x a;have:=h.2 x a;simp[cy,this.1,this.2]
 have b:uj l=l:=by
  have:=AL l [] ⇑5 h.nodup;rw[zaz]at this;exact this
 simp[DI.tP,bH,c,ff,b,DD h.1]
meta def fj(ns:ae)(k:Int):Int :=
 let c:=if k<ns.length then ns.getD k.toNat 0 else 0
 if (10:Int) ^ 18<=c then(c - 10 ^ 18).fmod (10 ^ 60)else
  let n:=(c*48271+k*69621+11).fmod 2147483629
  let n:=(n*n).fmod 2147483587
  n*2147483563+(n*n).fmod 2147483563
def Hl(m:aD):Prop:=∀(ns:ae) (k:Int),0<=k->m [.sc\(ak ns),.int k]=ok ↑(fj ns k)
meta def fD:ai:=[.asg (.nm 2) ↑0,.ifs (.cmp .lt (.v 1) (.bf .len [(.v 0)])) [.asg (.nm 2) (.ix (.v 0) (.v 1))] [],.ifs (.cmp .ge (.v 2) (.bin .pow ↑10 ↑18)) [.ret (.bin .mod (.bin .sub (.v 2) (.bin .pow ↑10 ↑18)) (.bin .pow ↑10 ↑60))] [],.asg (.nm 3) (.bin .mod (.bin .add (.bin .add (.bin .mul (.v 2) ↑48271) (.bin .mul (.v 1) ↑69621)) ↑11) ↑2147483629),.asg (.nm 3) (.bin .mod (.bin .mul (.v 3) (.v 3)) ↑2147483587),.ret (.bin .add (.bin .mul (.v 3) ↑2147483563) (.bin .mod (.bin .mul (.v 3) (.v 3)) ↑2147483563))]
def gL(a:Int){b:Int}(h:0<b):0<=a.fmod b/\a.fmod b<b:=⟨adB a h,ad7 a h⟩
theorem Cp(Φ:aY)(x:D)(k c:Int)(l:eF .list x=true)(o:aM):jI (bF Φ (fD.drop 2) [↥x,↥↑k,↥↑c,o])=ok (.int (if (10:Int) ^ 18<=c then(c - 10 ^ 18).fmod (10 ^ 60)else
  let n:=(c*48271+k*69621+11).fmod 2147483629
  let n:=(n*n).fmod 2147483587
  n*2147483563+(n*n).fmod 2147483563)):=by
 have d:dh .pow ↑10 ↑18=ok ↑(10 ^ 18):=MV ⇑4;have e:dh .pow ↑10 ↑60=ok ↑(10 ^ 60):=MV ⇑4;by_cases h:(10:Int) ^ 18<=c
 ·have a:(1000000000000000000:Int)<=c:=h;simp[fD,d,e,a]
 ·have a:¬ (1000000000000000000:Int)<=c:=h;ext(⟨a1,a2⟩:gL (c*48271+k*69621+11) (b:=2147483629) ⇑4);generalize i:(c*48271+k*69621+11).fmod 2147483629=n at *;ext(⟨a3,a4⟩:gL (n*n) (b:=2147483587) ⇑4);have g:dh .mul ↑n ↑n=ok ↑(n*n):=kC (tL _ ⋯);generalize j:(n*n).fmod 2147483587=m at *;have f:dh .mul ↑m ↑m=ok ↑(m*m):=kC (tL _ ⋯);simp[fD,d,a,i,g,j,f]
def NX(Φ:aY):Hl (mk Φ 2 4 fD):=by
 intro ns k b;have:=λc=>Cp Φ (.sc\(ak ns)) k c rfl none;by_cases h:k<ns.length
 ·have f:xh (ak ns) k=ok ↑(ns.getD k.toNat 0):=by
   have a:k.toNat<ns.length:=by left
   rw[at_of b (d:=.int (ns.getD k.toNat 0)) (by rw[BX,ce a,zbX,zbD,ce a];rfl)];simp
  have e:jI (bF Φ fD ([↥(D.lst Fl.sc (ak ns)),↥(D.int k)]++[none,none]))=jI (bF Φ (fD.drop 2) [↥(.sc\(ak ns)),↥↑k,↥↑(ns.getD k.toNat 0),none]):=by
   rw[fD,bI,uT];simp only[Mf,MO,eE,pR];simp only[zbq,zaz,oJ,zae,zaQ,yaX,ybW,dH,Uv,zbz];rw[bI,A5];simp[h,f]
  rw[mk_eq (ar:=2) (ds:=[_,_]) rfl];refine(show _=_ from e).trans ?_;rw[this,fj,zac h]
 ·have e:jI (bF Φ fD ([↥(D.lst Fl.sc (ak ns)),↥(D.int k)]++[none,none]))=jI (bF Φ (fD.drop 2) [↥(.sc\(ak ns)),↥↑k,↥↑0,none]):=by
   rw[fD,bI,uT];simp only[Mf,MO,eE,pR];simp only[zbq,zaz,oJ,zae,zaQ,yaX,ybW,dH,Uv,zbz];rw[bI,A5];simp[h]
  rw[mk_eq (ar:=2) (ds:=[_,_]) rfl];refine(show _=_ from e).trans ?_;rw[this,fj,zab h]
meta def lC:CS:=.Lm (.cmp .gt (.v 3) ↑0) [.par 2 3 (.v 3) (.bin .mod (.v 2) (.v 3))]
def l9:ai:=[.asg (.nm 2) (.bf .abs [(.v 0)]),.asg (.nm 3) (.bf .abs [(.v 1)]),lC,.ifs (.cmp .lt (.v 1) ↑0) [.asg (.nm 2) (.bin .sub ↑0 (.v 2))] [],.ret (.tup [(.bin .fdiv (.v 0) (.v 2)),(.bin .fdiv (.v 1) (.v 2))])]
def yg(Φ:aY)(x y:aM):∀(n:Nat) (a b:Nat),b<=n->ic Φ lC [x,y,↥↑a,↥↑b]=ok (.nx,[x,y,↥↑(kb a b),↥↑0]):=by
 intro n;induction n with
 |zero =>
  intro a b h;have c:b=0:=by left
  subst c;exact[lC,qY]\iJ ⇑5
 |succ n d =>
  intro a b h;by_cases c:b=0
  ·subst c;exact[lC,qY]\iJ ⇑5
  ·ext(k:Nat.mod_lt a (show 0<b by left))(e:d b (a % b) ⋯);have i:kb b (a % b)=kb a b:=by rw[yb6 a b,Nat.gcd_rec b a,yb6]
   rw[i]at e;rw[lC,qY]at e ⊢;rw[<- e];have j:0<b:=by left
   have g:((a:Int)).fmod (b:Int)=((a % b:Nat):Int):=by
    exact[Int.fmod_eq_emod_of_nonneg _ ⋯]\(Int.natCast_emod a b).symm
   have f:ic Φ (.par 2 3 (.v 3) (.bin .mod (.v 2) (.v 3))) [x,y,↥↑a,↥↑b]=ok (.nx,[x,y,↥↑b,↥↑((a % b:Nat):Int)]):=by
    rw[R_];simp[c,g]
   exact oT (by simp[j,f])
def IQ(Φ:aY):oM (mk Φ 2 4 l9):=by
 intro t b c h;ext(⟨e1,e2⟩:uf (t:=t) c)(i:oE (t:=t) c h t)(g:oE (t:=t) c h b)(e:yg Φ ↥↑t ↥↑b b.natAbs t.natAbs b.natAbs (aao _));rw[qD,<- e1,<- e2];by_cases a:b<0
 ·have f:0 - (kb t.natAbs b.natAbs:Int)=gk t b:=by simp[gk,a,f7]
  have d:-(kb t.natAbs b.natAbs:Int)=gk t b:=by simp[gk,a,f7]
  simp[mk_eq,l9,e,a,d,i,g]
 ·have f:(kb t.natAbs b.natAbs:Int)=gk t b:=by simp[gk,a,f7]
  simp[mk_eq,l9,e,a,f,i,g]
def Bu{q:Rat}(h:0<q):0<q.num:=by
 have:=(Rat.lt_iff 0 q).mp h;simpa using this
def xD.len{n:Nat}{l:ae}(h:xD n l):l.length<=n:=by
 have d:(l.map Int.toNat).Nodup:=by
  unfold List.Nodup;rw[U1];refine h.1.imp_of_mem λg f z e=>?_;have:=h.2 _ g;have:=h.2 _ f;left
 have c:(l.map Int.toNat) ⊆ eg n:=λx b=>by
  ext(⟨y,a,rfl⟩:cr.mp b);have:=h.2 y a;rw[zcb];left
 have:=d.length_le_of_subset c;simpa using this
def xD.cB{n:Nat}{l:ae}(h:xD n l)(hn:n<=12):uw (.tup (ak l)):=by
 have:=h.len;show(ak l).length<64;simp;left
abbrev Row:=Rat×ae
abbrev ag:=List Row
def rD(r:Row):D:=.tup [qD r.1,.tup (ak r.2)]
nonrec def EU(g:Fl->Fl)(r:Row):aJ g (rD r)=rD r:=by unfold rD;simp
nonrec def PF(g:Fl->Bool)(r:Row):aW g (rD r)=false:=by unfold rD;simp
meta def bj(rs:ag):aa:=rs.map rD
nonrec def df(rs:ag):(bj rs).length=rs.length:=ab_ ..
nonrec def dM(g:Fl->Fl)(rs:ag):ao g (bj rs)=bj rs:=fT g (EU g) rs
nonrec def jG(g:Fl->Bool)(rs:ag):aR g (bj rs)=false:=dv g (PF g) rs
def TH(n:Nat)(r:Row):cg (n+2) (rD r)=true:=by
 unfold rD;rw[tH,zas,zas,vN n];have:cg (n+1) (.tup (ak r.2))=true:=by
  exact[tH]\oj (λ_=>by cases n<;>rfl) r.2
 rw[this];rfl
def eR(n:Nat)(rs:ag):D:=.tup [.int n,.fz\(bj rs)]
def abL(rs:ag):Prop:=∃W:Nat,0<W/\W<2 ^ 250/\∀r∈rs,r.1.den∣W
meta def gY(rs:ag):bB:=rs.map (·.1)
structure Dp(P:ae->Prop)(k n:Nat)(rs:ag):Prop where
 n1:1<=n
 n2:n<=12
 fin:abL rs
 len:rs.length<=1000
 lot:∀r∈rs,P r.2
 pos:∀r∈rs,0<r.1
 sm:∀r∈rs,Sm k r.1
 one:(rs.map (·.1)).sum=1
 rise:y4 (rs.map (·.2))
 sl:∃j,xC j (gY rs)
abbrev Dr(k n:Nat)(rs:ag):Prop:=Dp (xD n) k n rs
meta def eK:ai:=[.ifs (.or [(.not (.qM (.v 0) .tuple)),(.cmp .ne (.bf .len [(.v 0)]) ↑2)]) [.ret (.bl false)] [],.ifs (.not (.call 43 [(.ix (.v 0) ↑1),(.v 1)])) [.ret (.bl false)] [],.ret (.and [(.call 3 [(.ix (.v 0) ↑0)]),(.cmp .gt (.ix (.ix (.v 0) ↑0) ↑0) ↑0)])]
meta def Be:ai:=[.ifs (.cJ 1022 [(.ix (.v 1) ↑1),(.ix (.v 2) ↑1)]) [.ret (.bl false)] []]
def fm:ai:=[.fr (.tp [1,2]) (.L0 1000 [(.v 0),(.cJ 1020 [(.v 0),↑1])]) Be,.ret (.bl true)]
def pE(rs:ag):aa:=rs.map λr=>.tup (ak r.2)
nonrec def pv(g:Fl->Fl)(rs:ag):ao g (pE rs)=pE rs:=fT g (λr=>by simp) rs
nonrec def Pz(g:Fl->Bool)(rs:ag):aR g (pE rs)=false:=dv g (λr=>by simp) rs
def HX(b:Nat)(rs:ag):aa:=rs.map λr=>.tup [.int (fK b r.1),.tup (ak r.2)]
nonrec def TZ(g:Fl->Fl)(b:Nat)(rs:ag):ao g (HX b rs)=HX b rs:=fT g (λr=>by simp) rs
nonrec def U8(g:Fl->Bool)(b:Nat)(rs:ag):aR g (HX b rs)=false:=dv g (λr=>by simp) rs
meta def Kr:CE:=.comp 2 (.tp [0,1]) [] .seq [(.v 0)] [] (.v 0)
meta def Kq:CE:=.comp 2 (.tp [0,1]) [] .seq [(.v 0)] [] (.v 1)
def V2(Φ:aY){rs:ag}(h:rs.length<=1000)(r:aV):bg Φ Kr (↥(.fz\(bj rs))::r)=ok (.ow\(fc (gY rs))):=by
 unfold Kr;rw[c_ (xs:=[.fz\(bj rs)]) (items:=bj rs) (ds:=rs.map λr=>qD r.1) ⇑5 (by rw[dt];simp) (bV λr a=>?_) (by simp;exact cA ⋯)]
 ·simp[fc,gY,aN]
 ·exact⟨[↥(qD r.1),↥(.tup (ak r.2))],by simp[bL,rD],by simp,by simp⟩
def T9(Φ:aY){rs:ag}(h:rs.length<=1000)(r:aV):bg Φ Kq (↥(.fz\(bj rs))::r)=ok (.ow\(pE rs)):=by
 unfold Kq;rw[c_ (xs:=[.fz\(bj rs)]) (items:=bj rs) (ds:=rs.map λr=>.tup (ak r.2)) ⇑5 (by rw[dt];simp) (bV λr a=>?_) (by simp;exact cA ⋯)]
 ·exact aa5 (λx=>ok (D.lst .ow x)) (pv gW rs)
 ·exact⟨[↥(qD r.1),↥(.tup (ak r.2))],by simp[bL,rD],by simp,by simp⟩
def sC(m:aD):Prop:=∀(rs:ag) k,xC k (gY rs)->m [.fz\(bj rs)]=ok (.tup [.int (kn (gY rs)),.ow\(HX (kn (gY rs)) rs)])
def kg:ai:=[.asg (.nm 1) Kr,.asg (.nm 2) Kq,.asg (.nm 3) (.call 9 [(.v 1)]),.ret (.tup [(.v 3),(.cJ 1040 [(.call 10 [(.v 1),(.v 3)]),(.v 2)])])]
theorem Bp(Φ:aY)(e:fE (Φ 9))(h:jM (Φ 10))(g:Φ 1040=T7):sC (mk Φ 1 4 kg):=by
 intro a k c;have d:a.length<=1000:=by have:=c.len;simpa [gY]using this
 ext(e1:V2 Φ d)(e2:T9 Φ d)(e3:λf=>e f (gY a) k c)(e4:λf=>h f (gY a) k (kn (gY a)) c c.OM);generalize kn (gY a)=b at *;have e5:Φ 1040 [.ow\(ak ((gY a).map (fK b))),.al\(pE a)]=ok (.ow\(HX b a)):=by
  rw[g];show ok (D.lst .ow (ao bq (gb pairD (ak ((gY a).map (fK b))) (pE a))))=_;rw[gI,fg,pv];unfold gY ak pE HX;rw[zah,zah,List.zipWith_map,List.zipWith_self];rfl
 simp[mk_eq,kg,Fj Φ Kr _ rfl,Fj Φ Kq _ rfl,e1,e2,e3,e4,e5]
meta def QD:CE:=.comp 2 (.tp [0,1]) [] .seq [(.ix (.v 1) ↑1)] [] (.v 0)
def eZ:ai:=[.asg (.nm 1) (.call 14 [(.v 0)]),.ret (.cmp .eq (.bf .jv [QD]) (.ix (.v 1) ↑0))]
def Dl{b:Nat}(h:∀q∈qs,q.den∣b)(a:qs.sum=1):(qs.map (fK b)).sum=(b:Int):=by
 have:=lG h;rw[a,Rat.one_mul,<- zaF]at this;exact yaj.mp this
meta def gx:ai:=[.ifs (.not (.call 12 [(.v 3),(.v 1)])) [.ret (.bl false)] []]
def eU:ai:=[.ifs (.or [(.not (.qM (.v 0) .tuple)),(.cmp .ne (.bf .len [(.v 0)]) ↑2)]) [.ret (.bl false)] [],.asg (.nm 1) (.ix (.v 0) ↑0),.asg (.nm 2) (.ix (.v 0) ↑1),.ifs (.or [(.not (.call 0 [(.v 1)])),(.cmp .lt (.v 1) ↑1),(.cmp .gt (.v 1) (.glo "MOST_HOUSES" 12))]) [.ret (.bl false)] [],.ifs (.not (.qM (.v 2) .list)) [.ret (.bl false)] [],.fr (.nm 3) (.seq (.v 2)) gx,.ret (.and [(.call 44 [(.v 2)]),(.call 15 [(.v 2)])])]
def Rf(m:aD):Prop:=∀k n a,Dr k n a->m [eR n a]=ok (.bl true)
meta def QE:CE:=.comp 2 (.tp [0,1]) [0] .seq [(.ix (.v 0) ↑1)] [] (.call 11 [(.v 1),(.ix (.v 2) ↑0)])
def dx:ai:=[.ret (.and [(.call 45 [(.v 0)]),(.bf .all1 [QE])])]
def sW(Φ:aY)(b:xo (Φ 11))(h:Rf (Φ 45)):Rf (mk Φ 1 1 dx):=by
 intro k n a I;ext(e1:h k n a I);have e2:bg Φ QE [↥(eR n a)]=ok (.ow\(nX (a.map λ_=>true))):=by
  unfold QE;rw[c_ (xs:=[.fz\(bj a)]) (items:=bj a) (ds:=a.map λ_=>.bl true) (by simp[eR]) (by rw[dt];simp) (bV λr g=>?_) (by simp;exact cA (by have:=I.len;left))]
  ·simp[nX,aN]
  ·ext(c:I.lot r g)(e:b (.tup (ak r.2)) n (c.cB I.n2));rw[c.tP]at e;exact⟨[↥(qD r.1),↥(.tup (ak r.2)),↥(eR n a)],by simp[bL,rD,eR],by simp,by simp[eR,e]⟩
 have e3:qU .all1 [.ow\(nX (a.map λ_=>true))]=ok (.bl true):=by
  show(match jJ (nX (a.map λ_=>true))with|↥bs=>ok (D.bl (bs.all id))|none=>none)=_;unfold nX;rw[nc];show ok (D.bl ((a.map λ_=>true).all id))=_;congr 2;simp
 have f:aJ aK (eR n a)=eR n a:=by simp[eR]
 have d:aJ bq (eR n a)=eR n a:=by simp[eR]
 simp[mk_eq,dx,f,d,e1,e2,e3]
def eW(m:aD):Prop:=∀k n a,Dr k n a->m [eR n a]=ok .bX
meta def bQ:ai:=[.ifs (.not (.call 16 [(.v 0)])) [.rs 1] []]
def nQ(Φ:aY)(d:Rf (Φ 16)):eW (mk Φ 1 1 bQ):=by
 intro k n a I;ext(e1:d k n a I);have c:aJ aK (eR n a)=eR n a:=by simp[eR]
 have b:aJ bq (eR n a)=eR n a:=by simp[eR]
 simp[mk_eq,bQ,c,b,e1]
def LB{t b:Int}{k:Nat}(d:b≠0)(c:t.natAbs<2 ^ k)(a:b.natAbs<2 ^ k):Sm k (ei t b):=Bm d c a
def kY{t b:Int}(c:0<t)(d:0<b):0<ei t b:=by
 rw[zaE];have f:(0:Rat)<(t:Rat):=by
  have:=No (a:=0) (b:=t);simpa using this.mpr c
 have e:(0:Rat)<(b:Rat):=by
  have:=No (a:=0) (b:=b);simpa using this.mpr d
 exact[Rat.div_def]\Rat.mul_pos f (Rat.inv_pos.mpr e)
variable {d':D}
def xE{p i:Nat}{es:aA}{d:D}(e:b6 Φ es ρ=ok xs)(c:aR bS xs=false)(b:ρ[i]?=↥↥d)(a:Φ p (d::xs)=ok d'):ic Φ (.mut p i es) ρ=ok (.nx,ρ.set i ↥d'):=by
 show bd (b6 Φ es ρ) (λxs=>tJ Φ p i (lT es xs ρ))=_;rw[e,cM];unfold lT;rw[c,zab zal];unfold tJ;rw[b];show bd (Φ p (d::xs)) _=_;rw[a];rfl
theorem rQ(c:ae):∀(cs:az) (ws:ae),cw cs (ak ws) c=(cw cs ws c).map D.int
 |[],_=>by cases ‹ae› <;> rfl
 |_::_,[]=>rfl
 |c'::cs,w::ws=>by
  show(if c'=c then ↥(D.int w) else cw cs (ak ws) c)=Option.map D.int (if c'=c then ↥w else cw cs ws c);by_cases e:c'=c
  ·rw[zac e,zac e];rfl
  ·exact[zab e,zab e]\rQ c cs ws
theorem rn(c:ae)(v:Int):∀(cs:az) (ws:ae),setC cs (ak ws) c ↑v=ak (setC cs ws c v)
 |[],_=>by cases ‹ae› <;> rfl
 |_::_,[]=>rfl
 |c'::cs,w::ws=>by
  show(if c'=c then D.int v else D.int w)::setC cs (ak ws) c ↑v=D.int (if c'=c then v else w)::ak (setC cs ws c v);rw[rn c v cs ws];by_cases e:c'=c
  ·rw[zac e,zac e]
  ·rw[zab e,zab e]
def xG(cs:az)(ws:ae)(c:ae)(v:Int):bP cs (ak ws) c ↑v=ak (bP cs ws c v):=by
 unfold bP;by_cases e:c∈cs
 ·exact[zac e,zac e]\rn c v cs ws
 ·rw[zab e,zab e];simp
def ko(cs:az)(ws:ae)(c:ae):Int:=(cw cs ws c).getD 0
theorem uc{a:Type}{c:ae}:∀{cs:az} {ws:List a},cs.length=ws.length->c∈cs->∃w,cw cs ws c=↥w/\w∈ws
 |[],_,_,h=>nomatch h
 |_::_,[],hl,_=>by simp at hl
 |c'::cs,w::ws,hl,h=>by
  by_cases e:c'=c
  ·exact⟨w,abE e,aag⟩
  ·have d:c∈cs:=(c0.mp h).resolve_left λz=>e z.symm;ext(⟨b,e1,e2⟩:uc (cs:=cs) (ws:=ws) ⇑hl d);exact⟨b,(ad0 e).trans e1,aaj _ e2⟩
theorem vV:∀{cs:az} {ws:ae},cs.Nodup->cs.length=ws.length->cs.map (ko cs ws)=ws
 |[],[],_,_=>rfl
 |[],_::_,_,h=>by simp at h
 |_::_,[],_,h=>by simp at h
 |c::cs,w::ws,hn,hl=>by
  ext(a:gj.mp hn)(b:vV (cs:=cs) (ws:=ws) a.2 ⇑hl);rw[zam];have e1:ko (c::cs) (w::ws) c=w:=by
   show(if c=c then ↥w else cw cs ws c).getD 0=w;rw[zac rfl];rfl
  have e2:cs.map (ko (c::cs) (w::ws))=cs.map (ko cs ws):=aaZ λx d=>by
   show(if c=x then ↥w else cw cs ws x).getD 0=_;rw[zab (show ¬ c=x from λz=>a.1 ([z]\d))];rfl
  rw[e1,e2,b]
theorem vt{c:ae}{v:Int}:∀{cs:az} {ws:ae} {x:Int},x∈setC cs ws c v->x∈ws\/x=v
 |[],_,_,h=>by cases ‹ae› <;> exact nomatch h
 |_::_,[],_,h=>nomatch h
 |c'::cs,w::ws,x,h=>by
  have h:x∈(if c'=c then v else w)::setC cs ws c v:=h;ext((e|h):c0.mp h)
  ·by_cases q:c'=c
   ·rw[zac q]at e;exact .inr e
   ·rw[zab q]at e;exact[e]\.inl aag
  ·ext((h|h):vt h)
   ·exact .inl (aaj _ h)
   ·exact .inr h
def kl(cs:az)(ws:ae):ag:=(bh cs).map λc=>(ei (ko cs ws c) ws.sum,c)
theorem sN(W:Int)(b:W≠0):∀a:ae,(a.map λx=>ei x W).sum=ei a.sum W
 |[]=>by simp
 |x::a=>by
  rw[zam,zay,sN W b a,zay,zaE,zaE,zaE,yak];grind
def Ei{a b:bB}(h:a.Perm b):a.sum=b.sum:=by
 induction h with
 |nil=>rfl
 |cons x _ c=>rw[zay,zay,c]
 |swap x y l=>rw[zay,zay,zay,zay];grind
 |trans _ _ e d=>rw[e,d]
def Zm(n:Nat)(t:Nat->Bool):xD n (((eg n).filter t).map λ(k:Nat)=>(k:Int)):=by
 refine⟨?_,λh b=>?_⟩
 ·rw[U1];refine(ya1 _ List.pairwise_lt_range).imp λz=>?_;left
 ·ext(⟨k,a,rfl⟩:cr.mp b);have:=g8.mp (sh.mp a).1;left
def qf{t b:Int}(c:b≠0):(ei t b).den∣b.natAbs:=by
 ext(⟨g,a,e1,e2,j,e,i,h⟩:ph (t:=t) c)(⟨k,f⟩:uf (t:=t) c);rw[show b.fdiv (gk t b)=a from e]at f;have d:(ei t b).den=a.natAbs:=by left
 have:b.natAbs=(gk t b).natAbs*a.natAbs:=by rw[<- zbn,<- e2]
 exact[d,this]\Nat.dvd_mul_left ..
theorem wm{b:Type}(f:ae->b)(k:ae):∀a:az,cw a (a.map f) k=if k∈a then ↥(f k) else none
 |[]=>rfl
 |j::a=>by
  show(if j=k then ↥(f j) else cw a (a.map f) k)=_;rw[wm f k a];by_cases e:j=k
  ·subst e;simp
  ·rw[zab e];have:k∈j::a ↔ k∈a:=[zau]\⟨λh=>h.resolve_left λz=>e z.symm,.inr⟩
   simp only[this]
variable {cs ks:az}
protected def BJ{c k:ae}:k∈bp ks c ↔ k∈ks\/k=c:=by
 unfold bp;split
 ·rename_i h;exact⟨.inl,λz=>z.elim id λe=>e▸h⟩
 ·simp
protected def Fh(h:ks.Nodup)(c:ae):(bp ks c).Nodup:=by
 unfold bp;split
 ·exact h
 ·rename_i d;exact[zbH]\⟨h,by simp,λa f b e=>[bn.mp e]\λz=>d (z▸f)⟩
def BK(ks:az)(c:ae):(bp ks c).length<=ks.length+1:=by
 unfold bp;split<;>simp
structure Rk(Φ:aY):Prop where
 My:Φ 1030=GC
 Vq:Φ 1032=GH
 Vp:Φ 1033=wK
 Vo:Φ 1035=qa
def QN(P:Rk Φ)(a:cs.length<1000)(ws:ae)(c:ae)(v:Int):Φ 1033 [.cF .ow cs (ak ws),.int v,.tup (ak c)]=ok (.cF .ow (bp cs c) (ak (bP cs ws c v))):=by
 rw[P.Vp];show(match intsOf (c.map D.int)with|↥c=>if cq .ow=true/\aW anyF ↑v=false/\cs.length<cB then ok (D.cF .ow (bp cs c) (bP cs (ak ws) c ↑v))else none|none=>none)=_;rw[bY];show(if cq .ow=true/\aW anyF ↑v=false/\cs.length<cB then ok (D.cF .ow (bp cs c) (bP cs (ak ws) c ↑v))else none)=_;rw[zac ⟨rfl,rfl,by show _<1000000;left⟩,xG]
def VV(P:Rk Φ)(f:Fl){ws:ae}(a:cs.length=ws.length){c:ae}(h:c∈cs):Φ 1032 [.cF f cs (ak ws),.tup (ak c)]=ok ↑(ko cs ws c):=by
 ext(⟨w,e,_⟩:uc a h);rw[P.Vq];show(match intsOf (c.map D.int)with|↥c=>(match cw cs (ak ws) c with|↥v=>if aW anyF v=false then ok v else none|none=>none)|none=>none)=_;rw[bY];show(match cw cs (ak ws) c with|↥v=>if aW anyF v=false then ok v else none|none=>none)=_;rw[rQ,e];unfold ko;rw[e];rfl
def Lp(P:Rk Φ)(f:Fl)(vs:aa)(h:ks.length<1000):Φ 1035 [.cF f ks vs]=ok (.ow\((bh ks).map cH)):=by
 rw[P.Vo];show(if ks.length<1000 then ok (D.lst .ow ((bh ks).map cH))else none)=_;rw[zac h]
abbrev Dw:=Nat×ag
meta def qC(a:Int)(l:ae):ae:=l.map λh=>a+h
def cL:Int->List Dw->List (ag)
 |_,[]=>[]
 |a,d::Ds=>(d.2.map λr=>(r.1,qC a r.2))::cL (a+d.1) Ds
meta def cS(c rows:ag):ag:=c.flatMap λm=>rows.map λr=>(m.1*r.1,m.2++r.2)
def wX:ag->List (ag)->ag
 |c,[]=>c
 |c,rs::LL=>wX (cS c rs) LL
def m4{c rows:ag}{z:Row}:z∈cS c rows ↔ ∃m∈c,∃r∈rows,z=(m.1*r.1,m.2++r.2):=by
 unfold cS;rw[List.mem_flatMap];constructor
 ·rintro ⟨m,b,h⟩;ext(⟨r,a,rfl⟩:cr.mp h);exact⟨m,b,r,a,rfl⟩
 ·rintro ⟨m,b,r,a,rfl⟩;exact⟨m,b,abJ a⟩
def r6(c rows:ag):(cS c rows).length=c.length*rows.length:=by
 unfold cS;induction c with
 |nil=>simp
 |cons m c a=>rw[zaT,zaf,zaa,a,zae,zbg];left
def Rl(a:Int)(l:ae):Prop:=∀h∈l,0<=h/\h<a
def X3(a b:Int)(l:ae):Prop:=∀h∈l,a<=h/\h<b
theorem vg{a b:Int}:∀{l d r c:ae},Rl a l->Rl a d->X3 a b r->X3 a b c->l++r=d++c->l=d/\r=c
 |[],[],_,_,_,_,_,_,e=>⟨rfl,e⟩
 |[],y::d,r,c,_,h2,h3,_,e=>by
  exfalso;have f:y∈r:=by rw[show r=y::d++c from e];simp
  have:=h3 y f;have:=h2 y aag;left
 |x::l,[],r,c,h1,_,_,h4,e=>by
  exfalso;have f:x∈c:=by rw[<- show x::l++r=c from e];simp
  have:=h4 x f;have:=h1 x aag;left
 |x::l,y::d,r,c,h1,h2,h3,h4,e=>by
  ext(⟨e1,e2⟩:acP (show x::(l++r)=y::(d++c) from e))(⟨e3,e4⟩:vg (λh g=>h1 h (aaj _ g)) (λh g=>h2 h (aaj _ g)) h3 h4 e2);exact⟨by rw[e1,e3],e4⟩
def GP{a b:Int}{c rows:ag}(v:(c.map (·.2)).Nodup)(u:(rows.map (·.2)).Nodup)(j:∀m∈c,Rl a m.2)(k:∀r∈rows,X3 a b r.2):((cS c rows).map (·.2)).Nodup:=by
 induction c with
 |nil=>exact ace
 |cons m c d =>
  ext(⟨p,o⟩:gj.mp v)(d:d o λx g=>j x (aaj _ g));have e:(cS (m::c) rows).map (·.2)=(rows.map λr=>m.2++r.2)++(cS c rows).map (·.2):=by
   unfold cS;rw[zaT,zak,zah];rfl
  rw[e,zbH];refine⟨?_,d,λx g y t=>?_⟩
  ·have:(rows.map λr=>m.2++r.2)=(rows.map (·.2)).map (m.2 ++ ·):=by rw[zah];rfl
   exact[this]\u.map (f:=(m.2 ++ ·)) λx y (h:x≠y) e=>h (List.append_cancel_left e)
  ·rintro rfl;ext(⟨r,A,rfl⟩:cr.mp g)(⟨z,s,B⟩:cr.mp t)(⟨q,l,n,w,rfl⟩:m4.mp s)(i:j m aag)(⟨e1,_⟩:vg i (j q (aaj _ l)) (k r A) (k n w) B.symm);exact p (by show m.2∈c.map (·.2);rw[e1];exact abJ l)
inductive Lay:Int->Int->List (ag)->Prop
 |nil (a:Int):Lay a a []
 |cons {a b c:Int} {rs:ag} {LL:List (ag)} (yv:a<=b) (nd:(rs.map (·.2)).Nodup) (ab:∀r∈rs,X3 a b r.2) (t:Lay b c LL):Lay a c (rs::LL)
def QY{a b:Int}{LL:List (ag)}(L:Lay a b LL):∀{c:ag},0<=a->(c.map (·.2)).Nodup->(∀m∈c,Rl a m.2)->((wX c LL).map (·.2)).Nodup/\∀m∈wX c LL,Rl b m.2:=by
 induction L with
 |nil a=>intro c _ g f;exact⟨g,f⟩
 | @cons a b d p LL o nd i t j =>
  intro c q g f;refine j ⋯ (GP g nd f i) λm n=>?_;ext(⟨x,k,r,l,rfl⟩:m4.mp n);intro h e;ext((e|e):dz.mp e)
  ·have:=f x k h e;left
  ·have:=i r l h e;left
def Ou:Nat->List (ag)->Prop
 |_,[]=>True
 |c,rs::LL=>c*rs.length<=1000/\Ou (c*rs.length) LL
def yZ(k l:Nat)(rs:ag):Prop:=∀r∈rs,Sm k r.1/\r.2.length<=l
def wM{k l i j:Nat}{c rows:ag}(d:yZ k l c)(a:yZ i j rows):yZ (k+i) (l+j) (cS c rows):=λz f=>by
 ext(⟨m,b,r,e,rfl⟩:m4.mp f);exact⟨(d m b).1.mul (a r e).1,by have:=(d m b).2;have:=(a r e).2;simp;left⟩
def QX{i j:Nat}{LL:List (ag)}:∀{k l:Nat} {c:ag},yZ k l c->(∀a∈LL,yZ i j a)->yZ (k+LL.length*i) (l+LL.length*j) (wX c LL):=by
 induction LL with
 |nil=>intro k l c h _;simpa [wX]using h
 |cons a LL d =>
  intro k l c h b;have:=d (wM h (b a aag)) λx e=>b x (aaj _ e);rw[zae,show k+(LL.length+1)*i=k+i+LL.length*i by rw[zbg];left,show l+(LL.length+1)*j=l+j+LL.length*j by rw[zbg];left];exact this
theorem jK:∀(a:Int) (Ds:List Dw),(cL a Ds).length=Ds.length
 |_,[]=>rfl
 |a,d::Ds=>by rw[cL,zae,jK,zae]
def G8{a:Int}{Ds:List Dw}{rs:ag}(h:rs∈cL a Ds):∃d∈Ds,∃b,rs=d.2.map λr=>(r.1,qC b r.2):=by
 induction Ds generalizing a with
 |nil=>cases h
 |cons d Ds c =>
  ext((rfl|h):c0.mp h)
  ·exact⟨d,aag,a,rfl⟩
  ·ext(⟨e,f,b,g⟩:c h);exact⟨e,aaj _ f,b,g⟩
meta def fq(Ds:List Dw):Int:=(Ds.map λd=>(d.1:Int)).sum
def IF{a:Int}{l m:ae}(h:qC a l=qC a m):l=m:=by
 unfold qC at h;exact List.map_inj_right (λx y e=>by left) |>.mp h
theorem AU:∀{a:Int} {Ds:List Dw},(∀d∈Ds,(d.2.map (·.2)).Nodup/\∀r∈d.2,Rl d.1 r.2)->Lay a (a+fq Ds) (cL a Ds)
 |a,[],_=>by rw[show a+fq []=a by simp[fq]];exact Lay.nil a
 |a,d::Ds,h=>by
  ext(⟨n,m⟩:h d aag)(g:AU (a:=a+d.1) (Ds:=Ds) λe l=>h e (aaj _ l));have e:a+fq (d::Ds)=a+d.1+fq Ds:=by simp[fq];left
  rw[e];refine .cons (b:=a+d.1) ⋯ ?_ (λr k=>?_) g
  ·rw[zah];have:((λx:Row=>x.2)∘λr:Row=>(r.1,qC a r.2))=qC a∘(·.2):=rfl;exact[this,-zah]\n.map (f:=qC a) λx y (c:x≠y) e=>c (IF e)
  ·ext(⟨s,j,rfl⟩:cr.mp k);intro x c;ext(⟨y,i,rfl⟩:cr.mp c);have:=m s j y i;left
def Sb{i:Nat}{op:Bool}{e:CE}{a b:Int}(h:bg Φ e ρ=ok ↑b)(c:ρ[i]?=↥↥↑a):ic Φ (.aug i op e) ρ=ok (.nx,ρ.set i ↥↑(if op then a+b else a - b)):=by
 show bd (bd (bg Φ e ρ) intD) _=_;rw[h];show(match ρ[i]? with|↥↥↑a=>_|_=>none)=_;rw[c]
def ie(f:Fl)(d:Dw):D:=.tup [.int d.1,.lst f (bj d.2)]
def aO(f:Fl)(Ds:List Dw):aa:=Ds.map (ie f)
def fL(g:Fl->Fl)(f:Fl)(d:Dw):aJ g (ie f d)=ie (g f) d:=by
 show D.tup [.int d.1,.lst (g f) (ao g (bj d.2))]=_;rw[dM];rfl
theorem bz(g:Fl->Fl)(f:Fl):∀a:List Dw,ao g (aO f a)=aO (g f) a
 |[]=>rfl
 |d::a=>by
  show aJ g (ie f d)::ao g (aO f a)=_;rw[fL,bz g f a];rfl
def gM(f:Fl)(Ds:List Dw):(aO f Ds).length=Ds.length:=ab_ ..
def t8(p:Fl->Bool)(f:Fl)(d:Dw):aW p (ie f d)=p f:=by
 show(false||((p f||aR p (bj d.2))||false))=_;rw[jG];simp
theorem iy{p:Fl->Bool}{f:Fl}(h:p f=false):∀a:List Dw,aR p (aO f a)=false
 |[]=>rfl
 |d::a=>by
  show(aW p (ie f d)||aR p (aO f a))=false;rw[t8,h,iy h a];rfl
meta def xQ:ai:=[.ex (.call 17 [(.v 1)])]
def uD:ai:=[.ifs (.not (.qM (.v 0) .list)) [.rs 1] [],.fr (.nm 1) (.seq (.v 0)) xQ,.ifs (.or [(.cmp .lt (.bf .len [(.v 0)]) ↑1),(.cmp .gt (.bf .len [(.v 0)]) (.glo "MOST_LAYERS" 4))]) [.rs 10] []]
def Ld(m:aD):Prop:=∀a:List Dw,1<=a.length->a.length<=4->(∀d∈a,∃k,Dr k d.1 d.2)->m [.fz\(aO .fz a)]=ok .bX
theorem um(Φ:aY)(c:eW (Φ 17))(b:aM):∀(Ds:List Dw) (c1:aM),(∀d∈Ds,∃k,Dr k d.1 d.2)->∃a,dw (λd ρ=>cn (.nm 1) d ρ) (λρ=>bF Φ xQ ρ) (aO .fz Ds) [b,c1]=ok (.nx,[b,a])
 |[],c1,_=>⟨c1,rfl⟩
 |d::Ds,c1,h=>by
  ext(⟨k,i⟩:h d aag)(e:c k d.1 d.2 i);have j:Φ 17 [ie .fz d]=ok .bX:=e;ext(⟨a,f⟩:um Φ c b Ds ↥(ie .fz d) λx g=>h x (aaj _ g));refine⟨a,eQ (ρ1:=[b,↥(ie .fz d)]) ⇑5 (ρ2:=[b,↥(ie .fz d)]) ?_ f⟩;simp[xQ,fL,j]
theorem YO(Φ:aY)(h:eW (Φ 17)):Ld (mk Φ 1 2 uD):=by
 intro a j i hd;ext(⟨c1,g⟩:um Φ h ↥(.fz\(aO .fz a)) a none hd)(d:gM .fz a);have c:cD Φ (.seq (.v 0)) [↥(.fz\(aO .fz a)),none]=ok (aO .fz a,[↥(.fz\(aO .fz a)),none]):=by
  rw[tT (f:=.fz) (ds:=aO .fz a) (by simp[bz]),bz,iy (by rfl)];rfl
 ext(e:fV (Φ:=Φ) (t:=.nm 1) (b:=xQ) c g);have c1:¬ ((aO .fz a).length:Int)<1:=by rw[d];left
 have c2:¬ (4:Int)<((aO .fz a).length:Int):=by rw[d];left
 generalize aO .fz a=X at *;simp[mk_eq,uD,eF,e,c1,c2]
meta def m6(Ds:List Dw):Int->ae->Int
 |c,[]=>c
 |c,g::gs=>m6 Ds (c*((Ds.getD g.toNat (0,[])).2.length:Int)) gs
meta def Iv:ai:=[.mut 1010 2 [(.bf .len [(.ix (.ix (.v 0) (.v 3)) ↑1)])]]
def K8:ai:=[.asg (.nm 2) ↑1,.fr (.nm 3) (.seq (.v 1)) Iv,.ret (.v 2)]
def Hm(m:aD):Prop:=∀(Ds:List Dw) (gs:ae),(∀d∈Ds,d.2.length<=1000)->(∀g∈gs,0<=g/\g<(Ds.length:Int))->m [.fz\(aO .fz Ds),.tup (ak gs)]=ok ↑(m6 Ds 1 gs)
def QG{Ds:List Dw}{g:Int}(b:0<=g)(c:g<(Ds.length:Int)):xh (aO .fz Ds) g=ok (ie .fz (Ds.getD g.toNat (0,[]))):=by
 have a:g.toNat<Ds.length:=by left
 have:=at_of (ds:=aO .fz Ds) (i:=g) (d:=ie .fz (Ds.getD g.toNat (0,[]))) b (by
  unfold aO;rw[bv,ce a];simp[a])
 rw[this,fL];rfl
def getD_mem{Ds:List Dw}{g:Int}(c:0<=g)(b:g<(Ds.length:Int)):Ds.getD g.toNat (0,[])∈Ds:=by
 have a:g.toNat<Ds.length:=by left
 have:Ds.getD g.toNat (0,[])=Ds[g.toNat]:=by simp[a]
 exact[this]\aaU a
theorem AQ(Φ:aY)(f:Φ 1010=rK){Ds:List Dw}(j:∀d∈Ds,d.2.length<=1000)(c1:aM):∀(gs:ae) (c:Int) (a:aM),(∀g∈gs,0<=g/\g<(Ds.length:Int)) ->
  ∃b,dw (λd ρ=>cn (.nm 3) d ρ) (λρ=>bF Φ Iv ρ) (ak gs) [↥(.fz\(aO .fz Ds)),c1,↥↑c,a]=ok (.nx,[↥(.fz\(aO .fz Ds)),c1,↥↑(m6 Ds c gs),b])
 |[],c,a,_=>⟨a,rfl⟩
 |g::gs,c,a,h=>by
  ext(⟨l,k⟩:h g aag)(q:QG l k)(r:j _ (getD_mem l k))(⟨b,m⟩:AQ Φ f j c1 gs (c*((Ds.getD g.toNat (0,[])).2.length:Int)) ↥↑g λx n=>h x (aaj _ n));have en:m6 Ds c (g::gs)=m6 Ds (c*((Ds.getD g.toNat (0,[])).2.length:Int)) gs:=rfl;rw[en,yk];generalize Ds.getD g.toNat (0,[])=d at *;have e1:rK [.int c,.int (d.2.length:Int)]=ok ↑(c*(d.2.length:Int)):=abE (zY c (by rw[zbA];left));have o:ie .fz d=.tup [.int d.1,.fz\(bj d.2)]:=rfl;ext(e:xE (Φ:=Φ) (p:=1010) (i:=2) (es:=[(.bf .len [(.ix (.ix (.v 0) (.v 3)) ↑1)])]) (ρ:=[↥(.fz\(aO .fz Ds)),c1,↥↑c,↥↑g]) (xs:=[.int d.2.length]) (by simp[bz,q,o]) ⇑5 rfl ([f]\e1));simp only[J2]at e;refine⟨b,eQ (ρ1:=[↥(.fz\(aO .fz Ds)),c1,↥↑c,↥↑g]) ⇑5 (ρ2:=[↥(.fz\(aO .fz Ds)),c1,↥↑(c*(d.2.length:Int)),↥↑g]) ?_ m⟩;rw[Iv,bI,e];rfl
theorem YR(Φ:aY)(e:Φ 1010=rK):Hm (mk Φ 2 4 K8):=by
 intro d a h f;ext(⟨j,i⟩:AQ Φ e h ↥(.tup (ak a)) a 1 none f);have c:cD Φ (.seq (.v 1)) [↥(.fz\(aO .fz d)),↥(.tup (ak a)),↥↑1,none]=ok (ak a,[↥(.fz\(aO .fz d)),↥(.tup (ak a)),↥↑1,none]):=by
  rw[ZA (ds:=ak a) ⇑5];simp
 ext(g:fV (Φ:=Φ) (t:=.nm 3) (b:=Iv) c i);generalize aO .fz d=X at *;simp[mk_eq,K8,g]
meta def AE:CE:=.comp 1 (.nm 0) [] .seq [(.v 1)] [] (.ix (.v 0) ↑0)
meta def Gs:CE:=.comp 2 (.tp [0,1]) [1] .seq [(.ix (.v 0) ↑1)] [] (.call 99 [(.v 2),(.v 1)])
def uE:ai:=[.ifs (.cmp .gt (.bf .jv [AE]) (.glo "MOST_HOUSES" 12)) [.rs 10] [],.ifs (.cmp .gt (.bf .jv [Gs]) (.glo "MOST_CHOICES" 500)) [.rs 10] []]
def wR(Ds:List Dw)(gs:ag):Int:=(gs.map λr=>m6 Ds 1 r.2).sum
def XY(Ds:List Dw)(gs:ag):Prop:=∀r∈gs,∀g∈r.2,0<=g/\g<(Ds.length:Int)
def yO(Φ:aY){Ds:List Dw}(b:Ds.length<=1000)(f:Fl)(a:aM)(r:aV):bg Φ AE (a::↥(.lst f (aO f Ds))::r)=ok (.ow\(ak (Ds.map λd=>(d.1:Int)))):=by
 unfold AE;rw[c_ (xs:=[.lst (bq f) (aO (bq f) Ds)]) (items:=Ds.map (ie (aK (bq f)))) (ds:=Ds.map λd=>.int d.1) (by simp[bz]) (by rw[dt,bz];rfl) (bV λd hd=>⟨[↥(ie (aK (bq f)) d)],by simp[bL],by simp,?_⟩) (by simp;exact cA ⋯)]
 ·simp[aN,ak]
 ·rw[show ie (aK (bq f)) d=.tup [.int d.1,.lst (aK (bq f)) (bj d.2)] from rfl];simp
variable {gs:ag}
def G1(Φ:aY)(c:Hm (Φ 99)){n:Nat}{Ds:List Dw}(g:gs.length<=1000)(f:∀d∈Ds,d.2.length<=1000)(G:XY Ds gs):bg Φ Gs [↥(eR n gs),↥(.fz\(aO .fz Ds))]=ok (.ow\(ak (gs.map λr=>m6 Ds 1 r.2))):=by
 unfold Gs;have a:b6 Φ [(.ix (.v 0) ↑1)] [↥(eR n gs),↥(.fz\(aO .fz Ds))]=ok [.fz\(bj gs)]:=by
  rw[show eR n gs=.tup [.int n,.fz\(bj gs)] from rfl];simp
 rw[c_ (xs:=[.fz\(bj gs)]) (items:=bj gs) (ds:=gs.map λr=>.int (m6 Ds 1 r.2)) a (by rw[dt];simp) (bV λr b=>⟨[↥(qD r.1),↥(.tup (ak r.2)),↥(.fz\(aO .fz Ds))],by simp[bL,rD,bz],by simp,?_⟩) (by simp;exact cA ⋯)]
 ·simp[aN,ak]
 ·ext(e:c Ds r.2 f (G r b));simp[bz,e]
def Ws(m:aD):Prop:=∀(n:Nat) (gs:ag) (Ds:List Dw),gs.length<=1000->Ds.length<=1000->(∀d∈Ds,d.2.length<=1000)->XY Ds gs->fq Ds<=12->wR Ds gs<=500->m [eR n gs,.fz\(aO .fz Ds)]=ok .bX
theorem YS(Φ:aY)(h:Hm (Φ 99)):Ws (mk Φ 2 2 uE):=by
 intro n gs a e f i G j g;ext(e1:yO Φ f .fz ↥(eR n gs) [])(e2:G1 Φ h (n:=n) e i G);have c:qU .jv [.ow\(ak (a.map λd=>(d.1:Int)))]=ok ↑(fq a):=wz _ _;have b:qU .jv [.ow\(ak (gs.map λr=>m6 a 1 r.2))]=ok ↑(wR a gs):=wz _ _;have c1:¬ (12:Int)<fq a:=by left
 have c2:¬ (500:Int)<wR a gs:=by left
 generalize eR n gs=Y at *;generalize aO .fz a=X at *;simp[mk_eq,uE,e1,e2,c,b,c1,c2]
meta def Cf:CE:=.comp 2 (.tp [0,1]) [1] .seq [(.ix (.v 3) ↑1)] [] (.tup [(.v 0),(.bf .tuple1 [(.comp 1 (.nm 0) [2] .seq [(.v 1)] [] (.bin .add (.v 1) (.v 0)))])])
def Ir:ai:=[.app 2 Cf,.aug 1 true (.ix (.v 3) ↑0)]
def K3:ai:=[.asg (.nm 1) ↑0,.asg (.nm 2) (.lst []),.fr (.nm 3) (.seq (.v 0)) Ir,.ret (.v 2)]
def bK(f:Fl)(LL:List (ag)):aa:=LL.map λa=>.lst f (bj a)
theorem dW(g:Fl->Fl)(f:Fl):∀a:List (ag),ao g (bK f a)=bK (g f) a
 |[]=>rfl
 |rs::a=>by
  show D.lst (g f) (ao g (bj rs))::ao g (bK f a)=_;rw[dM,dW g f a];rfl
theorem mU{p:Fl->Bool}{f:Fl}(h:p f=false):∀a:List (ag),aR p (bK f a)=false
 |[]=>rfl
 |rs::a=>by
  show((p f||aR p (bj rs))||aR p (bK f a))=false;rw[h,jG,mU h a];rfl
def zD(f:Fl)(LL:List (ag)):(bK f LL).length=LL.length:=ab_ ..
def S9(Φ:aY){d:Dw}(i:d.2.length<=1000)(f:∀r∈d.2,r.2.length<=1000)(a:Int)(b c2:aM):bg Φ Cf [b,↥↑a,c2,↥(ie .fz d)]=ok (.ow\(bj (d.2.map λr=>(r.1,qC a r.2)))):=by
 unfold Cf;have c:b6 Φ [(.ix (.v 3) ↑1)] [b,↥↑a,c2,↥(ie .fz d)]=ok [.fz\(bj d.2)]:=by
  rw[show ie .fz d=.tup [.int d.1,.fz\(bj d.2)] from rfl];simp
 rw[c_ (xs:=[.fz\(bj d.2)]) (items:=bj d.2) (ds:=bj (d.2.map λr=>(r.1,qC a r.2))) c (by rw[dt];simp) ?_ ([df,zaa]\cA ⋯)]
 ·rw[dM]
 ·unfold bj;rw[zah];refine bV λr e=>⟨[↥(qD r.1),↥(.tup (ak r.2)),↥↑a],by simp[bL,rD],by simp,?_⟩
  have g:bg Φ (.comp 1 (.nm 0) [2] .seq [(.v 1)] [] (.bin .add (.v 1) (.v 0))) [↥(qD r.1),↥(.tup (ak r.2)),↥↑a]=ok (.ow\(ak (qC a r.2))):=by
   rw[c_ (xs:=[.tup (ak r.2)]) (items:=r.2.map D.int) (ds:=r.2.map λh=>.int (a+h)) ⇑5 (by rw[tS];simp;rfl) (bV λh _=>⟨[↥↑h,↥↑a],by simp[bL],by simp,by simp⟩) (by simp;exact cA (by have:=f r e;left))];simp[aN,ak,qC]
  simp[g];rfl
theorem zH(Φ:aY)(c:aM):∀(Ds:List Dw) (a:Int) (LL:List (ag)) (f:aM),LL.length+Ds.length<=1000->(∀d∈Ds,d.2.length<=1000/\∀r∈d.2,r.2.length<=1000) ->
  ∃h g,dw (λd ρ=>cn (.nm 3) d ρ) (λρ=>bF Φ Ir ρ) (aO .fz Ds) [c,↥↑a,↥(.ow\(bK .ow LL)),f]=ok (.nx,[c,h,↥(.ow\(bK .ow (LL++cL a Ds))),g])
 |[],a,LL,f,_,_=>⟨↥↑a,f,by simp[cL,aO,oz]⟩
 |d::Ds,a,LL,f,hl,hd=>by
  rw[zae]at hl;ext(⟨p,o⟩:hd d aag)(e1:S9 Φ p o a c ↥(.ow\(bK .ow LL)))(⟨h,g,l⟩:zH Φ c Ds (a+d.1) (LL++[d.2.map λr=>(r.1,qC a r.2)]) ↥(ie .fz d) (by simp;left) λx m=>hd x (aaj _ m));have t:bK .ow (LL++[d.2.map λr=>(r.1,qC a r.2)])=bK .ow LL++[.ow\(bj (d.2.map λr=>(r.1,qC a r.2)))]:=by unfold bK;rw[zak];rfl
  have s:LL++cL a (d::Ds)=LL++[d.2.map λr=>(r.1,qC a r.2)]++cL (a+d.1) Ds:=by simp[cL]
  have n:(bK .ow LL).length<cB:=by rw[zD];show _<1000000;left
  rw[s];refine⟨h,g,eQ (ρ1:=[c,↥↑a,↥(.ow\(bK .ow LL)),↥(ie .fz d)]) ⇑5 (ρ2:=[c,↥↑(a+d.1),↥(.ow\(bK .ow (LL++[d.2.map λr=>(r.1,qC a r.2)]))),↥(ie .fz d)]) ?_ l⟩;rw[t];have q:HC (ie .fz d) ↑0=ok ↑d.1:=by rw[show ie .fz d=.tup [.int d.1,.fz\(bj d.2)] from rfl];simp
  have hR:aR bS (bj (d.2.map λr=>(r.1,qC a r.2)))=false:=jG _ _;generalize bj (d.2.map λr=>(r.1,qC a r.2))=R at *;generalize bK .ow LL=Y at *;ext(j:Sb (Φ:=Φ) (i:=1) (op:=true) (e:=(.ix (.v 3) ↑0)) (ρ:=[c,↥↑a,↥(.ow\(Y++[.ow\R])),↥(ie .fz d)]) (a:=a) (b:=d.1) (by simp[fL,q]) rfl);simp only[J2,if_true]at j;rw[Ir,bI];have k:ic Φ (.app 2 Cf) [c,↥↑a,↥(.ow\Y),↥(ie .fz d)]=ok (.nx,[c,↥↑a,↥(.ow\(Y++[.ow\R])),↥(ie .fz d)]):=by
   rw[Sd,Fj Φ Cf _ rfl,e1];have:cR Cf [c,↥↑a,↥(.ow\Y),↥(ie .fz d)] (ok (.ow\R))=ok (.ow\R,[c,↥↑a,↥(.ow\Y),↥(ie .fz d)]):=by simp[hR]
   rw[this,K9 rfl n];rfl
  rw[k,dH,bI,j];rfl
def Wo(m:aD):Prop:=∀a:List Dw,a.length<=1000->(∀d∈a,d.2.length<=1000/\∀r∈d.2,r.2.length<=1000)->m [.fz\(aO .fz a)]=ok (.ow\(bK .ow (cL 0 a)))
theorem YK(Φ:aY):Wo (mk Φ 1 4 K3):=by
 intro a g hd;ext(⟨i,h,e⟩:zH Φ ↥(.fz\(aO .fz a)) a 0 [] none ⇑g hd);rw[zaz]at e;have c:cD Φ (.seq (.v 0)) [↥(.fz\(aO .fz a)),↥↑0,↥(.ow\(bK .ow [])),none]=ok (aO .fz a,[↥(.fz\(aO .fz a)),↥↑0,↥(.ow\(bK .ow [])),none]):=by
  rw[tT (f:=.fz) (ds:=aO .fz a) (by simp[bz]),bz,iy (by rfl)];rfl
 ext(d:fV (Φ:=Φ) (t:=.nm 3) (b:=Ir) c e);have e0:bK .ow []=[]:=rfl;rw[e0]at d;generalize aO .fz a=X at *;generalize bK .ow (cL 0 a)=Y at *;simp[mk_eq,K3,d,cq]
def BY(a b:ae):ak a++ak b=ak (a++b):=by simp[ak]
def Ha{a b:ae}(h:a.length+b.length<=1000000):dh .add (.tup (ak a)) (.tup (ak b))=ok (.tup (ak (a++b))):=by
 show(if (ak a).length+(ak b).length<=cB then ok (D.tup (ao bq (ak a++ak b)))else none)=_;rw[zac ([rJ,rJ]\h),BY,fg]
def Ui(r:Row):HC (rD r) ↑0=ok (qD r.1):=by unfold rD;simp
def Uh(r:Row):HC (rD r) ↑1=ok (.tup (ak r.2)):=by unfold rD;simp
meta def wG:CE:=.comp 1 (.nm 0) [5] .seq [(.v 3)] [] (.tup [(.call 6 [(.ix (.v 1) ↑0),(.ix (.v 0) ↑0)]),(.bin .add (.ix (.v 1) ↑1) (.ix (.v 0) ↑1))])
def zu:ai:=[.mut 1013 4 [wG]]
def zt:ai:=[.asg (.nm 4) (.lst []),.fr (.nm 5) (.seq (.v 2)) zu,.asg (.nm 2) (.v 4)]
def K7:ai:=[.asg (.nm 2) (.lst [(.tup [(.v 0),(.tup [])])]),.fr (.nm 3) (.seq (.v 1)) zt,.ret (.v 2)]
meta def yH(m:Row)(rows:ag):ag:=rows.map λr=>(m.1*r.1,m.2++r.2)
def QZ(Φ:aY)(n:me (Φ 6)){k i l j:Nat}{m:Row}{rows:ag}(e:Sm k m.1/\m.2.length<=l)(d:yZ i j rows)(g:k<=4000)(h:i<=4000)(f:l+j<=1000)(t:rows.length<=1000)(p c1 c2 o:aM):bg Φ wG [p,c1,c2,↥(.fz\(bj rows)),o,↥(rD m)]=ok (.ow\(bj (yH m rows))):=by
 unfold wG;rw[c_ (xs:=[.fz\(bj rows)]) (items:=bj rows) (ds:=bj (yH m rows)) ⇑5 (by rw[dt];simp) ?_ (by unfold yH;rw[df,zaa];exact cA ⋯)]
 ·rw[dM]
 ·unfold bj yH;rw[zah];refine bV λr q=>⟨[↥(rD r),↥(rD m)],by simp[bL],by simp,?_⟩
  ext(⟨c,s⟩:d r q)(e1:n m.1 r.1 (e.1.mono g) (c.mono h))(e2:Ha (a:=m.2) (b:=r.2) ⋯);simp[Ui,Uh,e1,e2];rfl
theorem wY(Φ:aY)(t:me (Φ 6))(h:Φ 1013=Cb){k i l j:Nat}{rows:ag}(o:yZ i j rows)(r:k<=4000)(s:i<=4000)(c:l+j<=1000)(q:rows.length<=1000)(b c1 c2:aM):∀(C a:ag) (e:aM),yZ k l C->a.length+C.length*rows.length<=1000000 ->
  ∃f,dw (λd ρ=>cn (.nm 5) d ρ) (λρ=>bF Φ zu ρ) (bj C) [b,c1,c2,↥(.fz\(bj rows)),↥(.ow\(bj a)),e]=ok (.nx,[b,c1,c2,↥(.fz\(bj rows)),↥(.ow\(bj (a++cS C rows))),f])
 |[],a,e,_,_=>⟨e,by simp[cS,bj,oz]⟩
 |m::C,a,e,hC,hn=>by
  rw[zae,zbg]at hn;ext(e1:QZ Φ t (hC m aag) o r s c q b c1 c2 ↥(.ow\(bj a)));have n:(yH m rows).length=rows.length:=ab_ ..;ext(⟨f,u⟩:wY Φ t h o r s c q b c1 c2 C (a++yH m rows) ↥(rD m) (λx v=>hC x (aaj _ v)) (by rw[zaf,n];left));have e2:a++cS (m::C) rows=a++yH m rows++cS C rows:=by unfold cS yH;rw[zaT,zai]
  have e3:Φ 1013 [.ow\(bj a),.ow\(bj (yH m rows))]=ok (.ow\(bj (a++yH m rows))):=by
   rw[h];show(if aR anyF (bj (yH m rows))=false/\(bj a).length+(bj (yH m rows)).length<=cB then ok (D.lst .ow (bj a++bj (yH m rows)))else none)=_;rw[zac ⟨jG _ _,by rw[df,df,n];show _<=1000000;left⟩];unfold bj;rw[zak]
  have g:=xE (Φ:=Φ) (p:=1013) (i:=4) (es:=[wG]) (ρ:=[b,c1,c2,↥(.fz\(bj rows)),↥(.ow\(bj a)),↥(rD m)]) (xs:=[.ow\(bj (yH m rows))]) (by
   show bd (bg Φ wG _) _=_;rw[e1];rfl) ⇑5 rfl e3
  simp only[J2]at g;rw[e2];refine⟨f,eQ (ρ1:=[b,c1,c2,↥(.fz\(bj rows)),↥(.ow\(bj a)),↥(rD m)]) ⇑5 (ρ2:=[b,c1,c2,↥(.fz\(bj rows)),↥(.ow\(bj (a++yH m rows))),↥(rD m)]) ?_ u⟩;rw[zu,bI,g];rfl
theorem wV(Φ:aY)(p:me (Φ 6))(m:Φ 1013=Cb){i j:Nat}(n:i<=4000)(c c1:aM):∀(LL:List (ag)) (k l:Nat) (C:ag) (g e a:aM),yZ k l C->(∀rs∈LL,yZ i j rs/\rs.length<=1000)->k+LL.length*i<=4000->l+LL.length*j<=1000->Ou C.length LL ->
  ∃s F G,dw (λd ρ=>cn (.nm 3) d ρ) (λρ=>bF Φ zt ρ) (bK .fz LL) [c,c1,↥(.ow\(bj C)),g,e,a]=ok (.nx,[c,c1,↥(.ow\(bj (wX C LL))),s,F,G])
 |[],k,l,C,g,e,a,_,_,_,_,_=>⟨g,e,a,rfl⟩
 |rows::LL,k,l,C,g,e,a,hC,hL,hk,hl,ho=>by
  rw[zae,zbg,TR]at hk hl;ext(⟨q,z⟩:hL rows aag)(⟨H,u⟩:ho)(⟨r,e1⟩:wY Φ p m (k:=k) (l:=l) q ⋯ n ⋯ z c c1 ↥(.fz\(bj C)) C [] a hC (by simp;left));rw[zaz]at e1;ext(⟨E,B,A,w⟩:wV Φ p m n c c1 LL (k+i) (l+j) (cS C rows) ↥(.fz\(bj rows)) none r (wM hC q) (λx y=>hL x (aaj _ y)) ⋯ ⋯ ([r6]\u));have h:cD Φ (.seq (.v 2)) [c,c1,↥(.ow\(bj C)),↥(.fz\(bj rows)),↥(.ow\(bj [])),a]=ok (bj C,[c,c1,↥(.fz\(bj C)),↥(.fz\(bj rows)),↥(.ow\(bj [])),a]):=by
   rw[tT (f:=.al) (ds:=bj C) ⇑5];simp[pY,Vx]
  ext(o:fV (Φ:=Φ) (t:=.nm 5) (b:=zu) h e1);refine⟨E,B,A,?_⟩;show dw _ _ (.fz\(bj rows)::bK .fz LL) _=_;refine eQ (ρ1:=[c,c1,↥(.ow\(bj C)),↥(.fz\(bj rows)),e,a]) ⇑5 (ρ2:=[c,c1,↥(.ow\(bj (cS C rows))),↥(.fz\(bj rows)),none,r]) ?_ w;have e0:bj []=[]:=rfl;rw[e0]at o;generalize bj (cS C rows)=X at *;simp[zt,o,cq]
def Rg(m:aD):Prop:=∀(q:Rat) (LL:List (ag)) (k i j:Nat),Sm k q->(∀rs∈LL,yZ i j rs/\rs.length<=1000)->i<=4000->k+LL.length*i<=4000->LL.length*j<=1000->Ou 1 LL->m [qD q,.fz\(bK .fz LL)]=ok (.ow\(bj (wX [(q,[])] LL)))
theorem YQ(Φ:aY)(p:me (Φ 6))(e:Φ 1013=Cb):Rg (mk Φ 2 6 K7):=by
 intro q a k i j h o n m u l;ext(⟨y,x,w,s⟩:wV Φ p e n ↥(qD q) ↥(.fz\(bK .fz a)) a k 0 [(q,[])] none none none (λr g=>[bn.mp g]\⟨h,aao _⟩) o m ⋯ l);have c:cD Φ (.seq (.v 1)) [↥(qD q),↥(.fz\(bK .fz a)),↥(.ow\(bj [(q,[])])),none,none,none]=ok (bK .fz a,[↥(qD q),↥(.fz\(bK .fz a)),↥(.ow\(bj [(q,[])])),none,none,none]):=by
  rw[tT (f:=.fz) (ds:=bK .fz a) (by simp[dW]),dW,mU (by rfl)];rfl
 ext(d:fV (Φ:=Φ) (t:=.nm 3) (b:=zt) c s);have e0:bj [(q,[])]=[.tup [qD q,.tup []]]:=rfl;rw[e0]at d;generalize bK .fz a=X at *;generalize bj (wX [(q,[])] a)=Y at *;simp[mk_eq,K7,d,cq]
def Sa{p i:Nat}{k e:CE}{kd d x:D}(h:bg Φ k ρ=ok kd)(g:bg Φ e (ρ.set i none)=ok d)(f:ρ[i]?=↥↥x)(c:aW anyF kd=false)(b:aW anyF d=false)(a:Φ p [x,kd,d]=ok d'):ic Φ (.mu2 p i k e) ρ=ok (.nx,ρ.set i ↥d'):=by
 show bd (bg Φ k ρ) (λkd=>bd (bg Φ e (ρ.set i none)) λd=>EL Φ p i ρ kd d)=_;rw[h,cM,g,cM];unfold EL;rw[f];show(if aW anyF kd=false/\aW anyF d=false then bd (Φ p [x,kd,d]) λd'=>ok (Fo.nx,ρ.set i ↥d')else none)=_;rw[zac ⟨c,b⟩,a];rfl
meta def kv(g:ae->bB)(c:ae)(q:Rat):ae->bB:=λk=>if k=c then g k++[q]else g k
theorem vx(g:ae->bB)(c:ae)(q:Rat)(b:(g c).length<cB):∀ks:az,ks.Nodup->(c∉ks->g c=[])->mG ks (ks.map λk=>.ow\(fc (g k))) c (qD q)=↥((bp ks c).map λk=>.ow\(fc (kv g c q k)))
 |[],_,h0=>by
  have e:bp [] c=[c]:=by unfold bp;rw[zab ⇑5];rfl
  have e2:kv g c q c=[q]:=by unfold kv;rw[zac rfl,h0 ⇑5];rfl
  rw[e,zam,e2];rfl
 |k::ks,hn,h0=>by
  ext(⟨h,f⟩:gj.mp hn);show(if k=c then(match Ep (.ow\(fc (g k)))with|↥gs=>if gs.length<cB then ↥(.ow\(gs++[qD q])::ks.map λk=>.ow\(fc (g k))) else none|none=>none)else(mG ks (ks.map λk=>.ow\(fc (g k))) c (qD q)).map (D.lst .ow (fc (g k)) :: ·))=_;by_cases e:k=c
  ·subst e;rw[zac rfl];show(if (fc (g k)).length<cB then ↥(D.lst .ow (fc (g k)++[qD q])::ks.map λk=>.ow\(fc (g k))) else none)=_;rw[zac ⇑b];have a:bp (k::ks) k=k::ks:=by unfold bp;rw[zac zbl]
   rw[a,zam];congr 2
   ·unfold kv;rw[zac rfl];simp[fc]
   ·refine aaZ λj d=>?_;unfold kv;rw[zab λz:j=k=>h (z▸d)]
  ·rw[zab e,vx g c q b ks f λz=>h0 λm=>(c0.mp m).elim (λw=>e w.symm) z];have a:bp (k::ks) c=k::bp ks c:=by
    unfold bp;by_cases m:c∈ks
    ·rw[zac m,zac (zaU _ m)]
    ·rw[zab m,zab λz=>(c0.mp z).elim (λw=>e w.symm) m];rfl
   rw[a,zam];have e2:kv g c q k=g k:=by unfold kv;rw[zab e]
   rw[e2];rfl
def M6(f:Fl)(ks:az)(g:ae->bB):D:=.cF f ks (ks.map λk=>.lst f (fc (g k)))
def tN(m:Fl->Fl)(f:Fl)(ks:az)(g:ae->bB):aJ m (M6 f ks g)=M6 (m f) ks g:=by
 show D.cF (m f) ks (ao m (ks.map λk=>.lst f (fc (g k))))=_;rw[aN,zah];congr 1;exact aaZ λk _=>by show aJ m (.lst f (fc (g k)))=_;simp
def J9(m:Fl->Bool)(f:Fl)(ks:az)(g:ae->bB)(h:m f=false):aW m (M6 f ks g)=false:=by
 show(m f||aR m (ks.map λk=>.lst f (fc (g k))))=_;rw[h,dv m (λk=>by simp[h])];rfl
def z9(a:ae):keyOf (.tup (ak a))=↥a:=bY a
def Sn(a:Φ 1201=xM)(hn:ks.Nodup)(d:ks.length<1000)(g:ae->bB)(c:ae)(q:Rat)(e:(g c).length<1000)(b:c∉ks->g c=[]):Φ 1201 [M6 .ow ks g,.tup (ak c),qD q]=ok (M6 .ow (bp ks c) (kv g c q)):=by
 rw[a];show(match keyOf (.tup (ak c))with|↥c=>(match mG ks (ks.map λk=>.ow\(fc (g k))) c (qD q)with|↥ws=>if cq .ow=true/\ks.length<cB then ok (D.cF .ow (bp ks c) ws)else none|none=>none)|none=>none)=_;rw[z9];show(match mG ks (ks.map λk=>.ow\(fc (g k))) c (qD q)with|↥ws=>if cq .ow=true/\ks.length<cB then ok (D.cF .ow (bp ks c) ws)else none|none=>none)=_;rw[vx g _ q (by show _<1000000;left) ks hn b];exact abE ⟨rfl,by show _<1000000;left⟩
def VU(a:Φ 1039=yB)(g:ae->bB)(c:ae)(b:c∈ks):Φ 1039 [M6 .fz ks g,.tup (ak c)]=ok (.fz\(fc (g c))):=by
 rw[a];show(match keyOf (.tup (ak c))with|↥c=>(match cw ks (ks.map λk=>D.lst .fz (fc (g k))) c with|↥v=>if aW pf v=false then ok v else none|none=>none)|none=>none)=_;rw[z9];show(match cw ks (ks.map λk=>D.lst .fz (fc (g k))) c with|↥v=>if aW pf v=false then ok v else none|none=>none)=_;exact[wm (λk=>D.lst .fz (fc (g k))),zac b]\abE (by simp[pf])
def jB(rows:ag):az:=rows.foldl (λks r=>bp ks r.2) []
meta def jo(rows:ag)(l:ae):bB:=(rows.filter λr=>decide (r.2=l)).map (·.1)
def BM(rows:ag)(r:Row):jB (rows++[r])=bp (jB rows) r.2:=by unfold jB;rw[List.foldl_append];rfl
def Bw(rows:ag)(r:Row):jo (rows++[r])=kv (jo rows) r.2 r.1:=by
 funext l;unfold jo kv;rw[List.filter_append,zak];by_cases h:r.2=l
 ·rw[zac h.symm,List.filter_cons_of_pos ⇑h];rfl
 ·rw[zab λz=>h z.symm,List.filter_cons_of_neg ⇑h];simp
theorem oo:∀(rows:ag) (ks:az),ks.Nodup->(rows.foldl (λks r=>bp ks r.2) ks).Nodup/\(∀l,l∈rows.foldl (λks r=>bp ks r.2) ks ↔ l∈ks\/l∈rows.map (·.2))/\(rows.foldl (λks r=>bp ks r.2) ks).length<=ks.length+rows.length
 |[],ks,h=>⟨h,by simp,by simp⟩
 |r::rows,ks,h=>by
  ext(⟨c,b,a⟩:oo rows (bp ks r.2) (Fh h r.2));refine⟨c,λl=>?_,?_⟩
  ·show l∈rows.foldl _ (bp ks r.2) ↔ _;rw[b l,BJ,zam,zau,or_assoc]
  ·have:=BK ks r.2;exact[zae]\aav a ⋯
def JF(rows:ag):(jB rows).Nodup:=(oo rows [] ace).1
def Fi(rows:ag)(l:ae):l∈jB rows ↔ l∈rows.map (·.2):=by
 have:=(oo rows [] ace).2.1 l;simpa [jB]using this
def v7(rows:ag):(jB rows).length<=rows.length:=by simpa [jB]using (oo rows [] yap).2.2
def D_{rows:ag}{l:ae}(h:l∉jB rows):jo rows l=[]:=by
 unfold jo;rw[RP,zca];intro r a e;exact h ((Fi rows l).mpr ([-of_decide_eq_true e]\abJ a))
def Eb(rows:ag)(l:ae):(jo rows l).length<=rows.length:=by unfold jo;exact[zaa]\O4 ..
meta def zp:ai:=[.mu2 1201 3 (.v 7) (.v 6)]
def kj(f:Fl)(rows:ag):D:=M6 f (jB rows) (jo rows)
theorem wH(Φ:aY)(n:Φ 1201=xM)(c c1 c2 b a:aM):∀(rs pr:ag) (g f:aM),pr.length+rs.length<1000 ->
  ∃j l,dw (λd ρ=>cn (.tp [6,7]) d ρ) (λρ=>bF Φ zp ρ) (bj rs) [c,c1,c2,↥(kj .ow pr),b,a,g,f]=ok (.nx,[c,c1,c2,↥(kj .ow (pr++rs)),b,a,j,l])
 |[],pr,g,f,_=>⟨g,f,by simp[bj,oz]⟩
 |r::rs,pr,g,f,hl=>by
  rw[zae]at hl;ext(⟨j,l,o⟩:wH Φ n c c1 c2 b a rs (pr++[r]) ↥(qD r.1) ↥(.tup (ak r.2)) (by simp;left));rw[zai,zcd]at o;ext(e1:Sn n (JF pr) (by have:=v7 pr;left) (jo pr) r.2 r.1 (by have:=Eb pr r.2;left) λh=>D_ h);rw[<- BM,<- Bw]at e1;ext(m:Sa (Φ:=Φ) (p:=1201) (i:=3) (k:=.v 7) (e:=.v 6) (ρ:=[c,c1,c2,↥(kj .ow pr),b,a,↥(qD r.1),↥(.tup (ak r.2))]) (kd:=.tup (ak r.2)) (d:=qD r.1) ⇑5 ⇑5 rfl ⇑5 ⇑5 e1);simp only[J2]at m;refine⟨j,l,eQ (ρ1:=[c,c1,c2,↥(kj .ow pr),b,a,↥(qD r.1),↥(.tup (ak r.2))]) (by simp[rD]) (ρ2:=[c,c1,c2,↥(kj .ow (pr++[r])),b,a,↥(qD r.1),↥(.tup (ak r.2))]) ?_ o⟩;rw[zp,bI,m];rfl
meta def nC:CE:=.comp 1 (.nm 0) [2] .seq [(.v 5)] [] (.ix (.v 1) (.v 0))
def zq:ai:=[.fr (.tp [6,7]) (.seq (.call 101 [(.v 4),nC])) zp]
meta def dC(LL:List (ag))(gs:ae):List (ag):=gs.map λg=>LL.getD g.toNat []
theorem QH(Φ:aY){LL:List (ag)}{gs:ae}(c:∀g∈gs,0<=g/\g<(LL.length:Int))(a:gs.length<=1000)(m c1 l k:aM)(r:aV):bg Φ nC (m::c1::↥(.ow\(bK .ow LL))::l::k::↥(.tup (ak gs))::r)=ok (.ow\(bK .al (dC LL gs))):=by
 unfold nC;have h:bK .fz (dC LL gs)=gs.map λg=>D.lst .fz (bj (LL.getD g.toNat [])):=by unfold bK dC;rw[zah];rfl
 rw[c_ (xs:=[.tup (ak gs)]) (items:=gs.map D.int) (ds:=bK .fz (dC LL gs)) ⇑5 (by rw[tS];simp;rfl) ?_ (by unfold dC;rw[zD,zaa];exact cA ⋯)]
 ·rw[dW];rfl
 ·rw[h];refine bV λg n=>⟨[↥↑g,↥(.fz\(bK .fz LL))],by simp[bL,dW],by simp,?_⟩
  ext(⟨f,o⟩:c g n);have a:g.toNat<LL.length:=by left
  have j:=at_of (ds:=bK .fz LL) (i:=g) (d:=.fz\(bj (LL.getD g.toNat []))) f (by unfold bK;rw[bv,ce a];simp[a]);generalize e:bK .fz LL=X at *;have b:ao bq X=X:=by rw[<- e,dW];rfl
  simp[b,j]
def allR(LL:List (ag))(gs:ag):ag:=gs.flatMap λr=>wX [(r.1,[])] (dC LL r.2)
structure Wn(LL:List (ag))(gs:ag):Prop where
 ix:∀r∈gs,∀g∈r.2,0<=g/\g<(LL.length:Int)
 sm:∀r∈gs,Sm 6 r.1/\r.2.length<=12
 oc:∀r∈gs,Ou 1 (dC LL r.2)
 ly:∀rs∈LL,yZ 6 12 rs/\rs.length<=1000
 ln:(allR LL gs).length<900
def Wn.tail{LL:List (ag)}{r:Row}(W:Wn LL (r::gs)):Wn LL gs:=⟨λx a=>W.ix x (aaj _ a),λx a=>W.sm x (aaj _ a),λx a=>W.oc x (aaj _ a),W.ly,by
 have:=W.ln;unfold allR at *;rw[zaT,zaf]at this;left⟩
def Ef{LL:List (ag)}{gs:ae}(b:∀g∈gs,0<=g/\g<(LL.length:Int)){rs:ag}(h:rs∈dC LL gs):rs∈LL:=by
 ext(⟨g,c,rfl⟩:cr.mp h)(⟨e,d⟩:b g c);have a:g.toNat<LL.length:=by left
 have:LL.getD g.toNat []=LL[g.toNat]:=by simp[a]
 exact[this]\aaU a
theorem wI(Φ:aY)(o:Rg (Φ 101))(j:Φ 1201=xM){LL:List (ag)}(e c1:aM):∀(gs pr:ag) (g f c a:aM),Wn LL gs->pr.length+(allR LL gs).length<1000 ->
  ∃C H F G,dw (λd ρ=>cn (.tp [4,5]) d ρ) (λρ=>bF Φ zq ρ) (bj gs) [e,c1,↥(.ow\(bK .ow LL)),↥(kj .ow pr),g,f,c,a]=ok (.nx,[e,c1,↥(.ow\(bK .ow LL)),↥(kj .ow (pr++allR LL gs)),C,H,F,G])
 |[],pr,g,f,c,a,_,_=>⟨g,f,c,a,by simp[bj,oz,allR]⟩
 |r::gs,pr,g,f,c,a,W,hl=>by
  have k:allR LL (r::gs)=wX [(r.1,[])] (dC LL r.2)++allR LL gs:=by unfold allR;rw[zaT]
  rw[k,zaf]at hl;ext(n:W.ix r aag)(⟨p,J⟩:W.sm r aag)(e3:QH Φ n ⋯ e c1 ↥(kj .ow pr) ↥(qD r.1) [c,a]);have i:(dC LL r.2).length=r.2.length:=ab_ ..;ext(e4:o r.1 (dC LL r.2) 6 6 12 p (λq I=>W.ly q (Ef n I)) ⇑4 (by rw[i];left) (by rw[i];left) (W.oc r aag))(⟨m,l,e5⟩:wH Φ j e c1 ↥(.ow\(bK .ow LL)) ↥(qD r.1) ↥(.tup (ak r.2)) (wX [(r.1,[])] (dC LL r.2)) pr c a ⋯)(⟨B,A,z,y,u⟩:wI Φ o j e c1 gs (pr++wX [(r.1,[])] (dC LL r.2)) ↥(qD r.1) ↥(.tup (ak r.2)) m l W.tail (by rw[zaf];left));rw[k,<- zai];generalize wX [(r.1,[])] (dC LL r.2)=Z at *;have E:bg Φ (.call 101 [(.v 4),nC]) [e,c1,↥(.ow\(bK .ow LL)),↥(kj .ow pr),↥(qD r.1),↥(.tup (ak r.2)),c,a]=ok (.ow\(bj Z)):=by
   show bd (b6 Φ [(.v 4),nC] _) _=_;have:b6 Φ [(.v 4),nC] [e,c1,↥(.ow\(bK .ow LL)),↥(kj .ow pr),↥(qD r.1),↥(.tup (ak r.2)),c,a]=ok [qD r.1,.ow\(bK .al (dC LL r.2))]:=by
    show bd (bg Φ (.v 4) _) (λx=>bd (bd (bg Φ nC _) λx=>bd (ok []) λxs=>ok (x::xs)) λxs=>ok (x::xs))=_;rw[e3];simp
   rw[this,cM];have s:ao aK [qD r.1,.ow\(bK .al (dC LL r.2))]=[qD r.1,.fz\(bK .fz (dC LL r.2))]:=by
    rw[pz,pz,EV];show[qD r.1,D.lst .fz (ao aK (bK .al (dC LL r.2)))]=_;rw[dW];rfl
   rw[s,e4]
   first|rfl|simp
  have h:cD Φ (.seq (.call 101 [(.v 4),nC])) [e,c1,↥(.ow\(bK .ow LL)),↥(kj .ow pr),↥(qD r.1),↥(.tup (ak r.2)),c,a]=ok (bj Z,[e,c1,↥(.ow\(bK .ow LL)),↥(kj .ow pr),↥(qD r.1),↥(.tup (ak r.2)),c,a]):=by
   rw[tT E];simp
  ext(w:fV (Φ:=Φ) (t:=.tp [6,7]) (b:=zp) h e5);refine⟨B,A,z,y,eQ (ρ1:=[e,c1,↥(.ow\(bK .ow LL)),↥(kj .ow pr),↥(qD r.1),↥(.tup (ak r.2)),c,a]) (by simp[rD]) (ρ2:=[e,c1,↥(.ow\(bK .ow LL)),↥(kj .ow (pr++Z)),↥(qD r.1),↥(.tup (ak r.2)),m,l]) ?_ u⟩;rw[zq,bI,w];rfl
end DI
end
section
set_option maxHeartbeats 1000000
namespace DI
open PySem (Str)
meta def By(d:D):Bool:=match d with
 |.tup (.int a::_)=>decide (0<a)
 |_=>false
def eM(n:Int)(d:D):Bool:=match d with
 |.tup [c,l]=>bH l n&&(dZ c&&By c)
 |_=>false
def Cq(d:D):Prop:=match d with
 |.tup [_,l]=>uw l
 |_=>True
def uI(m:aD):Prop:=∀d (n:Int),Cq d->m [d,.int n]=ok (.bl (eM n d))
variable {ds:aa}
def sM(h:ds.length=2):∃x y,ds=[x,y]:=by
 match ds,h with
 |[x,y],_=>exact⟨x,y,rfl⟩
def DU{n:Int}(h:ds.length≠2):eM n (.tup ds)=false:=by
 unfold eM
 match ds,h with
 |[],_=>rfl
 |[_],_=>rfl
 |[_,_],h=>exact absurd rfl h
 |_::_::_::_,_=>rfl
def NV(Φ:aY)(m:kD (Φ 3))(f:iZ (Φ 43)):uI (mk Φ 2 2 eK):=by
 intro d n k;have e:∀ds,eF .tuple (.tup ds)=true:=λ_=>rfl;have g:eF .tuple d=false->mk Φ 2 2 eK [d,.int n]=ok (.bl false):=λh=>by simp[mk_eq,eK,h]
 cases d with
 |tup ds =>
  clear g;by_cases i:ds.length=2
  ·ext(⟨c,l,rfl⟩:sM i)(e1:f (aJ aK (aJ bq (aJ bq l))) n (iF (iF (iF (show uw l from k)))));rw[eH,eH,eH]at e1;ext(e2:m (aJ aK (aJ bq (aJ bq c))));rw[kS,kS,kS]at e2;cases a:bH l n with
   |false=>rw[a]at e1;simp[mk_eq,eK,e,e1,eM,a]
   |true =>
    rw[a]at e1;cases b:dZ c with
    |false=>rw[b]at e2;simp[mk_eq,eK,e,e1,e2,eM,a,b]
    |true =>
     ext(⟨q,rfl⟩:wu b);rw[b]at e2;have e4:qD q=.tup [.int q.num,.int q.den]:=rfl;simp at e2;simp[mk_eq,eK,e,e1,e2,eM,a,b];simp[e4,By]
  ·have j:¬ (ds.length:Int)=2:=by left
   simp[mk_eq,eK,e,j,DU i,aN]
 |_=>exact g rfl
def dB(d:D):Row:=match d with
 |.tup [.tup [.int a,.int b],.tup ds]=>(ei a b,numsOf ds)
 |_=>(0,[])
protected def IU{n:Nat}{d:D}(h:eM n d=true):d=rD (dB d)/\0<(dB d).1/\bH (.tup (ak (dB d).2)) n=true:=by
 unfold eM at h;split at h
 ·rename_i c l;rw[zag,zag]at h;ext(⟨a,i,g⟩:h)(⟨q,rfl⟩:wu i);cases l with
  |tup ds =>
   have j:=a;unfold bH at a;rw[zag]at a;ext(⟨f,rfl⟩:fi a.1);have e:dB (.tup [qD q,.tup (ak f)])=(q,f):=by
    show(ei q.num q.den,numsOf (ak f))=_;rw[mK,ff]
   rw[e];refine⟨rfl,?_,j⟩;have:0<q.num:=aac g;have:=kY (t:=q.num) (b:=q.den) this (by have:=LI q;left)
   rwa [mK]at this
  |_=>simp[bH]at a
 ·cases h
def IT{n:Nat}{rows:aa}(h:rows.all (eM n)=true):rows=bj (rows.map dB):=by
 unfold bj;rw[zah]
 conv=>lhs;rw[<- Do rows]
 refine aaZ λd hd=>?_;exact(IU (hX.mp h d hd)).1
def fH:az->Bool
 |a::b::l=>HT.lexLt a b&&fH (b::l)
 |_=>true
def uJ(m:aD):Prop:=∀a:ag,m [.fz\(bj a)]=ok (.bl (fH (a.map (·.2))))
def Vv{Φ:aY}(c:Φ 1022=RQ)(a b:ae):Φ 1022 [.tup (ak a),.tup (ak b)]=ok (.bl (!HT.lexLt a b)):=by
 rw[c];show(match intsOf (ak a)with|↥ns=>(match intsOf (ak b)with|↥ms=>ok (D.bl (!HT.lexLt ns ms))|none=>none)|none=>none)=_;unfold ak;rw[bY,bY]
theorem vz(Φ:aY)(f:Φ 1022=RQ)(b:aM):∀(rs:ag) (r:Row) (c1 c2:aM),
  ∃a,dw (λd c=>cn (.tp [1,2]) d c) (λc=>bF Φ Be c) (gb (λx y=>D.tup [x,y]) (bj (r::rs)) (bj rs)) [b,c1,c2]=ok (if fH ((r::rs).map (·.2))then .nx else .rt (.bl false),a)
 |[],r,c1,c2=>⟨_,rfl⟩
 |s::rs,r,c1,c2=>by
  ext(e:Vv f r.2 s.2);have e1:∀r:Row,rD r=.tup [qD r.1,.tup (ak r.2)]:=λ_=>rfl;have g:fH ((r::s::rs).map (·.2))=(HT.lexLt r.2 s.2&&fH ((s::rs).map (·.2))):=rfl;cases h:HT.lexLt r.2 s.2 with
  |true =>
   ext(⟨a,i⟩:vz Φ f b rs s ↥(rD r) ↥(rD s));refine⟨a,?_⟩;rw[g,h,zbB,<- i];rw[h]at e;exact eQ (ρ1:=[b,↥(rD r),↥(rD s)]) ⇑5 (ρ2:=[b,↥(rD r),↥(rD s)]) (by simp[Be,e1,e]) rfl
  |false =>
   refine⟨[b,↥(rD r),↥(rD s)],?_⟩;rw[g,h,zaL];rw[h]at e;exact F9 (ρ1:=[b,↥(rD r),↥(rD s)]) ⇑5 (by simp[Be,e1,e])
def IP(Φ:aY)(l:Φ 1000=HS)(k:Φ 1020=cutD true)(j:Φ 1022=RQ):uJ (mk Φ 1 3 fm):=by
 intro a;have e1:Φ 1020 [.fz\(bj a),.int 1]=ok (.ow\(bj (a.drop 1))):=by
  rw[k];show(if (0:Int)<=1 then ok (D.lst .ow (ao bq (js true (1:Int).toNat (bj a))))else none)=_;rw[zac ⇑4];show ok (D.lst .ow (ao bq ((bj a).drop 1)))=_;rw[show(bj a).drop 1=bj (a.drop 1) by simp[bj,zbE]];simp
 have e2:Φ 1000 [.fz\(bj a),.ow\(bj (a.drop 1))]=ok (.ow\(gb (λx y=>D.tup [x,y]) (bj a) (bj (a.drop 1)))):=by rw[l];rfl
 have e3:ao aK (gb (λx y=>D.tup [x,y]) (bj a) (bj (a.drop 1)))=gb (λx y=>D.tup [x,y]) (bj a) (bj (a.drop 1)):=by
  have:=gI aK (bj a) (bj (a.drop 1));rw[dM,dM]at this;exact this
 have i:cD Φ (.L0 1000 [(.v 0),(.cJ 1020 [(.v 0),↑1])]) [↥(.fz\(bj a)),none,none]=ok (gb (λx y=>D.tup [x,y]) (bj a) (bj (a.drop 1)),[↥(.fz\(bj a)),none,none]):=by
  show bd (b6 Φ [(.v 0),(.cJ 1020 [(.v 0),↑1])] [↥(.fz\(bj a)),none,none]) _=_;have:b6 Φ [(.v 0),(.cJ 1020 [(.v 0),↑1])] [↥(.fz\(bj a)),none,none]=ok [.fz\(bj a),.ow\(bj (a.drop 1))]:=by simp[e1]
  rw[this,cM,e2,cM];show ok (ao aK (gb (λx y=>D.tup [x,y]) (bj a) (bj (a.drop 1))),if aR bS [D.lst .fz (bj a),.ow\(bj (a.drop 1))]then _ else _)=_;rw[e3];simp
 obtain⟨f,e⟩:∃f,dw (λd g=>cn (.tp [1,2]) d g) (λg=>bF Φ Be g) (gb (λx y=>D.tup [x,y]) (bj a) (bj (a.drop 1))) [↥(.fz\(bj a)),none,none]=ok (if fH (a.map (·.2))then .nx else .rt (.bl false),f):=by
  cases a with
  |nil=>exact⟨_,rfl⟩
  |cons r a=>exact vz Φ j _ a r none none
 ext(c:fV (Φ:=Φ) (t:=.tp [1,2]) (b:=Be) i e);cases h:fH (a.map (·.2))with
 |true=>rw[h]at c;simp at c;simp[mk_eq,fm,c]
 |false=>rw[h]at c;simp at c;simp[mk_eq,fm,c]
def y3(m:aD):Prop:=∀(rs:ag) k,xC k (gY rs)->m [.fz\(bj rs)]=ok (.bl (decide ((gY rs).sum=1)))
theorem Dm{b:Nat}{a:bB}(d:0<b)(h:∀q∈a,q.den∣b):(a.map (fK b)).sum=(b:Int) ↔ a.sum=1:=by
 refine⟨λe=>?_,Dl h⟩;have:=lG h;rw[e]at this;have c:((b:Int):Rat)≠0:=by
  intro z;have:=yaj.mp (z.trans Rat.intCast_zero.symm);left
 rw[zaF]at this c;generalize (b:Rat)=x at *;grind
theorem NU(Φ:aY)(d:sC (Φ 14)):y3 (mk Φ 1 2 eZ):=by
 intro a k c;have h:a.length<=1000:=by have:=c.len;simpa [gY]using this
 ext(e1:d a k c);have e:=c.lcm;ext(e2:Dm e.1 e.2.2);generalize kn (gY a)=b at *;have e3:∀f,bg Φ QD [f,↥(.tup [.int b,.ow\(HX b a)])]=ok (.ow\(ak ((gY a).map (fK b)))):=λf=>by
  unfold QD;rw[c_ (xs:=[.al\(HX b a)]) (items:=HX b a) (ds:=a.map λr=>.int (fK b r.1)) ⇑5 (by rw[dt];simp) (bV λr g=>?_) (by simp;exact cA ⋯)]
  ·simp[ak,gY,aN]
  ·exact⟨[↥↑(fK b r.1),↥(.tup (ak r.2))],by simp[bL],by simp,by simp⟩
 have e4:qU .jv [.ow\(ak ((gY a).map (fK b)))]=ok ↑((gY a).map (fK b)).sum:=by
  show(match intsOf (ak ((gY a).map (fK b)))with|↥ns=>ok (D.int ns.sum)|none=>none)=_;unfold ak;rw[bY]
 have e5:∀x y:Int,kZ .eq ↑x ↑y=ok (.bl (x==y)):=λx y=>rfl;have e6:(((gY a).map (fK b)).sum==(b:Int))=decide ((gY a).sum=1):=by
  exact[zbV,beq_iff_eq,decide_eq_true_iff]\e2
 simp[mk_eq,eZ,e1,e3,e4,e5,e6]
structure Fz(d:D):Prop where
 fz:aJ aK d=d
 al:aJ bq d=d
 ow:aW cq d=false
mutual
theorem fU(g h:Fl->Fl):∀d:D,aJ g (aJ h d)=aJ (λf=>g (h f)) d
 |.tup ds=>by rw[aJ,aJ,aJ,gJ g h ds]
 |.lst f ds=>by rw[aJ,aJ,aJ,gJ g h ds]
 |.cF f a ds=>by rw[aJ,aJ,aJ,gJ g h ds]
 |.bX=>rfl
 |.bl _=>rfl
 |.int _=>rfl
 |.str _=>rfl
theorem gJ(g h:Fl->Fl):∀ds:aa,ao g (ao h ds)=ao (λf=>g (h f)) ds
 |[]=>rfl
 |d::ds=>by rw[ao,ao,ao,fU g h d,gJ g h ds]
end
def F7(d:D):aJ aK (aJ bq d)=aJ aK d:=by
 rw[fU];congr 1;funext f;cases f<;>rfl
def At(ρ:aV)(i:Nat)(Y:D):Prop:=∃y,ρ[i]?=↥↥y/\aJ aK y=Y
def cx(Φ:aY)(e:CE)(ρ:aV)(Y:D):Prop:=∃d,bg Φ e ρ=ok d/\aJ aK d=Y
def bR(Φ:aY)(es:aA)(ρ:aV)(Ys:aa):Prop:=∃ds,b6 Φ es ρ=ok ds/\ao aK ds=Ys
def rR(d:D):aJ aK (aJ aK d)=aJ aK d:=by
 rw[fU];congr 1;funext f;cases f<;>rfl
def ud(d:D):aJ aK (aJ gW d)=aJ aK d:=by
 rw[fU];congr 1;funext f;cases f<;>rfl
def Wh(d:D):aJ bq (aJ aK d)=aJ aK d:=by
 rw[fU];congr 1;funext f;cases f<;>rfl
mutual
theorem L9:∀d:D,aW cq (aJ aK d)=false
 |.tup ds=>tF ds
 |.lst f ds=>by
  show(cq (aK f)||aR cq (ao aK ds))=false;rw[tF ds];cases f<;>rfl
 |.cF f a ds=>by
  show(cq (aK f)||aR cq (ao aK ds))=false;rw[tF ds];cases f<;>rfl
 |.bX=>rfl
 |.bl _=>rfl
 |.int _=>rfl
 |.str _=>rfl
theorem tF:∀ds:aa,aR cq (ao aK ds)=false
 |[]=>rfl
 |d::ds=>by
  show(aW cq (aJ aK d)||aR cq (ao aK ds))=false;rw[L9 d,tF ds];rfl
end
def Mz(d:D):Fz (aJ aK d):=⟨rR d,Wh d,L9 d⟩
variable {f:Fl}
section
variable {Φ:aY}{ρ:aV}{e a b:CE}{es:aA}{Y:D}{Ys:aa}
theorem At.v{i:Nat}(h:At ρ i Y):cx Φ (.v i) ρ Y:=by
 ext(⟨y,d,c⟩:h);exact⟨aJ bq y,by rw[e_v,d];rfl,by rw[F7,c]⟩
def cx.i{z:Int}(h:cx Φ e ρ ↑z):bg Φ e ρ=ok ↑z:=by
 ext(⟨d,g,c⟩:h);cases d<;>first | (cases c;exact g)|cases c
def cx.s{z:Str}(h:cx Φ e ρ (.str z)):bg Φ e ρ=ok (.str z):=by
 ext(⟨d,g,c⟩:h);cases d<;>first | (cases c;exact g)|cases c
def bR.nil:bR Φ [] ρ []:=⟨[],rfl,rfl⟩
def bR.cons(h:cx Φ e ρ Y)(t:bR Φ es ρ Ys):bR Φ (e::es) ρ (Y::Ys):=by
 ext(⟨d,g,rfl⟩:h)(⟨ds,c,rfl⟩:t);exact⟨d::ds,by rw[cz,g,c];rfl,rfl⟩
theorem bR.tup(h:bR Φ es ρ Ys):cx Φ (.tup es) ρ (.tup Ys):=by
 ext(⟨ds,c,rfl⟩:h);exact⟨.tup ds,by rw[MG,c];rfl,rfl⟩
theorem bR.lst(h:bR Φ es ρ Ys):cx Φ (.lst es) ρ (.fz\Ys):=by
 ext(⟨ds,c,rfl⟩:h);exact⟨.ow\ds,by rw[VQ,c];rfl,rfl⟩
theorem bR.call{f:Nat}{r:D}(h:bR Φ es ρ Ys)(hf:Φ f Ys=ok r):cx Φ (.call f es) ρ (aJ aK r):=by
 ext(⟨ds,c,rfl⟩:h);refine⟨aJ gW r,?_,ud r⟩;rw[mZ,c];show bd (Φ f (ao aK ds)) _=_;rw[hf];rfl
def cx.tupI(h:cx Φ e ρ (.tup Ys)):∃ds,bg Φ e ρ=ok (.tup ds)/\ao aK ds=Ys:=by
 ext(⟨d,g,c⟩:h);cases d<;>first | (cases c;exact⟨_,g,rfl⟩)|cases c
def cx.vX(h:cx Φ e ρ (.lst f Ys)):∃g ds,bg Φ e ρ=ok (.lst g ds)/\ao aK ds=Ys/\aK g=f:=by
 ext(⟨d,i,c⟩:h);cases d<;>first | (cases c;exact⟨_,_,i,rfl,rfl⟩)|cases c
def Wa{j:Nat}(c:(ao aK ds)[j]?=↥Y):∃d,xh ds (j:Int)=ok d/\aJ aK d=Y:=by
 rw[aN,bv]at c;cases hd:ds[j]? with
 |none=>rw[hd]at c;cases c
 |some x =>
  rw[hd]at c;cases c;exact⟨aJ bq x,at_of ⋯ ([zaj]\hd),F7 x⟩
def cx.RA{j:Nat}(h:cx Φ a ρ (.lst f Ys))(i:bg Φ b ρ=ok ↑j)(c:Ys[j]?=↥Y):cx Φ (.ix a b) ρ Y:=by
 ext(⟨g,ds,m,rfl,_⟩:h.vX)(⟨d,l,k⟩:Wa c);exact⟨d,[abe,m,i]\l,k⟩
theorem cx.len{f:Fl}(h:cx Φ a ρ (.lst f Ys)):bg Φ (.bf .len [a]) ρ=ok ↑Ys.length:=by
 ext(⟨g,ds,c,rfl,_⟩:h.vX);rw[Gu,cz,c];show ok (D.int (ds.length:Int))=_;rw[aN,zaa]
def iz(ds:aa):ao aK (ao bq ds)=ao aK ds:=by
 exact[aN,aN,aN,zah]\aaZ λd _=>F7 d
def cx.cat{g:Fl}{c:aa}(j:cx Φ a ρ (.lst f Ys))(i:cx Φ b ρ (.lst g c))(hf:qL f=false)(h:qL g=false)(d:Ys.length+c.length<=1000):cx Φ (.bin .add a b) ρ (.fz\(Ys++c)):=by
 ext(⟨l,ds,e1,rfl,rfl⟩:j.vX)(⟨k,es,e2,rfl,rfl⟩:i.vX);rw[aN,aN,zaa,zaa]at d;refine⟨.ow\(ao bq (ds++es)),?_,?_⟩
 ·exact[AF,e1,e2]\abE ⟨by cases l<;>first|rfl|exact hf,by cases k<;>first|rfl|exact h,by show _<=1000000;left⟩
 ·show D.lst .fz (ao aK (ao bq (ds++es)))=_;rw[iz,aN,aN,aN,zak]
def cx.Sl(h:cx Φ a ρ (.lst f Ys)):cx Φ (.bf .tuple1 [a]) ρ (.tup Ys):=by
 ext(⟨g,ds,c,rfl,_⟩:h.vX);exact⟨.tup (ao bq ds),by rw[Gu,cz,c];rfl,aa5 D.tup (iz ds)⟩
def cx.Zk(h:cx Φ a ρ (.tup Ys)):cx Φ (.bf .list1 [a]) ρ (.fz\Ys):=by
 ext(⟨ds,c,rfl⟩:h.tupI);exact⟨.ow\(ao bq ds),by rw[Gu,cz,c];rfl,aa5 (D.lst .fz) (iz ds)⟩
def Hb(h:cx Φ e ρ Y)(i:Uo e=false):∃d c,ic Φ (.ret e) ρ=ok (.rt d,c)/\aJ aK d=Y:=by
 ext(⟨d,j,rfl⟩:h);rw[CZ,Fj Φ e ρ i,j];cases g:aW bS d with
 |false=>exact[eE g]\⟨d,_,rfl,rfl⟩
 |true=>exact[pJ g]\⟨_,_,rfl,rR d⟩
def gX{op:A3}{x y z:D}(g:bg Φ a ρ=ok x)(d:bg Φ b ρ=ok y)(c:dh op x y=ok z):bg Φ (.bin op a b) ρ=ok z:=by
 exact[AF,g,d]\c
def ug{op:CU}{x y z:D}(g:bg Φ a ρ=ok x)(d:bg Φ b ρ=ok y)(c:kZ op x y=ok z):bg Φ (.cmp op a b) ρ=ok z:=by
 exact[VR,g,d]\c
def Q6{i:Nat}(h:cx Φ e ρ Y)(q:Uo e=false)(l:i<ρ.length):∃c,ic Φ (.asg (.nm i) e) ρ=ok (.nx,c)/\c.length=ρ.length/\At c i Y/\∀j Z,j≠i->At ρ j Z->At c j Z:=by
 ext(⟨d,g,rfl⟩:h);rw[uT,Fj Φ e ρ q,g];cases p:aW bS d with
 |false =>
  rw[eE p,oJ l];refine⟨_,rfl,ZZ ..,⟨d,abM l,rfl⟩,λj Z k ⟨y,g,m⟩=>⟨y,[cb (ip k)]\g,m⟩⟩
 |true =>
  have e0:cR e ρ (ok d)=ok (aJ aK d,iH (gK e) ρ):=by rw[pJ p,pW]
  have n:(iH (gK e) ρ).length=ρ.length:=by unfold iH;rw[Uy]
  rw[e0,oJ ([n]\l)];refine⟨_,rfl,by rw[zaJ,n],⟨aJ aK d,abM ([n]\l),rR d⟩,λj Z k ⟨y,g,m⟩=>?_⟩;by_cases o:j∈gK e
  ·refine⟨aJ aK y,?_,by rw[rR,m]⟩;rw[cb (ip k)];unfold iH;rw[li,g];show ↥(if j∈gK e then _ else _)=_;rw[zac o];rfl
  ·refine⟨y,?_,m⟩;rw[cb (ip k)];unfold iH;rw[li,g];show ↥(if j∈gK e then _ else _)=_;rw[zab o]
def Go(Φ:aY)(d:ai)(ρ:aV)(Q:aV->Prop):Prop:=∃c,bF Φ d ρ=ok (.nx,c)/\Q c
variable {ss:ai}{Q:aV->Prop}
def Go.nil(h:Q ρ):Go Φ [] ρ Q:=⟨ρ,rfl,h⟩
def Go.cons{s:CS}{ρ1:aV}(h:ic Φ s ρ=ok (.nx,ρ1))(k:Go Φ ss ρ1 Q):Go Φ (s::ss) ρ Q:=by
 ext(⟨c,g,d⟩:k);exact⟨c,[bI,h]\g,d⟩
def xu(n:Nat)(l:List (Nat×D))(ρ:aV):Prop:=ρ.length=n/\bO (λp:Nat×D=>At ρ p.1 p.2) l
theorem yS{i:Nat}{ρ':aV}(k:∀j Z,j≠i->At ρ j Z->At ρ' j Z):∀{l:List (Nat×D)},bO (λp:Nat×D=>At ρ p.1 p.2) l->(l.all λp=>p.1 != i)=true->bO (λp:Nat×D=>At ρ' p.1 p.2) l
 |[],_,_=>trivial
 |p::l,h,e=>by
  rw[zas,zag]at e;exact⟨k _ _ ⇑e.1 h.1,yS k h.2 e.2⟩
variable {n i:Nat}{l:List (Nat×D)}
def Go.yT(A:xu n l ρ)(h:cx Φ e ρ Y)(k:∀c,xu n ((i,Y)::l) c->Go Φ ss c Q)(d:Uo e=false:=by rfl)(g:i<n:=by decide)(hn:(l.all λp=>p.1 != i)=true:=by rfl):Go Φ (.asg (.nm i) e::ss) ρ Q:=by
 ext(⟨c,q,o,m,j⟩:Q6 h d ([A.1]\g));exact .cons q (k c ⟨o.trans A.1,m,yS j A.2 hn⟩)
theorem xu.set{d:D}(A:xu n l ρ)(hz:aJ aK d=Y)(h:i<n:=by decide)(hn:(l.all λp=>p.1 != i)=true:=by rfl):cn (.nm i) d ρ=ok (ρ.set i ↥d)/\xu n ((i,Y)::l) (ρ.set i ↥d):=by
 have c:i<ρ.length:=[A.1]\h
 exact⟨IG c,[zaJ]\A.1,⟨d,abM c,hz⟩,yS (λj Z g ⟨y,m,k⟩=>⟨y,[cb (ip g)]\m,k⟩) A.2 hn⟩
def Go.Xe{c:CE}{d:ai}(h:bg Φ c ρ=ok (.bl false))(k:Go Φ ss ρ Q):Go Φ (.ifs c d []::ss) ρ Q :=
 .cons (by rw[A5,h];rfl) k
theorem F2{t:Tg}{bb:ai}{P:aV->Prop}:∀(items:aa),(∀d∈items,∀ρ,P ρ->∃g,cn t d ρ=ok g/\Go Φ bb g P)->∀ρ,P ρ->∃c,dw (λd ρ=>cn t d ρ) (λρ=>bF Φ bb ρ) items ρ=ok (.nx,c)/\P c
 |[],_,ρ,h=>⟨ρ,rfl,h⟩
 |d::ds,hs,ρ,h=>by
  ext(⟨g,r,j,q,p⟩:hs d aag ρ h)(⟨c,o,m⟩:F2 ds (λx k=>hs x (aaj _ k)) j p);exact⟨c,eQ r q o,m⟩
end
mutual
theorem OD(g:Fl->Fl):∀d:D,aW anyF d=false->aJ g d=d
 |.tup ds,h=>aa5 D.tup (zZ g ds h)
 |.lst _ _,h=>by cases h
 |.cF _ _ _,h=>by cases h
 |.bX,_=>rfl
 |.bl _,_=>rfl
 |.int _,_=>rfl
 |.str _,_=>rfl
theorem zZ(g:Fl->Fl):∀ds:aa,aR anyF ds=false->ao g ds=ds
 |[],_=>rfl
 |d::ds,h=>by
  ext(⟨b,a⟩:Q2.mp (show(aW anyF d||aR anyF ds)=false from h));rw[ao,OD g d b,zZ g ds a]
end
end DI
end
section
set_option maxHeartbeats 1000000
namespace DI
open PySem (Str)
def Hg(d:D):aJ bq (aJ aK d)=aJ aK d:=by
 rw[fU];congr 1;funext f;cases f<;>rfl
def qe(n:Int)(rows:aa):Bool:=rows.all (eM n)&&(fH ((rows.map dB).map (·.2))&&decide ((gY (rows.map dB)).sum=1))
def de(d:D):Bool:=match d with
 |.tup [m,.lst _ rows]=>(match m with
  |.int n=>decide (1<=n)&&(decide (n<=12)&&qe n rows)
  |_=>false)
 |_=>false
def HB(d:D):Prop:=∀m f rows,d=.tup [m,.lst f rows]->f=.fz/\(∀r∈rows,Cq r)/\∀a,rows=bj a->∃k,xC k (gY a)
def qo(m:aD):Prop:=∀d,HB d->aJ aK d=d->m [d]=ok (.bl (de d))
theorem nE(Φ:aY)(l:uI (Φ 12)){n:Int}(b c2:aM):∀(rows:aa) (i:aM),(∀d∈rows,Cq d/\aJ aK d=d)->∃a,dw (λd f=>cn (.nm 3) d f) (λf=>bF Φ gx f) rows [b,↥↑n,c2,i]=ok (if rows.all (eM n)then .nx else .rt (.bl false),a)/\(rows.all (eM n)=true->∃m,a=[b,↥↑n,c2,m])
 |[],i,_=>⟨_,rfl,λ_=>⟨_,rfl⟩⟩
 |d::rows,i,h=>by
  ext(⟨q,j⟩:h d aag)(e:l d n q);have k:aJ bq d=d:=by rw[<- j,Hg]
  cases c:eM n d with
  |true =>
   ext(⟨a,o,g⟩:nE Φ l b c2 rows ↥d λs p=>h s (aaj _ p));refine⟨a,?_,λz=>g (by rw[zas,c,zbB]at z;exact z)⟩;rw[zas,c,zbB,<- o];rw[c]at e;exact eQ (ρ1:=[b,↥↑n,c2,↥d]) ⇑5 (ρ2:=[b,↥↑n,c2,↥d]) (by simp[gx,k,j,e]) rfl
  |false =>
   refine⟨[b,↥↑n,c2,↥d],?_,λz=>by rw[zas,c]at z;cases z⟩;rw[zas,c,zaL];rw[c]at e;exact F9 (ρ1:=[b,↥↑n,c2,↥d]) ⇑5 (by simp[gx,k,j,e])
variable {ds:aa}
def wo(h:ao aK ds=ds):∀d∈ds,aJ aK d=d:=by
 induction ds with
 |nil=>intro d hd;cases hd
 |cons x e a =>
  rw[ao]at h;ext(⟨c,b⟩:acP h);intro d hd;ext((rfl|hd):c0.mp hd)
  ·exact c
  ·exact a b d hd
mutual
theorem An:∀d:D,aW bS (aJ aK d)=false
 |.tup ds=>[aJ,aW]\jH ds
 |.lst f ds=>by rw[aJ,aW,jH ds];cases f<;>rfl
 |.cF f a ds=>by rw[aJ,aW,jH ds];cases f<;>rfl
 |.bX=>rfl
 |.bl _=>rfl
 |.int _=>rfl
 |.str _=>rfl
theorem jH:∀ds:aa,aR bS (ao aK ds)=false
 |[]=>rfl
 |d::ds=>by rw[ao,aR,An d,jH ds];rfl
end
def yb{d:D}(h:aJ aK d=d):aW bS d=false:=[-h]\An d
def Cy{d:D}(h:aJ aK d=d):aJ bq d=d:=by rw[<- h,Hg]
def Kz:ai:=[.ifs (.not (.qM (.v 2) .list)) [.ret (.bl false)] [],.fr (.nm 3) (.seq (.v 2)) gx,.ret (.and [(.call 44 [(.v 2)]),(.call 15 [(.v 2)])])]
meta def QM:CS:=.ifs (.or [(.not (.call 0 [(.v 1)])),(.cmp .lt (.v 1) ↑1),(.cmp .gt (.v 1) (.glo "MOST_HOUSES" 12))]) [.ret (.bl false)] []
def yD:eU=[.ifs (.or [(.not (.qM (.v 0) .tuple)),(.cmp .ne (.bf .len [(.v 0)]) ↑2)]) [.ret (.bl false)] [],.asg (.nm 1) (.ix (.v 0) ↑0),.asg (.nm 2) (.ix (.v 0) ↑1),QM]++Kz:=rfl
def inR(m r:D):Bool:=match r with
 |.lst _ rows=>(match m with
  |.int n=>qe n rows
  |_=>false)
 |_=>false
meta def O_:D->Bool
 |.int n=>decide (1<=n)&&decide (n<=12)
 |_=>false
def Ck(m r:D):de (.tup [m,r])=(O_ m&&inR m r):=by
 cases m with
 |int n=>cases r<;>first|exact(yat _).symm|exact(Bool.and_assoc _ _ _).symm
 |_=>cases r<;>rfl
def JS{m:D}(h:O_ m=true):∃n:Int,m=.int n/\1<=n:=by
 cases m<;>first|exact⟨_,rfl,aac (Bool.and_eq_true_iff.mp h).1⟩|cases h
def JD(r:D):(∃f rows,r=.lst f rows)\/eF .list r=false/\∀m,inR m r=false:=by
 cases r<;>first|exact .inl ⟨_,_,rfl⟩|exact .inr ⟨rfl,λ_=>rfl⟩
section
variable {Φ:aY}{m r:D}{ρ:aV}
def Gz{c:CE}{b:Bool}{a:ai}(h:bg Φ c ρ=ok (.bl b)):bF Φ (.ifs c [.ret (.bl false)] []::a) ρ=if b then ok (.rt (.bl false),ρ)else bF Φ a ρ:=by
 rw[bI,A5,h];cases b<;>rfl
def Ky(a:Φ 0 [m]=ok (.bl (dN m)))(b:aJ aK m=m){g c2 f:aM}:bg Φ (.or [(.not (.call 0 [(.v 1)])),(.cmp .lt (.v 1) ↑1),(.cmp .gt (.v 1) (.glo "MOST_HOUSES" 12))]) [g,↥m,c2,f]=ok (.bl (!O_ m)):=by
 ext(h:Cy b);cases hw:dN m with
 |false =>
  rw[hw]at a;have e:O_ m=false:=by cases m<;>first|rfl|exact lW (show true=false from hw)
  rw[e];simp[h,b,yb b,a]
 |true =>
  ext(⟨n,rfl⟩:iI hw);rw[hw]at a;by_cases c:n<1
  ·simp[a,c,O_,show ¬ 1<=n by left]
  ·by_cases d:12<n<;>simp[a,c,d,O_,show 1<=n by left,show n<=12 ↔ ¬ 12<n by left]
end
theorem DR(Φ:aY)(G:uI (Φ 12))(m:y3 (Φ 15))(l:uJ (Φ 44)){n:Int}{rows:aa}{d:D}(H:1<=n)(a:aJ aK (.fz\rows)=.fz\rows)(w:∀r∈rows,Cq r)(y:∀s,rows=bj s->∃k,xC k (gY s)):
  jI (bF Φ [.fr (.nm 3) (.seq (.v 2)) gx,.ret (.and [(.call 44 [(.v 2)]),(.call 15 [(.v 2)])])] [↥d,↥↑n,↥(.fz\rows),none])=ok (D.bl (qe n rows)):=by
 ext(o:Cy a)(c:(D.lst.inj a).2)(e:wo c)(⟨A,u,g⟩:nE Φ G (n:=n) ↥d ↥(.fz\rows) rows none λd q=>⟨w d q,e d q⟩)
 have f:cD Φ (.seq (.v 2)) [↥d,↥↑n,↥(.fz\rows),none]=ok (rows,[↥d,↥↑n,↥(.fz\rows),none]):=by
  have e1:bg Φ (.v 2) [↥d,↥↑n,↥(.fz\rows),none]=ok (.fz\rows):=by
   show ok (aJ bq (.fz\rows))=_;rw[o]
  have C:(bS Fl.fz||aR bS rows)=false:=yb a;rw[tT e1,c,C];rfl
 rw[bI,fV (t:=.nm 3) (b:=gx) f u];cases j:rows.all (eM n)with
 |false=>rw[show qe n rows=false by unfold qe;rw[j];rfl];rfl
 |true =>
  ext(⟨B,rfl⟩:g j);obtain⟨n',rfl⟩:∃n':Nat,n=(n':Int):=⟨n.toNat,by left⟩
  ext(p:IT j)(h:l (rows.map dB))(⟨E,x⟩:y _ p)(i:m (rows.map dB) E x);rw[<- p]at h i;have:qe n' rows=(fH ((rows.map dB).map (·.2))&&decide ((gY (rows.map dB)).sum=1)):=by unfold qe;rw[j];rfl
  rw[this];clear this x y g u f p w e;generalize fH ((rows.map dB).map (·.2))=F at *;generalize decide ((gY (rows.map dB)).sum=1)=I at *;have z:bg Φ (.v 2) [↥d,↥↑n',↥(.fz\rows),B]=ok (.fz\rows):=by
   show ok (aJ bq (.fz\rows))=_;rw[o]
  cases F<;>simp[o,a,yb a,h,i]
def DQ(Φ:aY)(u:eV (Φ 0))(C:uI (Φ 12))(k:y3 (Φ 15))(j:uJ (Φ 44)):qo (mk Φ 1 4 eU):=by
 intro d hd e;have o:∀ds,eF .tuple (.tup ds)=true:=λ_=>rfl;have q:eF .tuple d=false->mk Φ 1 4 eU [d]=ok (.bl false):=λh=>by simp[mk_eq,yD,h,Cy e,yb e]
 cases d with
 |tup ds =>
  clear q;by_cases i:ds.length=2
  ·ext(⟨m,r,rfl⟩:sM i)(g:wo (D.tup.inj e))(c:g m ⇑5)(a:g r ⇑5)(w:Cy c)(l:Cy a);have p:mk Φ 1 4 eU [.tup [m,r]]=jI (bF Φ (QM::Kz) [↥(.tup [m,r]),↥m,↥r,none]):=by
    simp[mk_eq,yD,o,w,l,c,a,yb c,yb a]
   rw[p,QM,Gz (Ky (u m) c),Ck];clear p w e g u i;cases t:O_ m with
   |false=>rfl
   |true =>
    ext(⟨n,rfl,x⟩:JS t);clear t c;show jI (bF Φ Kz _)=_;rw[show Kz=.ifs (.not (.qM (.v 2) .list)) [.ret (.bl false)] []::[.fr (.nm 3) (.seq (.v 2)) gx,.ret (.and [(.call 44 [(.v 2)]),(.call 15 [(.v 2)])])] from rfl,Gz (b:=!eF .list r) (by simp[l,yb a])];clear l;ext((⟨f,rows,rfl⟩|⟨z,hR⟩):JD r)
    ·ext(⟨rfl,A,B⟩:hd _ _ _ rfl);exact DR Φ C k j x a A B
    ·rw[z,hR];rfl
  ·have s:¬ (ds.length:Int)=2:=by left
   have:de (.tup ds)=false:=by
    clear hd e s
    match ds,i with
    |[],_=>rfl
    |[_],_=>rfl
    |[_,_],h=>exact absurd rfl h
    |_::y::_::_,_=>cases y<;>rfl
   rw[this];simp[mk_eq,yD,o,s,aN]
 |_=>exact q rfl
def qd{m r:D}(h:∀n,m≠.int n):de (.tup [m,r])=false:=by
 unfold de;cases r<;>first|rfl|skip
 cases m<;>first|rfl|exact absurd rfl (h _)
def yC{m r:D}(h:∀f ds,r≠.lst f ds):de (.tup [m,r])=false:=by
 unfold de;cases r<;>first|rfl|exact absurd rfl (h _ _)
def iA(n:Int)(f:Fl)(rows:aa):de (.tup [.int n,.lst f rows])=(decide (1<=n)&&(decide (n<=12)&&(rows.all (eM n)&&(fH ((rows.map dB).map (·.2))&&decide ((gY (rows.map dB)).sum=1))))):=rfl
variable {f:Fl}
def bZ{n:Int}{rows:aa}{d:D}(hd:d∈rows)(h:eM n d=false):de (.tup [.int n,.lst f rows])=false:=by
 have:rows.all (eM n)=false:=[List.all_eq_false]\⟨d,hd,by rw[h];decide⟩
 rw[iA,this,zaL,zat,zat]
def gN{n:Int}{rows:aa}(h:fH ((rows.map dB).map (·.2))=false):de (.tup [.int n,.lst f rows])=false:=by
 rw[iA,h,zaL,zat,zat,zat]
def qb{n:Int}{rows:aa}(h:¬ (gY (rows.map dB)).sum=1):de (.tup [.int n,.lst f rows])=false:=by
 rw[iA,zaR h,zat,zat,zat,zat]
theorem om:∀l:ae,HT.lexLt l l=false
 |[]=>rfl
 |x::l=>by
  ext(a:om l);unfold HT.lexLt;simp[a]
theorem o5(a:ae)(e:az):∀d:az,fH (d++a::a::e)=false
 |[]=>by show(HT.lexLt a a&&_)=false;rw[om];rfl
 |[b]=>by show(HT.lexLt b a&&(HT.lexLt a a&&_))=false;rw[om];simp
 |b::c::d=>by
  show(HT.lexLt b c&&fH (c::d++a::a::e))=false;rw[o5 a e (c::d),zat]
def sJ(r:Row):dB (rD r)=r:=by
 show(ei r.1.num r.1.den,numsOf (ak r.2))=_;rw[mK,ff]
def oX(rs:ag):(bj rs).map dB=rs:=by
 unfold bj;rw[zah]
 conv=>rhs;rw[<- Do rs]
 exact aaZ λr _=>sJ r
theorem zE:∀{l:az},y4 l->fH l=true
 |[],_=>rfl
 |[_],_=>rfl
 |a::b::l,h=>by
  ext(⟨d,c⟩:mu.mp h);show(HT.lexLt a b&&fH (b::l))=true;rw[d b ⇑5,zE c];rfl
def Ma{k n:Nat}{rs:ag}(I:Dr k n rs):HB (eR n rs)/\de (eR n rs)=true:=by
 have i:=I.n1;have h:=I.n2;refine⟨λm f rows e=>?_,?_⟩
 ·cases e;refine⟨rfl,λd hd=>?_,λb e=>?_⟩
  ·ext(⟨r,a,rfl⟩:cr.mp hd);have:=(I.lot r a).len;show(ak r.2).length<64;simp;left
  ·have:rs=b:=by rw[<- oX rs,e,oX]
   exact[-this]\I.sl
 ·have e:de (eR n rs)=_:=iA n .fz (bj rs);rw[e,oX,zaH (by left:1<=(n:Int)),zaH (by left:(n:Int)<=12),zE I.rise,zaH (show(gY rs).sum=1 from I.one),hX.mpr]
  ·rfl
  ·intro d hd;ext(⟨r,a,rfl⟩:cr.mp hd);show(bH (.tup (ak r.2)) n&&(dZ (qD r.1)&&By (qD r.1)))=true;ext(g:(aC (I.lot r a).tP).1);have c:By (qD r.1)=true:=abC (Bu (I.pos r a));rw[g,Ke,c];rfl
structure Lj(d:D):Prop where
 fz:Fz d
 ok:HB d
 bad:de d=false
def z16(Φ:aY)(a:qo (Φ 45)):∀d,Lj d->mk Φ 1 1 dx [d]=ok (.bl false):=by
 intro d B;ext(e1:a d B.ok B.fz.fz);rw[B.bad]at e1;simp[mk_eq,dx,B.fz.al,B.fz.fz,e1]
def QL{m:aD}(h:qo m):∀k n a,Dr k n a->m [eR n a]=ok (.bl true):=λk n a I=>by
 ext(e:h (eR n a) (Ma I).1 (by simp[eR]));rw[(Ma I).2]at e;exact e
meta def Gr:CE:=.comp 1 (.nm 0) [3] .seq [(.cJ 1035 [(.v 3)])] [] (.tup [(.call 42 [(.cJ 1039 [(.v 1),(.v 0)])]),(.v 0)])
def K6:ai:=[.asg (.nm 2) (.call 100 [(.v 1)]),.asg (.nm 3) (.cJ 1030 []),.fr (.tp [4,5]) (.seq (.ix (.v 0) ↑1)) zq,.ret (.tup [(.bf .jv [AE]),Gr])]
def tG(rows:ag):ag:=(bh (jB rows)).map λl=>((jo rows l).sum,l)
theorem QI(Φ:aY)(P:Rk Φ)(b:iY (Φ 42))(e:Φ 1039=yB){rows:ag}(q:rows.length<1000)(hs:∀l,∃k,xC k (jo rows l))(o c1 c2:aM)(r:aV):bg Φ Gr (o::c1::c2::↥(kj .ow rows)::r)=ok (.ow\(bj (tG rows))):=by
 have d:(bh (jB rows)).Perm (jB rows):=abI _ _;ext(s:v7 rows);unfold Gr;rw[c_ (xs:=[.ow\((bh (jB rows)).map cH)]) (items:=(bh (jB rows)).map cH) (ds:=bj (tG rows)) ?_ ⇑[dt,gH] ?_ (by
  rw[df];unfold tG;rw[zaa];exact cA (by have:=d.length_eq;left))]
 ·rw[dM]
 ·have e1:∀f,Φ 1035 [kj f rows]=ok (.ow\((bh (jB rows)).map cH)):=λf=>Lp P f _ ⋯;have a:aJ bq (kj .ow rows)=kj .al rows:=tN _ _ _ _;generalize t:kj .ow rows=X at *;simp[a,e1]
 ·unfold bj tG;rw[zah];refine bV λl i=>?_;have j:l∈jB rows:=d.mem_iff.mp i;ext(n:VU e (jo rows) l j)(⟨k,p⟩:hs l)(m:b .fz (jo rows l) k p);have a:aJ bq (cH l)=.tup (ak l):=by show D.tup (ao bq (l.map D.int))=_;rw[kQ];rfl
  have h:aJ aK (kj .ow rows)=kj .fz rows:=tN _ _ _ _;have g:aJ bq (kj .fz rows)=kj .fz rows:=tN _ _ _ _;refine⟨[↥(cH l),↥(kj .fz rows)],by simp[bL,h],by simp,?_⟩;have c:Φ 1039 [kj .fz rows,.tup (ak l)]=ok (.fz\(fc (jo rows l))):=n;simp[a,g,c,m];rfl
def Rc(m:aD):Prop:=∀(n:Nat) (gs:ag) (Ds:List Dw),Wn (cL 0 Ds) gs->Ds.length<=1000->(∀d∈Ds,d.2.length<=1000/\∀r∈d.2,r.2.length<=1000)->(∀l,∃k,xC k (jo (allR (cL 0 Ds) gs) l))->m [eR n gs,.fz\(aO .fz Ds)]=ok (.tup [.int (fq Ds),.ow\(bj (tG (allR (cL 0 Ds) gs)))])
theorem YN(Φ:aY)(P:Rk Φ)(g:iY (Φ 42))(h:Wo (Φ 100))(G:Rg (Φ 101))(p:Φ 1039=yB)(x:Φ 1201=xM):Rc (mk Φ 2 8 K6):=by
 intro n c a W i F B;ext(e1:h a i F);have H:=W.ln;have e2:Φ 1030 []=ok (kj .ow []):=by rw[P.My];rfl
 ext(⟨o,m,l,k,j⟩:wI Φ G x (LL:=cL 0 a) ↥(eR n c) ↥(.fz\(aO .fz a)) c [] none none none none W (by simp;left));rw[zaz]at j;have E:bg Φ (.ix (.v 0) ↑1) [↥(eR n c),↥(.fz\(aO .fz a)),↥(.ow\(bK .ow (cL 0 a))),↥(kj .ow []),none,none,none,none]=ok (.fz\(bj c)):=by
  rw[show eR n c=.tup [.int n,.fz\(bj c)] from rfl];simp
 have e:cD Φ (.seq (.ix (.v 0) ↑1)) [↥(eR n c),↥(.fz\(aO .fz a)),↥(.ow\(bK .ow (cL 0 a))),↥(kj .ow []),none,none,none,none]=ok (bj c,[↥(eR n c),↥(.fz\(aO .fz a)),↥(.ow\(bK .ow (cL 0 a))),↥(kj .ow []),none,none,none,none]):=by
  rw[tT E];simp
 ext(C:fV (Φ:=Φ) (t:=.tp [4,5]) (b:=zq) e j)(z:yO Φ i .fz ↥(eR n c) [↥(.ow\(bK .ow (cL 0 a))),↥(kj .ow (allR (cL 0 a) c)),o,m,l,k])(y:QI Φ P g p ⋯ B ↥(eR n c) ↥(.fz\(aO .fz a)) ↥(.ow\(bK .ow (cL 0 a))) [o,m,l,k]);have q:qU .jv [.ow\(ak (a.map λd=>(d.1:Int)))]=ok ↑(fq a):=wz _ _;have s:aW bS (kj .ow [])=false:=J9 _ _ _ _ rfl;have r:aR bS (bK .ow (cL 0 a))=false:=mU (by rfl) _;have w:ao gW (bK .ow (cL 0 a))=bK .ow (cL 0 a):=by rw[dW];rfl
 have u:ao bq (aO .fz a)=aO .fz a:=by rw[bz];rfl
 have D:ao aK (aO .fz a)=aO .fz a:=by rw[bz];rfl
 generalize allR (cL 0 a) c=A at *;generalize bK .ow (cL 0 a)=R at *;generalize aO .fz a=X at *;generalize ak (a.map λd=>(d.1:Int))=Y at *;generalize eR n c=Z at *;generalize kj .ow []=J at *;generalize kj .ow A=I at *;simp[mk_eq,K6,e1,e2,u,D,w,s,r,C,z,y,q]
def DV{l:az}(h:y4 l):l.Nodup:=ya0 (λ{a b} x e=>by subst e;rw[om]at x;cases x) h
meta def f9:Int->List Dw->Int
 |c,[]=>c
 |c,d::Ds=>f9 (c*(d.2.length:Int)) Ds
theorem AM:∀(Ds a:List Dw) (c:Int),m6 (a++Ds) c ((qQ a.length Ds.length).map λ(k:Nat)=>(k:Int))=f9 c Ds
 |[],a,c=>rfl
 |d::Ds,a,c=>by
  rw[zae,Xr,zam,m6,f9];have e:(a++d::Ds).getD ((a.length:Int)).toNat (0,[])=d:=by simp
  rw[e];ext(b:AM Ds (a++[d]) (c*(d.2.length:Int)));rw[zai,zcd,zaf,zaC]at b;exact b
def Gd(Ds:List Dw):Prop:=∀d∈Ds,∃k,Dr k d.1 d.2
structure Lf(Ds:List Dw):Prop where
 l1:1<=Ds.length
 l4:Ds.length<=4
 dr:∀d∈Ds,Dr 6 d.1 d.2
 s12:fq Ds<=12
 V5:f9 1 Ds<=500
meta def Hz:List (ag)->Nat
 |[]=>1
 |rs::LL=>rs.length*Hz LL
theorem zO:∀{LL:List (ag)},(∀rs∈LL,1<=rs.length)->1<=Hz LL
 |[],_=>aao _
 |rs::LL,h=>Nat.mul_pos (h rs aag) (zO λx a=>h x (aaj _ a))
theorem EB:∀{LL:List (ag)} {c:Nat},(∀rs∈LL,1<=rs.length)->c*Hz LL<=1000->Ou c LL
 |[],_,_,_=>trivial
 |rs::LL,c,h,hc=>by
  ext(b:zO λx a=>h x (aaj _ a));rw[Hz,<- zbF]at hc;exact⟨aav (Mu _ b) hc,EB (λx a=>h x (aaj _ a)) hc⟩
theorem wW:∀{LL:List (ag)} {C:ag},(wX C LL).length=C.length*Hz LL
 |[],_=>by simp[wX,Hz]
 |rs::LL,C=>by
  ext(a:wW (LL:=LL) (C:=cS C rs));rw[r6,zbF]at a;exact a
theorem zM:∀(Ds:List Dw) (a:Int) (c:Nat),f9 c Ds=((c*Hz (cL a Ds):Nat):Int)
 |[],_,c=>by rw[f9,cL,Hz,TU]
 |d::Ds,a,c=>by
  ext(b:zM Ds (a+d.1) (c*d.2.length));rw[f9,cL,Hz,zaa,<- zbF,<- b,zbY]
def vK(LL:List (ag)):dC LL (n6 (LL.length:Int))=LL:=by
 unfold dC n6;rw[zaj,zah];refine aea λi=>?_;rw[bv];by_cases h:i<LL.length
 ·rw[vj h,ce h];show ↥(LL.getD ((i:Int)).toNat [])=_;simp[h]
 ·rw[dV (by simp;left),dV ⋯];rfl
protected def Ea{rows:ag}(h:(rows.map (·.2)).Nodup)(l:ae):(jo rows l).length<=1:=by
 induction rows with
 |nil=>simp[jo]
 |cons r rows a =>
  ext(⟨d,c⟩:gj.mp h)(a:a c);unfold jo at *;rw[XP];split
  ·rename_i e;ext(e:aac e);have:rows.filter (λr=>decide (r.2=l))=[]:=by
    rw[zca];intro x b z;exact d (by show r.2∈rows.map (·.2);rw[e,<- of_decide_eq_true z];exact abJ b)
   rw[this];simp
  ·exact a
def EZ(Ds:List Dw):ag:=wX [(1,[])] (cL 0 Ds)
section
variable {Ds:List Dw}(K:Lf Ds)
include K
theorem Lf.XO:∀a∈cL 0 Ds,yZ 6 12 a/\1<=a.length/\a.length<=1000:=λa g=>by
 ext(⟨d,hd,b,rfl⟩:G8 g)(I:K.dr d hd);refine⟨λr e=>?_,?_,[zaa]\I.len⟩
 ·ext(⟨s,c,rfl⟩:cr.mp e);refine⟨I.sm s c,?_⟩;have:=(I.lot s c).len;have:=I.n2;show(qC b s.2).length<=12;unfold qC;rw[zaa];left
 ·rw[zaa];refine acq λz=>?_;have:=I.one;rw[KM.mp z]at this;exact absurd this ⇑4
theorem Lf.nd:((EZ Ds).map (·.2)).Nodup/\∀m∈EZ Ds,Rl (fq Ds) m.2:=by
 have:=AU (a:=0) (Ds:=Ds) λd hd=>⟨DV (K.dr d hd).rise,λr b=>((K.dr d hd).lot r b).2⟩
 rw[Int.zero_add]at this;exact QY this (c:=[(1,[])]) (ack _) ⇑5 λm e=>[bn.mp e]\λ_ h=>nomatch h
theorem Lf.len:Hz (cL 0 Ds)<=500:=by
 have h:f9 1 Ds=_:=zM Ds 0 1;have:=K.V5;rw[TR]at h;left
theorem JB:(EZ Ds).length<=500:=by
 have:=K.len;have h:(EZ Ds).length=_:=wW (LL:=cL 0 Ds) (C:=[(1,[])]);rw[zaC,TR]at h;left
theorem Lf.sm:yZ 30 48 (EZ Ds):=λr a=>by
 ext(h:QX (k:=1) (l:=0) (i:=6) (j:=12) (c:=[((1:Rat),[])]) (LL:=cL 0 Ds) (λr a=>[bn.mp a]\⟨by constructor<;>decide,aao _⟩) (λb d=>(K.XO b d).1) r a);rw[jK]at h;have:=K.l4;exact⟨h.1.mono ⋯,by left⟩
end
meta def Ko:CE:=.tup [(.bf .len [(.v 0)]),(.lst [(.tup [(.tup [↑1,↑1]),(.cJ 1046 [(.bf .len [(.v 0)])])])])]
def qV:ai:=[.ex (.call 96 [(.v 0)]),.asg (.nm 1) Ko,.ex (.call 98 [(.v 1),(.v 0)]),.ret (.call 102 [(.v 1),(.v 0)])]
variable {Φ:aY}
def Aw{g:Nat}{es:aA}{ρ:aV}{xs:aa}{r:D}(b:b6 Φ es ρ=ok xs)(a:Φ g (ao aK xs)=ok r):ic Φ (.ex (.call g es)) ρ=ok (.nx,ρ):=by
 rw[X7];rw[mZ,b,l6];show bd (PY (Φ g (ao aK xs))) _=_;rw[a];rfl
def XD(f:Fl)(Ds:List Dw):D:=.tup [.int Ds.length,.lst f [.tup [qD 1,.tup (ak (n6 (Ds.length:Int)))]]]
def everyone(Ds:List Dw):ag:=[(1,n6 (Ds.length:Int))]
theorem EY(Φ:aY)(c:Φ 1046=Lq){Ds:List Dw}(j:Ds.length<=4):ic Φ (.asg (.nm 1) Ko) [↥(.fz\(aO .fz Ds)),none]=ok (.nx,[↥(.fz\(aO .fz Ds)),↥(XD .ow Ds)])/\∃a,b6 Φ [(.v 1),(.v 0)] [↥(.fz\(aO .fz Ds)),↥(XD .ow Ds)]=ok a/\ao aK a=[eR Ds.length (everyone Ds),.fz\(aO .fz Ds)]:=by
 have g:Φ 1046 [.int (Ds.length:Int)]=ok (.tup (ak (n6 (Ds.length:Int)))):=by
  rw[c];show(if (Ds.length:Int)<=(cB:Int) /\ -(cB:Int)<=(Ds.length:Int)then ok (D.tup ((n6 (Ds.length:Int)).map D.int))else none)=_;have:(cB:Int)=1000000:=rfl;rw[zac ⋯];rfl
 have d:D.tup [.int 1,.int 1]=qD 1:=rfl;ext(e:gM .fz Ds);have b:ao bq (aO .fz Ds)=aO .fz Ds:=by rw[bz];rfl
 have i:ao aK (aO .fz Ds)=aO .fz Ds:=by rw[bz];rfl
 have h:eR Ds.length (everyone Ds)=.tup [.int Ds.length,.fz\[.tup [qD 1,.tup (ak (n6 (Ds.length:Int)))]]]:=rfl;rw[h];unfold XD;generalize aO .fz Ds=X at *;generalize n6 (Ds.length:Int)=U at *;exact⟨by simp[Fj Φ Ko _ rfl,Ko,b,e,g,d],_,by simp[b];rfl,by simp[i,aK,bq]⟩
def yA(Ds:List Dw):XY Ds (everyone Ds):=λr b g a=>by
 rw[bn.mp b]at a;ext(⟨k,c,rfl⟩:cr.mp a);have:=g8.mp c;left
def Gf(Ds:List Dw):wR Ds (everyone Ds)=f9 1 Ds:=by
 unfold wR everyone;rw[List.map_singleton,List.sum_singleton];have a:n6 (Ds.length:Int)=(qQ 0 Ds.length).map λ(k:Nat)=>(k:Int):=by unfold n6;rw[zaj,zbs]
 show m6 Ds 1 (n6 (Ds.length:Int))=_;exact[a]\AM Ds [] 1
def Wq(m:aD):Prop:=∀a,Lf a->m [.fz\(aO .fz a)]=ok (.tup [.int (fq a),.ow\(bj (tG (EZ a)))])
def T8(n:Rc (Φ 102)){Ds:List Dw}(K:Lf Ds):Φ 102 [eR Ds.length (everyone Ds),.fz\(aO .fz Ds)]=ok (.tup [.int (fq Ds),.ow\(bj (tG (EZ Ds)))]):=by
 have p:=K.l1;have o:=K.l4;have e:allR (cL 0 Ds) (everyone Ds)=EZ Ds:=by
  unfold allR EZ everyone;rw[zaT,List.flatMap_nil,zaw];have:=vK (cL 0 Ds);rw[jK]at this;show wX [(1,[])] (dC (cL 0 Ds) (n6 (Ds.length:Int)))=_;rw[this]
 have j:Sm 6 (1:Rat):=Sm.mono (k:=1) (by constructor<;>decide) ⇑4;have hlen:(n6 (Ds.length:Int)).length=Ds.length:=by unfold n6;simp
 have m:Ou 1 (cL 0 Ds):=EB (λb c=>(K.XO b c).2.1) (by have:=K.len;left);have e3:=n Ds.length (everyone Ds) Ds ⟨λr a g i=>[jK]\yA Ds r a g i,λr a=>[bn.mp a]\⟨j,by show(n6 (Ds.length:Int)).length<=12;left⟩,λr a=>by
   rw[bn.mp a];have:=vK (cL 0 Ds);rw[jK]at this;show Ou 1 (dC (cL 0 Ds) (n6 (Ds.length:Int)));rw[this];exact m,λb c=>⟨(K.XO b c).1,(K.XO b c).2.2⟩,by rw[e];have:=JB K;left⟩ ⋯ (λd hd=>⟨(K.dr d hd).len,λr a=>by have:=((K.dr d hd).lot r a).len;have:=(K.dr d hd).n2;left⟩) (λl=>by
   rw[e];ext(s:Ea K.nd.1 l);refine⟨30,λq h=>?_,by left,by left⟩;ext(⟨r,a,rfl⟩:cr.mp h);exact(K.sm r (sh.mp a).1).1)
 rw[e]at e3;exact e3
def YL(Φ:aY)(p:Ld (Φ 96))(b:Ws (Φ 98))(q:Rc (Φ 102))(n:Φ 1046=Lq):Wq (mk Φ 1 2 qV):=by
 intro a K;have o:=K.l1;have h:=K.l4;ext(e1:p a o h λd hd=>⟨6,K.dr d hd⟩)
 ext(e2:b a.length (everyone a) a (by simp[everyone]) ⋯ (λd hd=>(K.dr d hd).len) (yA a) K.s12 ([Gf]\K.V5))(e3:T8 q K)(⟨l,i,e,c⟩:EY Φ n h);have m:ic Φ (.ex (.call 96 [(.v 0)])) [↥(.fz\(aO .fz a)),none]=ok (.nx,[↥(.fz\(aO .fz a)),none]):=Aw (xs:=[.fz\(aO .fz a)]) (by simp[bz]) (by rw[show ao aK [D.lst .fz (aO .fz a)]=[.fz\(aO .fz a)] by simp[bz]];exact e1);ext(k:Aw (g:=98) e ([c]\e2));have j:bg Φ (.call 102 [(.v 1),(.v 0)]) [↥(.fz\(aO .fz a)),↥(XD .ow a)]=ok (.tup [.int (fq a),.ow\(bj (tG (EZ a)))]):=by
  rw[mZ,e,l6,c,e3];show ok (D.tup [.int (fq a),.ow\(ao gW (bj (tG (EZ a))))])=_;rw[dM]
 rw[mk_eq (ar:=1) (ds:=[.fz\(aO .fz a)]) rfl];show jI (bF Φ qV [↥(.fz\(aO .fz a)),none])=_;unfold qV;rw[bI,m,dH,bI,l,dH,bI,k,dH,bI,CZ,OQ,j,eE (by show(false||(false||aR bS _)||false)=false;rw[jG];rfl)];rfl
structure Tn(P:ae->Prop)(j:Nat)(cs:az)(ws:ae):Prop where
 nd:cs.Nodup
 ln:cs.length=ws.length
 F_:cs.length<=j
 lot:∀c∈cs,P c
 pos:∀w∈ws,1<=w/\w<=9
 ne:1<=j->cs≠[]
theorem vw{a:Type}{c:ae}{v:a}:∀{cs:az} {ws:List a},cs.length=ws.length->(setC cs ws c v).length=ws.length
 |[],[],_=>rfl
 |[],_::_,h=>by simp at h
 |_::_,[],h=>by simp at h
 |c'::cs,w::ws,h=>by
  show((if c'=c then v else w)::setC cs ws c v).length=_;rw[zae,vw ⇑h,zae]
variable {cs:az}{ws:ae}
def Tn.put{P:ae->Prop}{j:Nat}(T:Tn P j cs ws){c:ae}(g:P c){i:Int}(o:1<=i)(n:i<=9):Tn P (j+1) (bp cs c) (bP cs ws c i):=by
 have m:=T.F_;by_cases h:c∈cs
 ·unfold bp bP;rw[zac h,zac h];refine⟨T.nd,[vw T.ln]\T.ln,by left,T.lot,λw hw=>?_,λ_ z=>by rw[z]at h;cases h⟩;ext((hw|rfl):vt hw)
  ·exact T.pos w hw
  ·left
 ·unfold bp bP;rw[zab h,zab h];refine⟨?_,by rw[zaf,zaf,T.ln];rfl,by rw[zaf,zaC];left,λd hd=>?_,λw hw=>?_,λ_ z=>by simp at z⟩
  ·refine pS.mpr ⟨T.nd,gj.mpr ⟨zn,ace⟩,λa l b k e=>?_⟩;rw[bn.mp k]at e;exact h (e▸l)
  ·ext((hd|hd):dz.mp hd)
   ·exact T.lot d hd
   ·exact[bn.mp hd]\g
  ·ext((hw|hw):dz.mp hw)
   ·exact T.pos w hw
   ·rw[bn.mp hw];left
theorem SK:∀{l:ae},(∀x∈l,1<=x/\x<=9)->0<=l.sum/\l.sum<=9*l.length/\∀x∈l,x<=l.sum
 |[],_=>⟨ack _,by simp,λ_ h=>nomatch h⟩
 |a::l,h=>by
  ext(⟨e,d,c⟩:SK λx b=>h x (aaj _ b))(g:h a aag);rw[zay,zae];refine⟨by left,by left,λx b=>?_⟩;ext((rfl|b):c0.mp b)
  ·left
  ·have:=c x b;left
def Tn.dr{P:ae->Prop}{n j:Nat}(T:Tn P j cs ws)(t:1<=j)(C:j<=5)(o:1<=n)(l:n<=12):Dp P 6 n (kl cs ws)/\(kl cs ws).length=cs.length/\1<=ws.sum/\ws.sum<=45:=by
 have g:(bh cs).Perm cs:=abI _ _;have h:(kl cs ws).length=cs.length:=by unfold kl;exact[zaa]\g.length_eq
 have B:=T.F_;have v:=T.ln;ext(⟨A,y,k⟩:SK T.pos);have d:∀c∈bh cs,1<=ko cs ws c/\ko cs ws c<=ws.sum:=λc a=>by
  ext(⟨w,e,m⟩:uc T.ln (g.mem_iff.mp a));unfold ko;exact[e]\⟨(T.pos w m).1,k w m⟩
 have s:1<=ws.sum:=by
  ext(⟨c,a⟩:List.exists_mem_of_ne_nil cs (T.ne t));have:=d c (g.mem_iff.mpr a);left
 have u:ws.sum<=45:=by left
 have i:∀r∈kl cs ws,Sm 6 r.1:=λr b=>by
  ext(⟨c,a,rfl⟩:cr.mp b);have:=d c a;exact LB ⋯ (by show _<64;left) (by show _<64;left)
 refine⟨⟨o,l,⟨ws.sum.natAbs,by left,?_,λr b=>?_⟩,by rw[h];left,λr b=>?_,λr b=>?_,i,?_,?_,6,⟨λq p=>?_,by unfold gY;rw[zaa,h];left,by unfold gY;rw[zaa,h];left⟩⟩,h,s,u⟩
 ·have:(46:Nat)<2 ^ 250:=by decide
  left
 ·ext(⟨c,a,rfl⟩:cr.mp b);exact qf ⋯
 ·ext(⟨c,a,rfl⟩:cr.mp b);exact T.lot c (g.mem_iff.mp a)
 ·ext(⟨c,a,rfl⟩:cr.mp b);exact kY (by have:=d c a;left) ⋯
 ·have e:(kl cs ws).map (·.1)=(bh cs).map λc=>ei (ko cs ws c) ws.sum:=by
   unfold kl;rw[zah];rfl
  rw[e];have e2:((bh cs).map λc=>ei (ko cs ws c) ws.sum).sum=(cs.map λc=>ei (ko cs ws c) ws.sum).sum:=Ei (g.map _);have e3:(cs.map λc=>ei (ko cs ws c) ws.sum)=(cs.map (ko cs ws)).map λx=>ei x ws.sum:=by rw[zah];rfl
  rw[e2,e3,vV T.nd T.ln,sN _ ⋯,zaE];have z:((ws.sum:Int):Rat)≠0:=λz=>by rw[zaY]at z;left
  grind
 ·have e:(kl cs ws).map (·.2)=bh cs:=by
   unfold kl;exact[zah]\(aaZ λ_ _=>rfl).trans (Do _)
  exact[e]\iO T.nd
 ·ext(⟨r,b,rfl⟩:cr.mp p);exact i r b
meta def AB:CE:=.comp 1 (.nm 0) [0] .nu [(.v 2)] [(.cmp .eq (.bin .mod (.bin .fdiv (.v 1) (.bin .shl ↑1 (.v 0))) ↑2) ↑1)] (.v 0)
def Iu:ai:=[.asg (.nm 6) (.bf .tuple1 [AB]),.asg (.nm 0) (.bin .fdiv (.v 0) (.bin .shl ↑1 (.v 2))),.mut 1033 4 [(.bin .add ↑1 (.bin .mod (.v 0) ↑9)),(.v 6)],.asg (.nm 0) (.bin .fdiv (.v 0) ↑9)]
meta def Gq:CE:=.comp 1 (.nm 0) [7,4] .seq [(.cJ 1035 [(.v 4)])] [] (.tup [(.call 201 [(.cJ 1032 [(.v 2),(.v 0)]),(.v 1)]),(.v 0)])
def K5:ai:=[.asg (.nm 2) (.bin .add ↑1 (.bin .mod (.v 0) (.v 1))),.asg (.nm 3) (.bin .add ↑1 (.bin .mod (.bin .fdiv (.v 0) (.v 1)) ↑5)),.asg (.nm 0) (.bin .fdiv (.v 0) (.bin .mul ↑5 (.v 1))),.asg (.nm 4) (.cJ 1030 []),.fr (.nm 5) (.nu (.v 3)) Iu,.asg (.nm 7) (.cJ 1038 [(.v 4)]),.ret (.tup [(.v 2),Gq])]
def G9{k:Nat}(a:k<=12):dh .shl ↑1 ↑(k:Int)=ok ↑((2 ^ k:Nat):Int):=by
 rw[V9 (by
  unfold vJ;simp only[zag,decide_eq_true_eq];exact⟨⟨by left,by left⟩,by decide⟩),zaj,Int.one_mul]
 simp
def MW(N:Int){k:Nat}(a:k<=12):dh .fdiv ↑N ↑((2 ^ k:Nat):Int)=ok ↑(N.fdiv ((2 ^ k:Nat):Int)):=by
 have c:1<=2 ^ k:=Nat.one_le_two_pow;have b:2 ^ k<=2 ^ 12:=abB ⇑4 a;refine iX (gm ⋯ (pC ?_));rw[zbA];have:(2:Nat) ^ 12<2 ^ 64:=by decide
 left
theorem OL(Φ:aY){n:Nat}(hn:n<=12)(N:Int)(c1:aM)(r:aV):∃a,xD n a/\bg Φ AB (↥↑N::c1::↥↑n::r)=ok (.ow\(ak a)):=by
 refine⟨_,Zm n λ(k:Nat)=>decide ((N.fdiv ((2 ^ k:Nat):Int)).fmod 2=1),?_⟩;unfold AB;rw[c_ (xs:=[.int n]) (ds:=((eg n).filter λ(k:Nat)=>decide ((N.fdiv ((2 ^ k:Nat):Int)).fmod 2=1)).map λ(k:Nat)=>D.int (k:Int)) ⇑5 (z_ Φ ⋯ ⋯) ?_ ?_]
 ·simp[aN,ak]
 ·rw[zaj];refine nF λk b=>⟨[↥↑k,↥↑N],by simp[bL],?_,λ_=>by simp⟩
  ext(c:g8.mp b)(e1:G9 (k:=k) ⋯)(e2:MW N (k:=k) ⋯);generalize (N.fdiv ((2 ^ k:Nat):Int))=M at *;generalize ((2 ^ k:Nat):Int)=W at *;simp[e1,e2]
 ·have:=O4 (λ(k:Nat)=>decide ((N.fdiv ((2 ^ k:Nat):Int)).fmod 2=1)) (eg n);simp only[zaa,zbo]at this ⊢;exact cA ⋯
theorem z6(Φ:aY)(P:Rk Φ){n:Nat}(hn:n<=12)(c1 g e:aM):∀(c:aa) (j:Nat) (N:Int) (cs:az) (ws:ae) (m h:aM),Tn (xD n) j cs ws->j+c.length<=5 ->
  ∃q o r C B,dw (λd l=>cn (.nm 5) d l) (λl=>bF Φ Iu l) c [↥↑N,c1,↥↑n,g,↥(.cF .ow cs (ak ws)),m,h,e]=ok (.nx,[r,c1,↥↑n,g,↥(.cF .ow q (ak o)),C,B,e])/\Tn (xD n) (j+c.length) q o
 |[],j,N,cs,ws,m,h,T,_=>⟨cs,ws,↥↑N,m,h,rfl,T⟩
 |k::c,j,N,cs,ws,m,h,T,hj=>by
  rw[zae]at hj;ext(⟨a,w,e1⟩:OL Φ hn N c1 [g,↥(.cF .ow cs (ak ws)),↥k,h,e])(e2:G9 hn)(e3:MW N hn);generalize N.fdiv ((2 ^ n:Nat):Int)=M at *;ext(⟨a1,a2⟩:gL M (b:=9) ⇑4);have D:=T.F_;ext(e4:QN P (cs:=cs) ⋯ ws a (1+M.fmod 9))(A:T.put w (i:=1+M.fmod 9) ⋯ ⋯)(⟨q,o,z,y,x,u,s⟩:z6 Φ P hn c1 g e c (j+1) (M.fdiv 9) _ _ ↥k ↥(.tup (ak a)) A ⋯)(t:xE (Φ:=Φ) (p:=1033) (i:=4) (es:=[(.bin .add ↑1 (.bin .mod (.v 0) ↑9)),(.v 6)]) (ρ:=[↥↑M,c1,↥↑n,g,↥(.cF .ow cs (ak ws)),↥k,↥(.tup (ak a)),e]) (xs:=[.int (1+M.fmod 9),.tup (ak a)]) ⇑5 ⇑5 rfl e4);simp only[J2]at t;refine⟨q,o,z,y,x,eQ (ρ1:=[↥↑N,c1,↥↑n,g,↥(.cF .ow cs (ak ws)),↥k,h,e]) ⇑5 (ρ2:=[↥↑(M.fdiv 9),c1,↥↑n,g,↥(.cF .ow (bp cs a) (ak (bP cs ws a (1+M.fmod 9)))),↥k,↥(.tup (ak a)),e]) ?_ u,by rw[zae,show j+(c.length+1)=j+1+c.length by left];exact s⟩;generalize ((2 ^ n:Nat):Int)=W at *;simp[Iu,Fj Φ AB _ rfl,e1,e2,e3,t]
def YF(a:Φ 1038=Ro)(f:Fl)(cs:az)(ws:ae):Φ 1038 [.cF f cs (ak ws)]=ok ↑ws.sum:=by
 rw[a];show(match intsOf (ws.map D.int)with|↥ns=>ok (D.int ns.sum)|none=>none)=_;rw[bY]
def Wr(m:aD):Prop:=∀(N:Int) (p:Nat),1<=p->p<=12->∃d:Dw,m [.int N,.int p]=ok (ie .ow d)/\Dr 6 d.1 d.2/\d.2.length<=5/\1<=d.2.length/\d.1<=p
theorem YM(Φ:aY)(P:Rk Φ)(j:oM (Φ 201))(L:Φ 1038=Ro):Wr (mk Φ 2 8 K5):=by
 intro N p S Q;ext(⟨o,W⟩:gL N (b:=(p:Int)) ⋯);obtain⟨n,x⟩:∃n:Nat,1+N.fmod p=(n:Int):=⟨(1+N.fmod p).toNat,by left⟩
 ext(⟨V,U⟩:gL (N.fdiv p) (b:=5) ⇑4);obtain⟨k,A⟩:∃k:Nat,1+(N.fdiv p).fmod 5=(k:Int):=⟨(1+(N.fdiv p).fmod 5).toNat,by left⟩
 have K:Tn (xD n) 0 [] []:=⟨ace,rfl,aao _,(λ_ h=>nomatch h),(λ_ h=>nomatch h),λh=>by left⟩
 ext(⟨cs,ws,J,I,H,F,T⟩:z6 Φ P (n:=n) ⋯ ↥↑p ↥↑k none ((eg k).map λ(i:Nat)=>D.int (i:Int)) 0 (N.fdiv (5*p)) [] [] none none K (by simp;left));rw[zaa,zbo,zaD]at T;ext(⟨M,z,w1,r⟩:T.dr (n:=n) ⋯ ⋯ ⋯ ⋯)(u:T.ne ⋯);have B:1<=cs.length:=List.length_pos_iff.mpr u;have l:=T.F_;have y:dh .mod ↑N ↑p=ok ↑(N.fmod p):=su ⋯;have hd:dh .fdiv ↑N ↑p=ok ↑(N.fdiv p):=iX (gm ⋯ (pC ⋯));have g:dh .fdiv ↑N ↑(5*(p:Int))=ok ↑(N.fdiv (5*p)):=iX (gm ⋯ (pC ⋯));have d:dh .mul ↑5 ↑(p:Int)=ok ↑(5*(p:Int)):=K4 ⋯;have q:Φ 1030 []=ok (.cF .ow [] (ak [])):=by rw[P.My];rfl
 have e:cD Φ (.nu (.v 3)) [↥↑(N.fdiv (5*p)),↥↑p,↥↑n,↥↑k,↥(.cF .ow [] (ak [])),none,none,none]=ok ((eg k).map λ(i:Nat)=>D.int (i:Int),[↥↑(N.fdiv (5*p)),↥↑p,↥↑n,↥↑k,↥(.cF .ow [] (ak [])),none,none,none]):=by
  rw[Um (n:=k) ⇑5 ⋯ ⋯,zaj]
 ext(m:fV (Φ:=Φ) (t:=.nm 5) (b:=Iu) e F);have w:(bh cs).Perm cs:=abI _ _;ext(a:λf=>YF L f cs ws);have E:bg Φ Gq [J,↥↑p,↥↑n,↥↑k,↥(.cF .ow cs (ak ws)),I,H,↥↑ws.sum]=ok (.ow\(bj (kl cs ws))):=by
  unfold Gq;rw[c_ (xs:=[.ow\((bh cs).map cH)]) (items:=(bh cs).map cH) (ds:=bj (kl cs ws)) (by simp[Lp P _ _ (show cs.length<1000 by left)]) ⇑[dt,gH] ?_ ([df,z]\cA ⋯)]
  ·rw[dM]
  ·unfold bj kl;rw[zah];refine bV λc C=>?_;have O:c∈cs:=w.mem_iff.mp C;ext(G:λf=>VV P f T.ln O)(o:j (ko cs ws c) ws.sum ⋯ (pC ⋯));have s:aJ bq (cH c)=.tup (ak c):=by show D.tup (ao bq (c.map D.int))=_;rw[kQ];rfl
   refine⟨[↥(cH c),↥↑ws.sum,↥(.cF .fz cs (ak ws))],by simp[bL],by simp,?_⟩;simp[s,G,o];rfl
 refine⟨(n,kl cs ws),?_,M,by show(kl cs ws).length<=5;left,by show 1<=(kl cs ws).length;left,by show n<=p;left⟩;simp only[BW]at m q;generalize kl cs ws=R at *;show _=ok (D.tup [.int n,.ow\(bj R)]);simp[mk_eq,K5,y,x,hd,A,d,g,q,m,a,E]
def qc(a:ds.length≠2):de (.tup ds)=false:=by
 unfold de
 match ds,a with
 |[],_=>rfl
 |[_],_=>rfl
 |[_,_],h=>exact absurd rfl h
 |_::y::_::_,_=>cases y<;>rfl
def kX{n:Int}(h:n<1\/12<n)(f:Fl)(rows:aa):de (.tup [.int n,.lst f rows])=false:=by
 rw[iA];ext((h|h):h)
 ·rw[zaR (by left:¬ 1<=n)];rfl
 ·rw[zaR (by left:¬ n<=12),zaL,zat]
def w0(n:Nat)(rs tl:ag)(r rl:Row):aa:=[.tup [.int 0,.fz\(bj rs)],.tup [.int 13,.fz\(bj rs)],.tup [.int (-1),.fz\(bj rs)],.tup [.bX,.fz\(bj rs)],.tup [.bl true,.fz\[.tup [.tup [.int 1,.int 1],.tup [.int 0]]]],.fz\[.int n,.fz\(bj rs)]]
def w1(n:Nat)(rs tl:ag)(r rl:Row):aa:=[.tup [.int n,.fz\(bj rs),.int 0],.tup [.int n],.tup [.int n,.tup (bj rs)],.tup [.int n,.fz\[]],.tup [.int n,.fz\(bj (rs++[rl]))]]
def w2(n:Nat)(rs tl:ag)(r rl:Row):aa:=[.tup [.int n,.fz\(bj (tl++[r]++[r]))]]
def w3(n:Nat)(rs tl:ag)(r rl:Row):aa:=[.tup [.int n,.fz\(.fz\[qD r.1,.tup (ak r.2)]::bj tl)],.tup [.int n,.fz\(.tup [qD r.1,.tup (ak r.2),.int 0]::bj tl)],.bX,.str "drawing",.int 1,.fz\[]]
def w4(n:Nat)(rs tl:ag)(r rl:Row):aa:=[.tup [.int n,.fz\(.tup [qD r.1,.fz\(ak r.2)]::bj tl)],.tup [.int n,.fz\(.tup [.tup [.int 0,.int 1],.tup (ak r.2)]::bj tl)]]
meta def w5(n:Nat)(rs tl:ag)(r rl:Row):aa:=[.tup [.int n,.fz\[.tup [.tup [.int 2,.int 2],.tup [.int 0]]]],.tup [.int n,.fz\[.tup [.tup [.int 1,.int 2],.tup []],.tup [.tup [.int 1,.int 2],.tup []]]],.tup [.int n,.fz\[.tup [.tup [.int 1,.int 1],.tup [.int n]]]]]
meta def w6(n:Nat)(rs tl:ag)(r rl:Row):aa:=[.tup [.int n,.fz\[.tup [.tup [.int 1,.int 1],.tup [.int (-1)]]]],.tup [.int n,.fz\[.tup [.tup [.int 1,.int 1],.tup [.bl false]]]],.tup [.int n,.fz\[.tup [.tup [.int 1,.int 1],.tup [.int 0,.int 0]]]]]
meta def w7(n:Nat)(rs tl:ag)(r rl:Row):aa:=[.tup [.int n,.fz\[.tup [.tup [.int 1,.int 2],.tup [.int 0]],.tup [.tup [.int 1,.int 2],.tup []]]],.tup [.int n,.fz\[.tup [.tup [.int 3,.int 2],.tup []],.tup [.tup [.int (-1),.int 2],.tup [.int 0]]]],.tup [.int n,.fz\[.tup [.int 1,.tup [.int 0]]]]]
meta def w8(n:Nat)(rs tl:ag)(r rl:Row):aa:=[.tup [.int n,.fz\[.tup [.tup [.int 1,.int 1],.tup [.str "0"]]]],.tup [.int n,.fz\[.tup [.tup [.int 1,.int 1],.int 0]]],.tup [.int n,.fz\[.tup [.tup [.int 1,.int 2],.tup []]]]]
meta def NM(n:Nat)(rs tl:ag)(r rl:Row):aa:=w0 n rs tl r rl++w1 n rs tl r rl++w2 n rs tl r rl++w3 n rs tl r rl++w4 n rs tl r rl++w5 n rs tl r rl++w6 n rs tl r rl++w7 n rs tl r rl++w8 n rs tl r rl
variable {Xd:ag}{rl:Row}
def ID{n:Nat}{rs tl:ag}{r:Row}(e2:rs=Xd++[rl]):∀x∈NM n rs tl r rl,de x=false:=by
 intro x a;simp only[NM,w0,w1,w2,w3,w4,w5,w6,w7,w8,zbq,zaz,zau,zav,or_false]at a;ext((rfl|rfl|rfl|rfl|rfl|rfl|rfl|rfl|rfl|rfl|rfl|rfl|rfl|rfl|rfl|rfl|rfl|rfl|rfl|rfl|rfl|rfl|rfl|rfl|rfl|rfl|rfl|rfl|rfl|rfl|rfl|rfl):a)
 ·exact kX ⋯ _ _
 ·exact kX ⋯ _ _
 ·exact kX ⋯ _ _
 ·exact qd λ_ h=>by cases h
 ·exact qd λ_ h=>by cases h
 ·rfl
 ·exact qc ⇑5
 ·exact qc ⇑5
 ·exact yC λ_ _ h=>by cases h
 ·exact qb ⇑6
 ·refine gN ?_;exact[oX,e2,zai,zak]\o5 rl.2 [] _
 ·refine gN ?_;exact[oX,zai,zak]\o5 r.2 [] _
 ·exact bZ aag rfl
 ·exact bZ aag rfl
 ·rfl
 ·rfl
 ·rfl
 ·rfl
 ·exact bZ aag (by simp[eM,bH])
 ·exact bZ aag (by simp[eM,By])
 ·exact bZ aag (by simp[eM,dZ])
 ·exact gN ⇑6
 ·exact bZ aag (by simp[eM,bH,cy])
 ·exact bZ aag (by simp[eM,bH,cy])
 ·exact bZ aag (by simp[eM,bH,cy])
 ·exact bZ aag (by
   have:decide ((uj (numsOf [D.int 0,.int 0])).length=[D.int 0,.int 0].length)=false:=by decide +kernel
   simp only[eM,bH,this,zat,zaL])
 ·exact gN ⇑6
 ·exact bZ (aaj _ aag) (by simp[eM,By])
 ·exact bZ aag (by simp[eM,dZ])
 ·exact bZ aag (by simp[eM,bH,cy])
 ·exact bZ aag (by simp[eM,bH])
 ·exact qb ⇑6
def LC(d:D):Prop:=Cq d/\Sm 6 (dB d).1
def jz{d:D}(h:∀m f rows,d≠.tup [m,.lst f rows]):HB d:=λm f rows e=>absurd e (h m f rows)
def kO{m:D}{rows:aa}(h:∀d∈rows,LC d)(i:rows.length<=50):HB (.tup [m,.fz\rows]):=λm f g e=>by
 cases e;refine⟨rfl,λd hd=>(h d hd).1,λa e=>⟨6,λq c=>?_,?_,?_⟩⟩
 ·ext(⟨r,b,rfl⟩:cr.mp c);have:=(h (rD r) ([e]\abJ b)).2
  rwa [sJ]at this
 ·have:(gY a).length=rows.length:=by rw[e];simp[gY]
  left
 ·have:(gY a).length=rows.length:=by rw[e];simp[gY]
  left
theorem y9(Φ:aY):∀(a b:ai) (ρ ρ':aV),bF Φ a ρ=ok (.nx,ρ')->bF Φ (a++b) ρ=bF Φ b ρ'
 |[],b,ρ,ρ',h=>by cases h;rfl
 |s::a,b,ρ,ρ',h=>by
  rw[bI]at h;show bF Φ (s::(a++b)) ρ=_;rw[bI]
  revert h
  cases ic Φ s ρ with
  |none=>intro h;cases h
  |some x=>cases x with
   |error c=>intro h;cases h
   |ok z =>
    ext(⟨f,d⟩:z);cases f<;>first|exact λh=>y9 Φ a b d ρ' h | (intro h;cases h)
meta def uv(es:aA):CS:=.asg (.nm 6) (.bin .add (.v 6) (.lst es))
section
variable {Φ:aY}{ρ:aV}{a b e:CE}{Ys Zs:aa}{Y:D}{es:aA}{ss:ai}{Q:aV->Prop}{l:List (Nat×D)}{n:Nat}{rs:ag}
def cx.k(h:bg Φ e ρ=ok Y:=by rfl)(c:aJ aK Y=Y:=by rfl):cx Φ e ρ Y:=⟨Y,h,c⟩
def cx.cut{d:Bool}{p k:Nat}(c:Φ p=cutD d)(h:cx Φ a ρ (.fz\Ys))(i:bg Φ b ρ=ok ↑k):cx Φ (.cJ p [a,b]) ρ (.fz\(js d k Ys)):=by
 ext(⟨g,ds,j,rfl,_⟩:h.vX);refine⟨.ow\(ao bq (js d k ds)),?_,?_⟩
 ·rw[MN,cz,cz,j,i];show Φ p [_,_]=_;rw[c];show(if (0:Int)<=(k:Int)then ok (D.lst .ow (ao bq (js d (k:Int).toNat ds)))else none)=_;rw[zac ⋯,zaj]
 ·show D.lst .fz (ao aK (ao bq _))=_;rw[iz,aN,aN];cases d
  ·exact aa5 _ Ka
  ·exact aa5 _ Kd
def cx.abm{p:Nat}(d:Φ p=rY)(h:cx Φ a ρ (.fz\Ys))(c:1<=Ys.length):cx Φ (.cJ p [a,.neg ↑1]) ρ (.fz\(Ys.drop (Ys.length - 1))):=by
 ext(⟨g,ds,i,rfl,_⟩:h.vX);rw[aN,zaa]at c;refine⟨.ow\(ao bq (ds.drop (ds.length - 1))),?_,?_⟩
 ·rw[MN,cz,cz,i];show Φ p [_,_]=_;exact[d]\abE ⟨rfl,c⟩
 ·show D.lst .fz (ao aK (ao bq _))=_;rw[iz,aN,aN,zaa,zbE]
theorem Go.cat{W:aa}(A:xu 7 ((6,.fz\W)::l) ρ)(h:bR Φ es ρ Ys)(d:W.length+Ys.length<=1000)(k:∀c,xu 7 ((6,.fz\(W++Ys))::l) c->Go Φ ss c Q)(hn:(l.all λp=>p.1 != 6)=true:=by rfl):Go Φ (uv es::ss) ρ Q :=
 Go.yT ⟨A.1,A.2.2⟩ (A.2.1.v.cat h.lst rfl rfl d) k (hn:=hn)
end
def sL(n:Nat)(rs:ag)(z:Int)(r:Row):List (Nat×D):=[(1,.int z),(2,.int n),(3,.fz\(bj rs)),(4,qD r.1),(5,.tup (ak r.2))]
meta def es0:aA:=[(.tup [↑0,(.v 3)]),(.tup [↑13,(.v 3)]),(.tup [(.neg ↑1),(.v 3)]),(.tup [.bX,(.v 3)]),(.tup [(.bl true),(.lst [(.tup [(.tup [↑1,↑1]),(.tup [↑0])])])]),(.lst [(.v 2),(.v 3)])]
meta def es1:aA:=[(.tup [(.v 2),(.v 3),↑0]),(.tup [(.v 2)]),(.tup [(.v 2),(.bf .tuple1 [(.v 3)])]),(.tup [(.v 2),(.lst [])]),(.tup [(.v 2),(.bin .add (.v 3) (.cJ 1083 [(.v 3),(.neg ↑1)]))])]
meta def es2:aA:=[(.tup [(.v 2),(.bin .add (.bin .add (.cJ 1020 [(.v 3),↑1]) (.cJ 1021 [(.v 3),↑1])) (.cJ 1021 [(.v 3),↑1]))])]
meta def es3:aA:=[(.tup [(.v 2),(.bin .add (.lst [(.lst [(.v 4),(.v 5)])]) (.cJ 1020 [(.v 3),↑1]))]),(.tup [(.v 2),(.bin .add (.lst [(.tup [(.v 4),(.v 5),↑0])]) (.cJ 1020 [(.v 3),↑1]))]),.bX,(.str "drawing"),↑1,(.lst [])]
meta def es4:aA:=[(.tup [(.v 2),(.bin .add (.lst [(.tup [(.v 4),(.bf .list1 [(.v 5)])])]) (.cJ 1020 [(.v 3),↑1]))]),(.tup [(.v 2),(.bin .add (.lst [(.tup [(.tup [↑0,↑1]),(.v 5)])]) (.cJ 1020 [(.v 3),↑1]))])]
meta def es5:aA:=[(.tup [(.v 2),(.lst [(.tup [(.tup [↑2,↑2]),(.tup [↑0])])])]),(.tup [(.v 2),(.lst [(.tup [(.tup [↑1,↑2]),(.tup [])]),(.tup [(.tup [↑1,↑2]),(.tup [])])])]),(.tup [(.v 2),(.lst [(.tup [(.tup [↑1,↑1]),(.tup [(.v 2)])])])])]
meta def es6:aA:=[(.tup [(.v 2),(.lst [(.tup [(.tup [↑1,↑1]),(.tup [(.neg ↑1)])])])]),(.tup [(.v 2),(.lst [(.tup [(.tup [↑1,↑1]),(.tup [(.bl false)])])])]),(.tup [(.v 2),(.lst [(.tup [(.tup [↑1,↑1]),(.tup [↑0,↑0])])])])]
meta def es7:aA:=[(.tup [(.v 2),(.lst [(.tup [(.tup [↑1,↑2]),(.tup [↑0])]),(.tup [(.tup [↑1,↑2]),(.tup [])])])]),(.tup [(.v 2),(.lst [(.tup [(.tup [↑3,↑2]),(.tup [])]),(.tup [(.tup [(.neg ↑1),↑2]),(.tup [↑0])])])]),(.tup [(.v 2),(.lst [(.tup [↑1,(.tup [↑0])])])])]
meta def es8:aA:=[(.tup [(.v 2),(.lst [(.tup [(.tup [↑1,↑1]),(.tup [(.str "0")])])])]),(.tup [(.v 2),(.lst [(.tup [(.tup [↑1,↑1]),↑0])])]),(.tup [(.v 2),(.lst [(.tup [(.tup [↑1,↑2]),(.tup [])])])])]
meta def Og:ai:=[.asg (.tp [2,3]) (.v 0),.asg (.tp [4,5]) (.ix (.v 3) ↑0)]
def Ti:ai:=[.asg (.nm 6) (.lst es0),uv es1,uv es2,uv es3,uv es4,uv es5,uv es6,uv es7,uv es8]
def jL:ai:=Og++(Ti++[.ret (.ix (.v 6) (.bin .mod (.v 1) ↑32))])
variable {X:D}
section
variable {Φ:aY}{ρ:aV}{n:Nat}{rs tl Xd:ag}{r rl:Row}(v2:cx Φ (.v 2) ρ ↑n)(v3:cx Φ (.v 3) ρ (.fz\(bj rs)))(v4:cx Φ (.v 4) ρ (qD r.1))(v5:cx Φ (.v 5) ρ (.tup (ak r.2)))
def x3(a b:ag):bj a++bj b=bj (a++b):=by unfold bj;rw[zak]
include v2 v3 in
theorem sp0:bR Φ es0 ρ (w0 n rs tl r rl):=.cons (bR.tup (.cons .k (.cons v3 .nil))) <|.cons (bR.tup (.cons .k (.cons v3 .nil))) <|.cons (bR.tup (.cons .k (.cons v3 .nil))) <|.cons (bR.tup (.cons .k (.cons v3 .nil))) <|.cons ⟨_,rfl,rfl⟩ <|.cons (bR.lst (.cons v2 (.cons v3 .nil))) .nil
include v2 v3 in
theorem sp1(a:Φ 1083=rY)(e2:rs=Xd++[rl])(b:rs.length<=10):bR Φ es1 ρ (w1 n rs tl r rl):=by
 ext(c:(cx.abm a v3 (by rw[e2];simp)))
 have e:(bj rs).drop ((bj rs).length - 1)=bj [rl]:=by unfold bj;rw[<- zbE,zaa,e2];simp
 rw[e]at c;ext(c:v3.cat c rfl rfl (by rw[df,df];simp;left));rw[x3]at c;exact .cons (bR.tup (.cons v2 (.cons v3 (.cons .k .nil)))) <|.cons (bR.tup (.cons v2 .nil)) <|.cons (bR.tup (.cons v2 (.cons v3.Sl .nil))) <|.cons (bR.tup (.cons v2 (.cons ⟨_,rfl,rfl⟩ .nil))) <|.cons (bR.tup (.cons v2 (.cons c .nil))) .nil
variable (e1:rs=r::tl)(dY:Φ 1020=cutD true)
include v3 dY e1 in
theorem LA:cx Φ (.cJ 1020 [(.v 3),↑1]) ρ (.fz\(bj tl)):=by
 ext(c:cx.cut (b:=.int 1) (k:=1) dY v3 rfl);rw[e1]at c;exact c
include v2 v3 dY e1 in
theorem sp2(e:Φ 1021=cutD false)(a:rs.length<=10):bR Φ es2 ρ (w2 n rs tl r rl):=by
 ext(t:LA v3 e1 dY);have c:cx Φ (.cJ 1021 [(.v 3),↑1]) ρ (.fz\(bj [r])):=by
  ext(c:cx.cut (b:=.int 1) (k:=1) e v3 rfl);rw[e1]at c;exact c
 have g:tl.length+1<=10:=by rw[e1]at a;exact a
 ext(d:t.cat c rfl rfl (by rw[df,df];simp;left));rw[x3]at d;ext(d:d.cat c rfl rfl (by rw[df,df];simp;left));rw[x3]at d;exact .cons (bR.tup (.cons v2 (.cons d .nil))) .nil
include v3 dY e1 in
theorem zw(a:rs.length<=10){x:CE}(h:cx Φ x ρ X):cx Φ (.bin .add (.lst [x]) (.cJ 1020 [(.v 3),↑1])) ρ (.fz\(X::bj tl)) :=
 (bR.lst (.cons h .nil)).cat (LA v3 e1 dY) rfl rfl (by rw[e1]at a;simp at a ⊢;left)
include v2 v3 v4 v5 dY e1 in
theorem sp3(a:rs.length<=10):bR Φ es3 ρ (w3 n rs tl r rl) :=
 .cons (bR.tup (.cons v2 (.cons (zw v3 e1 dY a (bR.lst (.cons v4 (.cons v5 .nil)))) .nil))) <|.cons (bR.tup (.cons v2 (.cons (zw v3 e1 dY a (bR.tup (.cons v4 (.cons v5 (.cons .k .nil))))) .nil))) <|.cons .k <|.cons .k <|.cons .k <|.cons ⟨_,rfl,rfl⟩ .nil
include v2 v3 v4 v5 dY e1 in
theorem sp4(a:rs.length<=10):bR Φ es4 ρ (w4 n rs tl r rl) :=
 .cons (bR.tup (.cons v2 (.cons (zw v3 e1 dY a (bR.tup (.cons v4 (.cons v5.Zk .nil)))) .nil))) <|.cons (bR.tup (.cons v2 (.cons (zw v3 e1 dY a (bR.tup (.cons ⟨_,rfl,rfl⟩ (.cons v5 .nil)))) .nil))) .nil
include v2 in
theorem nM{x:CE}(h:cx Φ x ρ X):cx Φ (.tup [.v 2,x]) ρ (.tup [.int n,X]):=bR.tup (.cons v2 (.cons h .nil))
include v2 in
theorem sp5:bR Φ es5 ρ (w5 n rs tl r rl):=.cons (nM v2 ⟨_,rfl,rfl⟩) <|.cons (nM v2 ⟨_,rfl,rfl⟩) <|.cons (nM v2 (bR.lst (.cons (bR.tup (.cons ⟨_,rfl,rfl⟩ (.cons (bR.tup (.cons v2 .nil)) .nil))) .nil))) .nil
include v2 in
theorem sp6:bR Φ es6 ρ (w6 n rs tl r rl):=.cons (nM v2 ⟨_,rfl,rfl⟩) <|.cons (nM v2 ⟨_,rfl,rfl⟩) <|.cons (nM v2 ⟨_,rfl,rfl⟩) .nil
include v2 in
theorem sp7:bR Φ es7 ρ (w7 n rs tl r rl):=.cons (nM v2 ⟨_,rfl,rfl⟩) <|.cons (nM v2 ⟨_,rfl,rfl⟩) <|.cons (nM v2 ⟨_,rfl,rfl⟩) .nil
include v2 in
theorem sp8:bR Φ es8 ρ (w8 n rs tl r rl):=.cons (nM v2 ⟨_,rfl,rfl⟩) <|.cons (nM v2 ⟨_,rfl,rfl⟩) <|.cons (nM v2 ⟨_,rfl,rfl⟩) .nil
end
def dP(k:Nat)(rs:ag):(bj rs).all (cg (k+2))=true:=oj (TH k) rs
def SS{k n:Nat}{rs:ag}(I:Dr 6 n rs){r:Row}(a:r∈rs):LC (rD r):=⟨by
 have:=(I.lot r a).len;have:=I.n2;show(ak r.2).length<64;simp;left,[sJ]\I.sm r a⟩
def zA{n:Nat}{rs a:ag}(I:Dr 6 n rs)(h:∀s∈a,s∈rs):∀d∈bj a,LC d:=λd hd=>by
 ext(⟨s,b,rfl⟩:cr.mp hd);exact SS (k:=0) I (h s b)
def smB(d:D):Bool:=(match d with
 |.tup [_,l]=>(match l with
  |.tup a=>decide (a.length<64)
  |.lst _ a=>decide (a.length<64)
  |_=>true)
 |_=>true)&&(decide ((dB d).1.num.natAbs<64)&&decide ((dB d).1.den<64))
def dO{d:D}(h:smB d=true):LC d:=by
 unfold smB at h;ext(⟨b,a⟩:aC h)(⟨a,c⟩:aC a);refine⟨?_,aac a,aac c⟩;unfold Cq;split
 ·simp only at b;unfold uw;split
  ·have:=aac b;left
  ·exact aac b
  ·trivial
 ·trivial
def NL{n:Nat}{rs tl:ag}{r:Row}(I:Dr 6 n rs)(p:rs.length<=5)(e1:rs=r::tl)(e2:rs=Xd++[rl]):∀x∈NM n rs tl r rl,HB x/\cg 39 x=true:=by
 have l:r∈rs:=[e1]\aag
 have o:rl∈rs:=by rw[e2];simp
 have c:∀s∈tl,s∈rs:=λs g=>[e1]\aaj _ g
 have u:tl.length<=4:=by rw[e1]at p;simpa using p
 have R:∀(m:D),HB (.tup [m,.fz\(bj rs)]):=λm=>kO (zA I λ_ h=>h) (by rw[df];left);have C:∀(m x:D),LC x->HB (.tup [m,.fz\(x::bj tl)]):=λm x h=>kO (λd hd=>(c0.mp hd).elim (λe=>e▸h) (zA I c d)) (by simp;left);have b:∀(m x:D),LC x->HB (.tup [m,.fz\[x]]):=λm x h=>kO (λd hd=>[bn.mp hd]\h) ⇑5;have L2:∀(m x y:D),LC x->LC y->HB (.tup [m,.fz\[x,y]]):=λm x y h t=>kO (λd hd=>by
  ext((rfl|hd):c0.mp hd)
  ·exact h
  ·rw[bn.mp hd];exact t) ⇑5
 ext(q:SS (k:=0) I l);have v:r.2.length<64:=by have:=(I.lot r l).len;have:=I.n2;left
 have q0:Sm 6 (0:Rat):=by constructor<;>decide
 have q1:∀a:Int,a=0\/a=1->Sm 6 (ei a 1):=λa h=>by rcases h with rfl|rfl<;>constructor<;>decide +kernel
 have i:∀k,∀x∈ak r.2,cg k x=true:=λk x j=>by ext(⟨y,_,rfl⟩:cr.mp j);simp
 intro x j;simp only[NM,w0,w1,w2,w3,w4,w5,w6,w7,w8,zbq,zaz,zau,zav,or_false]at j;ext((rfl|rfl|rfl|rfl|rfl|rfl|rfl|rfl|rfl|rfl|rfl|rfl|rfl|rfl|rfl|rfl|rfl|rfl|rfl|rfl|rfl|rfl|rfl|rfl|rfl|rfl|rfl|rfl|rfl|rfl|rfl|rfl):j)
 ·exact⟨R _,by simp[cg,dP]⟩
 ·exact⟨R _,by simp[cg,dP]⟩
 ·exact⟨R _,by simp[cg,dP]⟩
 ·exact⟨R _,by simp[cg,dP]⟩
 ·exact⟨b _ _ (dO ⇑6),rfl⟩
 ·exact⟨jz nofun,by simp[cg,dP]⟩
 ·exact⟨jz nofun,by simp[cg,dP]⟩
 ·exact⟨jz nofun,by simp[cg,dP]⟩
 ·exact⟨jz nofun,by simp[cg,dP]⟩
 ·exact⟨kO nofun ⇑5,by simp[cg]⟩
 ·exact⟨kO (zA I λs g=>(dz.mp g).elim id λh=>[bn.mp h]\o) (by simp;left),by simp[cg,dP]⟩
 ·exact⟨kO (zA I λs g=>by
   ext((h|h):dz.mp g)
   ·ext((h|h):dz.mp h)
    ·exact c s h
    ·exact[bn.mp h]\l
   ·rw[bn.mp h];exact l) (by simp;left),by simp[cg,dP]⟩
 ·exact⟨C _ _ ⟨trivial,q0⟩,by simp[cg,dP,vN];exact i _⟩
 ·exact⟨C _ _ ⟨trivial,q0⟩,by simp[cg,dP,vN];exact i _⟩
 ·exact⟨jz nofun,rfl⟩
 ·exact⟨jz nofun,rfl⟩
 ·exact⟨jz nofun,rfl⟩
 ·exact⟨jz nofun,rfl⟩
 ·exact⟨C _ _ ⟨by show(ak r.2).length<=1000000;simp;left,q0⟩,by simp[cg,dP,vN];exact i _⟩
 ·exact⟨C _ _ ⟨q.1,q1 0 (.inl rfl)⟩,by simp[cg,dP,vN];exact i _⟩
 ·exact⟨b _ _ (dO ⇑6),by simp[cg]⟩
 ·exact⟨L2 _ _ _ (dO ⇑6) (dO ⇑6),by simp[cg]⟩
 ·exact⟨b _ _ ⟨by show(1:Nat)<64;decide,q1 1 (.inr rfl)⟩,by simp[cg]⟩
 ·exact⟨b _ _ (dO ⇑6),by simp[cg]⟩
 ·exact⟨b _ _ (dO ⇑6),by simp[cg]⟩
 ·exact⟨b _ _ (dO ⇑6),by simp[cg]⟩
 ·exact⟨L2 _ _ _ (dO ⇑6) (dO ⇑6),by simp[cg]⟩
 ·exact⟨L2 _ _ _ (dO ⇑6) (dO ⇑6),by simp[cg]⟩
 ·exact⟨b _ _ (dO ⇑6),by simp[cg]⟩
 ·exact⟨b _ _ (dO ⇑6),by simp[cg]⟩
 ·exact⟨b _ _ (dO ⇑6),by simp[cg]⟩
 ·exact⟨b _ _ (dO ⇑6),by simp[cg]⟩
def xn(m:aD):Prop:=∀n rs (z:Int),Dr 6 n rs->rs.length<=5->∃d,m [eR n rs,.int z]=ok d/\Lj (aJ aK d)/\cg 39 (aJ aK d)=true
theorem DN(Φ:aY)(u:Φ 1020=cutD true)(H:Φ 1021=cutD false)(L:Φ 1083=rY):xn (mk Φ 2 7 jL):=by
 intro n a z I F;have l:a≠[]:=λe=>by
  have:=I.one;rw[e]at this;exact absurd this ⇑4
 ext(⟨r,tl,e1⟩:FJ l);have e2:a=a.dropLast++[a.getLast l]:=(List.dropLast_concat_getLast l).symm;generalize a.getLast l=rl at *;have s:bF Φ Og [↥(eR n a),↥↑z,none,none,none,none,none]=ok (.nx,[↥(eR n a),↥↑z,↥↑n,↥(.fz\(bj a)),↥(qD r.1),↥(.tup (ak r.2)),none]):=by
  have x:eR n a=.tup [.int n,.fz\(bj a)]:=rfl;have a1:xh (bj a) 0=ok (rD r):=by rw[e1];show xh (rD r::bj tl) 0=_;rw[abt,EU]
  have K:rD r=.tup [qD r.1,.tup (ak r.2)]:=rfl;rw[x];simp[Og,a1,K]
 have A:xu 7 (sL n a z r) [↥(eR n a),↥↑z,↥↑n,↥(.fz\(bj a)),↥(qD r.1),↥(.tup (ak r.2)),none]:=⟨rfl,⟨_,rfl,rfl⟩,⟨_,rfl,rfl⟩,⟨_,rfl,by simp[aK]⟩,⟨_,rfl,rfl⟩,⟨_,rfl,by simp⟩,trivial⟩
 obtain⟨o,eq,B⟩:Go Φ Ti [↥(eR n a),↥↑z,↥↑n,↥(.fz\(bj a)),↥(qD r.1),↥(.tup (ak r.2)),none] (λo=>xu 7 ((6,.fz\(NM n a tl r rl))::sL n a z r) o):=by
  have m:a.length<=10:=by left
  refine Go.yT A (sp0 (tl:=tl) (r:=r) (rl:=rl) A.2.2.1.v A.2.2.2.1.v).lst λc A=>?_;ext(h:A.2.2.2.1.v (Φ:=Φ))(g:A.2.2.2.2.1.v (Φ:=Φ));refine Go.cat A (sp1 (tl:=tl) (r:=r) (rl:=rl) h g L e2 m) (aaP rfl) λc A=>?_;ext(h:A.2.2.2.1.v (Φ:=Φ))(g:A.2.2.2.2.1.v (Φ:=Φ));refine Go.cat A (sp2 (tl:=tl) (r:=r) (rl:=rl) h g e1 u H m) (aaP rfl) λc A=>?_;ext(h:A.2.2.2.1.v (Φ:=Φ))(g:A.2.2.2.2.1.v (Φ:=Φ))(q:A.2.2.2.2.2.1.v (Φ:=Φ))(p:A.2.2.2.2.2.2.1.v (Φ:=Φ));refine Go.cat A (sp3 (tl:=tl) (r:=r) (rl:=rl) h g q p e1 u m) (aaP rfl) λc A=>?_;ext(h:A.2.2.2.1.v (Φ:=Φ))(g:A.2.2.2.2.1.v (Φ:=Φ))(q:A.2.2.2.2.2.1.v (Φ:=Φ))(p:A.2.2.2.2.2.2.1.v (Φ:=Φ));refine Go.cat A (sp4 (tl:=tl) (r:=r) (rl:=rl) h g q p e1 u m) (aaP rfl) λc A=>?_;refine Go.cat A (sp5 (rs:=a) (tl:=tl) (r:=r) (rl:=rl) A.2.2.2.1.v) (aaP rfl) λc A=>?_;refine Go.cat A (sp6 (rs:=a) (tl:=tl) (r:=r) (rl:=rl) A.2.2.2.1.v) (aaP rfl) λc A=>?_;refine Go.cat A (sp7 (rs:=a) (tl:=tl) (r:=r) (rl:=rl) A.2.2.2.1.v) (aaP rfl) λc A=>?_;exact Go.cat A (sp8 (rs:=a) (tl:=tl) (r:=r) (rl:=rl) A.2.2.2.1.v) (aaP rfl) λc A=>Go.nil A
 ext(⟨O,N⟩:gL z (b:=32) ⇑4);obtain⟨j,G⟩:∃j:Nat,z.fmod 32=(j:Int):=⟨(z.fmod 32).toNat,by left⟩
 have M:(NM n a tl r rl).length=32:=rfl;have k:j<(NM n a tl r rl).length:=by left
 have y:bg Φ (.bin .mod (.v 1) ↑32) o=ok ↑j:=gX B.2.2.1.v.i rfl (by rw[su ⇑4,G]);ext(⟨d,w,J,hd⟩:Hb (cx.RA B.2.1.v y (aaA k)) rfl)(t:aaU k);rw[<- hd]at t;ext(⟨E,C⟩:NL I F e1 e2 _ t);refine⟨d,?_,⟨Mz d,E,ID e2 _ t⟩,C⟩;rw[mk_eq (ar:=2) (ds:=[eR n a,.int z]) rfl];show jI (bF Φ jL [↥(eR n a),↥↑z,none,none,none,none,none])=_;unfold jL;rw[y9 Φ _ _ _ _ s,y9 Φ _ _ _ _ eq,bI,J];rfl
end DI
end
section
set_option maxHeartbeats 1000000
namespace DI
open PySem (Str)
def qk{a b:Type}{x:O a}{f:a->O b}{n:Nat}(h:x=↥(.error n)):bd x f=↥(.error n):=by rw[h];rfl
variable {Φ:aY}
def uA{g n:Nat}{es:aA}{ρ:aV}{xs:aa}(b:b6 Φ es ρ=ok xs)(a:Φ g (ao aK xs)=↥(.error n)):bg Φ (.call g es) ρ=↥(.error n):=by
 show bd (b6 Φ es ρ) (λxs=>bd (Φ g (ao aK xs)) λr=>ok (aJ gW r))=_;rw[b,nG,a];rfl
mutual
theorem oP.err{Φ:aY}{Ψ:Nat->aa->Prop}{n:Nat}(e:∀g ds,Ψ g ds->Φ g ds=↥(.error n)):∀{c:CS} {ρ:aV},oP Φ Ψ n c ρ->ic Φ c ρ=↥(.error n)
 |_,_,.ex h1 h2=>qk (uA h1 (e _ _ h2))
 |_,_,.asg h1 h2=>qk (qk (uA h1 (e _ _ h2)))
 |_,_,.ret h1 h2=>qk (qk (uA h1 (e _ _ h2)))
 |_,_,.rs=>rfl
 |_,_,.Mj (c:=c) (a:=a) (b:=b) (ρ:=ρ) h1 h2=>by
  show bd (wB Φ c ρ) (λk=>if k then bF Φ a ρ else bF Φ b ρ)=_;exact[h1,nG]\Er.err e h2
 |_,_,.iff (c:=c) (a:=a) (b:=b) (ρ:=ρ) h1 h2=>by
  show bd (wB Φ c ρ) (λk=>if k then bF Φ a ρ else bF Φ b ρ)=_;exact[h1,nG]\Er.err e h2
 |_,_,.fr (t:=t) (a:=a) (b:=b) (ρ:=ρ) h1 h2 _=>by
  show bd (cD Φ a ρ) (λr=>dw (λd ρ=>cn t d ρ) (λρ=>bF Φ b ρ) r.1 r.2)=_;exact[h1,nG]\HJ.err e h2
theorem Er.err{Φ:aY}{Ψ:Nat->aa->Prop}{n:Nat}(e:∀g ds,Ψ g ds->Φ g ds=↥(.error n)):∀{cs:ai} {ρ:aV},Er Φ Ψ n cs ρ->bF Φ cs ρ=↥(.error n)
 |_,_,.hd (c:=c) (cs:=cs) (ρ:=ρ) h=>by
  rw[bI];unfold rg;exact qk (oP.err e h)
 |_,_,.tl (c:=c) (cs:=cs) (ρ:=ρ) h1 h2=>by
  rw[bI];unfold rg;exact[h1,nG]\Er.err e h2
theorem HJ.err{Φ:aY}{Ψ:Nat->aa->Prop}{n:Nat}(e:∀g ds,Ψ g ds->Φ g ds=↥(.error n)):∀{t:Tg} {b:ai} {ds:aa} {ρ:aV},HJ Φ Ψ n t b ds ρ->dw (λd ρ=>cn t d ρ) (λρ=>bF Φ b ρ) ds ρ=↥(.error n)
 |_,_,_,_,.hd (ρ:=ρ) h1 h2=>by
  unfold dw;exact[h1,nG]\qk (Er.err e h2)
 |_,_,_,_,.tl h1 h2 h3=>by
  unfold dw;exact[h1,nG,h2,nG]\HJ.err e h3
end
variable {ds:aa}
def Ay{n ar N:Nat}{b:ai}(h:ds.length=ar/\Er Φ (λg ds=>Φ g ds=↥(.error n)) n b (ds.map some++ap (N - ds.length) none)):mk Φ ar N b ds=↥(.error n):=by
 rw[mk_eq h.1,Er.err ⇑10 h.2];rfl
def Rb(e:Nat)(ds:aa):Prop:=e=1/\∃d,Lj d/\ds=[d]
def Q9(e:Nat)(ds:aa):Prop:=(e=1/\∃d,Fz d/\ds=[d]/\(eF .list d=false\/∃(Ds:List Dw) (b:D) (t:aa),Gd Ds/\Lj b/\d=.fz\(aO .fz Ds++b::t)))\/(e=10/\∃Ds:List Dw,Gd Ds/\(Ds.length<1\/4<Ds.length)/\ds=[.fz\(aO .fz Ds)])
def RY(e:Nat)(ds:aa):Prop:=e=10/\∃(n:Nat) (gs:ag) (Ds:List Dw),gs.length<=1000/\Ds.length<=1000/\(∀d∈Ds,d.2.length<=1000)/\XY Ds gs/\(12<fq Ds\/500<wR Ds gs)/\ds=[eR n gs,.fz\(aO .fz Ds)]
def ql(e:Nat)(ds:aa):Prop:=Q9 e ds\/(e=10/\∃a:List Dw,Gd a/\1<=a.length/\a.length<=4/\(12<fq a\/500<f9 1 a)/\ds=[.fz\(aO .fz a)])
def sD(e:Nat):Nat->aa->Prop
 |17=>Rb e
 |96=>Q9 e
 |98=>RY e
 |103=>ql e
 |_=>λ_=>False
def iU(Ds:List Dw):Fz (.fz\(aO .fz Ds)):=⟨by show D.lst .fz (ao aK _)=_;rw[bz];rfl,by show D.lst .fz (ao bq _)=_;rw[bz];rfl,by show(false||aR cq (aO .fz Ds))=false;rw[iy rfl];rfl⟩
section
variable {Φ:aY}{Ψ:Nat->aa->Prop}{e:Nat}{ds:aa}
def VL(a:∀d,Lj d->Φ 16 [d]=ok (.bl false))(h:Rb e ds):ds.length=1/\Er Φ Ψ e bQ (ds.map some++ap (1 - ds.length) none):=by
 ext(⟨rfl,d,B,rfl⟩:h)(e1:a d B);exact⟨rfl,.hd (.Mj (by simp[B.fz.al,B.fz.fz,e1]) (.hd .rs))⟩
theorem GR(c:eW (Φ 17))(Mh:∀ds,Rb e ds->Ψ 17 ds)(he:e=1){b:D}(B:Lj b)(t:aa)(a:aM):∀(Ds:List Dw) (c1:aM),Gd Ds->HJ Φ Ψ e (.nm 1) xQ (aO .fz Ds++b::t) [a,c1]
 |[],c1,_=>.hd (ρ1:=[a,↥b]) ⇑5 (.hd (.ex (xs:=[b]) (by simp[B.fz.al]) (by rw[show ao aK [b]=[b] by simp[B.fz.fz]];exact Mh _ ⟨he,b,B,rfl⟩)))
 |d::Ds,c1,h=>by
  ext(⟨k,g⟩:h d aag);have i:Φ 17 [ie .fz d]=ok .bX:=c k d.1 d.2 g;exact .tl (ρ1:=[a,↥(ie .fz d)]) (ρ2:=[a,↥(ie .fz d)]) ⇑5 (by simp[xQ,fL,i]) (GR c Mh he B t a Ds _ λx f=>h x (aaj _ f))
def MR{ds:aa}(hz:ao aK ds=ds):cD Φ (.seq (.v 0)) [↥(.fz\ds),none]=ok (ds,[↥(.fz\ds),none]):=by
 have b:aR bS ds=false:=[-hz]\jH ds
 have a:ao bq ds=ds:=by
  have:=Cy (d:=.tup ds) (by show D.tup (ao aK ds)=_;rw[hz]);injection this
 rw[tT (f:=.fz) (ds:=ds) (by simp[a]),hz,b];rfl
theorem QA(k:eW (Φ 17))(Mh:∀ds,Rb e ds->Ψ 17 ds)(h:Q9 e ds):ds.length=1/\Er Φ Ψ e uD (ds.map some++ap (2 - ds.length) none):=by
 have i:∀X c,ic Φ (.ifs (.not (.qM (.v 0) .list)) [.rs 1] []) [↥(.fz\X),c]=ok (.nx,[↥(.fz\X),c]):=λX c=>by simp[eF]
 ext((⟨f,d,j,rfl,h|⟨a,b,t,G,B,rfl⟩⟩|⟨f,a,G,g,rfl⟩):h)
 ·refine⟨rfl,.hd (.Mj (by simp[j.al,h]) (.hd ?_))⟩;exact[f]\.rs
 ·have l:ao aK (aO .fz a++b::t)=aO .fz a++b::t:=by
   have:=j.fz;injection this
  exact⟨rfl,.tl (i _ _) (.hd (.fr (MR l) (GR k Mh f B t _ a none G) rfl))⟩
 ·ext(o:gM .fz a)(⟨c1,n⟩:um Φ k ↥(.fz\(aO .fz a)) a none G)(m:fV (Φ:=Φ) (t:=.nm 1) (b:=xQ) (MR (by rw[bz];rfl)) n);refine⟨rfl,.tl (i _ _) (.tl m (.hd (.Mj ?_ (.hd ?_))))⟩
  ·generalize aO .fz a=X at *;ext((g|g):g)
   ·have c1:((X.length:Nat):Int)<1:=by left
    simp[c1]
   ·have c1:¬ ((X.length:Nat):Int)<1:=by left
    have c2:(4:Int)<((X.length:Nat):Int):=by left
    simp[c1,c2]
  ·exact[f]\.rs
def VJ(k:Hm (Φ 99))(h:RY e ds):ds.length=2/\Er Φ Ψ e uE (ds.map some++ap (2 - ds.length) none):=by
 ext(⟨rfl,n,b,a,g,j,l,G,i,rfl⟩:h)(e1:yO Φ j .fz ↥(eR n b) [])(e2:G1 Φ k (n:=n) g l G);have c:qU .jv [.ow\(ak (a.map λd=>(d.1:Int)))]=ok ↑(fq a):=wz _ _;have f:qU .jv [.ow\(ak (b.map λr=>m6 a 1 r.2))]=ok ↑(wR a b):=wz _ _;refine⟨rfl,?_⟩;show Er Φ Ψ 10 uE [↥(eR n b),↥(.fz\(aO .fz a))];by_cases c1:(12:Int)<fq a
 ·exact .hd (.Mj (by simp[e1,c,c1]) (.hd .rs))
 ·have c2:(500:Int)<wR a b:=i.resolve_left c1;exact .tl (ρ':=[↥(eR n b),↥(.fz\(aO .fz a))]) (by simp[e1,c,c1]) (.hd (.Mj (by simp[e2,f,c2]) (.hd .rs)))
def Gk(q:Ld (Φ 96))(m:Φ 1046=Lq)(Ug:∀ds,Q9 e ds->Ψ 96 ds)(Ue:∀ds,RY e ds->Ψ 98 ds)(h:ql e ds):ds.length=1/\Er Φ Ψ e qV (ds.map some++ap (2 - ds.length) none):=by
 ext((h|⟨o,a,G,n,f,p,rfl⟩):h)
 ·obtain⟨d,rfl,b⟩:∃d,ds=[d]/\Fz d:=by
   ext((⟨_,d,b,rfl,_⟩|⟨_,a,_,_,rfl⟩):h)
   ·exact⟨d,rfl,b⟩
   ·exact⟨_,rfl,iU a⟩
  exact⟨rfl,.hd (.ex (xs:=[d]) (by simp[b.al]) (by rw[show ao aK [d]=[d] by simp[b.fz]];exact Ug _ h))⟩
 ·ext(e1:q a n f G)(⟨j,c,i,g⟩:EY Φ m f);have l:ic Φ (.ex (.call 96 [(.v 0)])) [↥(.fz\(aO .fz a)),none]=ok (.nx,[↥(.fz\(aO .fz a)),none]):=Aw (xs:=[.fz\(aO .fz a)]) (by simp[bz]) (by rw[show ao aK [D.lst .fz (aO .fz a)]=[.fz\(aO .fz a)] by simp[bz]];exact e1);refine⟨rfl,.tl l (.tl j (.hd (.ex i (by
   rw[g];exact Ue _ ⟨o,a.length,everyone a,a,by simp[everyone],by left,λd hd=>by ext(⟨k,I⟩:G d hd);exact I.len,yA a,[Gf]\p,rfl⟩))))⟩
end
section
variable (Φ:aY)
def r17(a:∀d,Lj d->Φ 16 [d]=ok (.bl false)):∀e ds,Rb e ds->mk Φ 1 1 bQ ds=↥(.error e):=λe ds h=>Ay (VL a h)
def r96(a:eW (Φ 17))(Mh:∀e ds,Rb e ds->Φ 17 ds=↥(.error e)):∀e ds,Q9 e ds->mk Φ 1 2 uD ds=↥(.error e):=λe ds h=>Ay (QA a (Mh e) h)
def r98(a:Hm (Φ 99)):∀e ds,RY e ds->mk Φ 2 2 uE ds=↥(.error e):=λe ds h=>Ay (VJ a h)
def Y4(b:Ld (Φ 96))(a:Φ 1046=Lq)(Ug:∀e ds,Q9 e ds->Φ 96 ds=↥(.error e))(Ue:∀e ds,RY e ds->Φ 98 ds=↥(.error e)):∀e ds,ql e ds->mk Φ 1 2 qV ds=↥(.error e):=λe ds h=>Ay (Gk b a (Ug e) (Ue e) h)
end
meta def gR:Nat->az
 |0=>[[]]
 |n+1=>gR n++(gR n).map λl=>l++[(n:Int)]
theorem oK:∀n,(gR n).length=2 ^ n
 |0=>rfl
 |n+1=>by rw[gR,zaf,zaa,oK n,ybX];left
theorem yX:∀n:Nat,(gR n).Nodup/\∀l∈gR n,xD n l
 |0=>⟨by simp[gR],λl h=>[bn.mp h]\⟨.nil,nofun⟩⟩
 |n+1=>by
  ext(⟨nd,b⟩:yX n);refine⟨pS.mpr ⟨nd,?_,λx a y c e=>?_⟩,λl h=>?_⟩
  ·exact nd.map (f:=λl=>l++[(n:Int)]) λx y (h:x≠y) e=>h (List.append_cancel_right e)
  ·ext(⟨l,_,rfl⟩:cr.mp c);have:=(b x a).2 n (by rw[e];simp);left
  ·ext((h|h):dz.mp h)
   ·exact⟨(b l h).1,λx a=>by have:=(b l h).2 x a;left⟩
   ·ext(⟨m,g,rfl⟩:cr.mp h)(⟨i,d⟩:b m g);refine⟨dL.mpr ⟨i,J5 _ _,λx a y c=>?_⟩,λx a=>?_⟩
    ·exact[bn.mp c]\(d x a).2
    ·ext((a|a):dz.mp a)
     ·have:=d x a;left
     ·rw[bn.mp a];left
theorem yW:∀(n:Nat),∀l∈gR n,l.length<=n
 |0,l,h=>[bn.mp h]\aao _
 |n+1,l,h=>by
  ext((h|h):dz.mp h)
  ·have:=yW n l h;left
  ·ext(⟨m,a,rfl⟩:cr.mp h);have:=yW n m a;simp;left
def ku(n c:Nat):ag:=((bh (gR n)).take c).map λl=>(ei 1 c,l)
def Tj{c:Nat}(h:1<=c):qD (ei 1 c)=.tup [.int 1,.int c]:=by
 have e:ei 1 c=⟨1,c,by left,by simp⟩:=(ZO (num:=1) (den:=c) (nz:=by left) (c:=by simp)).symm;rw[e];rfl
theorem vf:∀c:Nat,(ap c (1:Int)).sum=c
 |0=>rfl
 |c+1=>by rw[zaA,zay,vf c];left
def Hh{n c:Nat}(h:1<=n/\n<=7)(j:1<=c)(i:c<=32)(g:c<=2 ^ n):Dr 6 n (ku n c)/\(ku n c).length=c:=by
 ext(⟨nd,f⟩:yX n);have e:(bh (gR n)).Perm (gR n):=abI _ _;have b:(ku n c).length=c:=by
  unfold ku;rw[zaa,zar,e.length_eq,oK];left
 have mem:∀r∈ku n c,r.1=ei 1 c/\xD n r.2:=λr a=>by
  ext(⟨l,b,rfl⟩:cr.mp a);exact⟨rfl,f l (e.mem_iff.mp (abT b))⟩
 have sm:∀r∈ku n c,Sm 6 r.1:=λr a=>by
  exact[(mem r a).1]\LB ⋯ ⇑4 (by show _<64;left)
 have e1:(ku n c).map (·.2)=(bh (gR n)).take c:=by
  unfold ku;exact[zah]\(aaZ λ_ _=>rfl).trans (Do _)
 have e2:(ku n c).map (·.1)=(ap c (1:Int)).map λx=>ei x c:=by
  rw[zbm];refine List.eq_replicate_iff.mpr ⟨by rw[zaa,b],λq d=>?_⟩;ext(⟨r,a,rfl⟩:cr.mp d);exact(mem r a).1
 refine⟨⟨by left,by left,⟨c,by left,?_,λr a=>?_⟩,by left,λr a=>(mem r a).2,λr a=>?_,sm,?_,?_,6,?_⟩,b⟩
 ·have:(33:Nat)<2 ^ 250:=by decide
  left
 ·exact[(mem r a).1]\qf ⋯
 ·exact[(mem r a).1]\kY ⇑4 ⋯
 ·rw[e2,sN _ ⋯];rw[vf];have z:((c:Int):Rat)≠0:=λz=>by rw[zaY]at z;left
  rw[zaE];grind
 ·exact[e1]\(iO nd).sublist (ad_ _ _)
 ·have d:(gY (ku n c)).length=c:=by unfold gY;rw[zaa,b]
  exact⟨λq d=>by ext(⟨r,a,rfl⟩:cr.mp d);exact sm r a,by left,by left⟩
meta def AH:CE:=.comp 1 (.nm 0) [3] .seq [(.v 2)] [] (.bin .add (.v 0) (.tup [(.v 1)]))
def Iw:ai:=[.asg (.nm 2) (.bin .add (.v 2) AH)]
meta def AG:CE:=.comp 1 (.nm 0) [1] .seq [(.cJ 1021 [(.cJ 1017 [(.v 2)]),(.v 1)])] [] (.tup [(.tup [↑1,(.v 1)]),(.v 0)])
def G_:ai:=[.asg (.nm 2) (.lst [(.tup [])]),.fr (.nm 3) (.nu (.v 0)) Iw,.ret (.tup [(.v 0),AG])]
def dq(a:az):aa:=a.map cH
def dU(g:Fl->Fl)(a:az):ao g (dq a)=dq a:=gH g a
def B6(p:Fl->Bool)(a:az):aR p (dq a)=false:=dv p (λl=>by show aR p (l.map D.int)=false;exact wj p l) a
theorem AX(Φ:aY)(n c:Int):∀(k m:Nat) (f:aM),k+m<=7->∃h,dw (λd g=>cn (.nm 3) d g) (λg=>bF Φ Iw g) ((qQ k m).map λ(i:Nat)=>D.int (i:Int)) [↥↑n,↥↑c,↥(.ow\(dq (gR k))),f]=ok (.nx,[↥↑n,↥↑c,↥(.ow\(dq (gR (k+m)))),h])
 |k,0,f,_=>⟨f,rfl⟩
 |k,m+1,f,hk=>by
  ext(⟨h,j⟩:AX Φ n c (k+1) m ↥↑k ⋯);rw[show k+1+m=k+(m+1) by left]at j;refine⟨h,?_⟩;rw[Xr,zam];refine eQ (ρ1:=[↥↑n,↥↑c,↥(.ow\(dq (gR k))),↥↑k]) ⇑5 (ρ2:=[↥↑n,↥↑c,↥(.ow\(dq (gR (k+1)))),↥↑k]) ?_ j;have r:(gR k).length<=128:=[oK]\abB ⇑4 (by left:k<=7)
  ext(o:yW k);have e1:bg Φ AH [↥↑n,↥↑c,↥(.ow\(dq (gR k))),↥↑k]=ok (.ow\(dq ((gR k).map λl=>l++[(k:Int)]))):=by
   unfold AH;rw[c_ (xs:=[.al\(dq (gR k))]) (items:=(gR k).map cH) (ds:=(gR k).map λl=>cH (l++[(k:Int)])) (by simp[dU]) (by rw[dt,dU];rfl) (bV λl p=>⟨[↥(cH l),↥↑k],by simp[bL],by simp,?_⟩) ([zaa]\cA ⋯)]
   ·have:=dU gW ((gR k).map λl=>l++[(k:Int)]);unfold dq at *;rw[zah]at this ⊢;exact aa5 ok (aa5 (D.lst .ow) this)
   ·have:=o l p;ext(b:Ha (a:=l) (b:=[(k:Int)]) (by simp;left));have e:cH l=.tup (ak l):=rfl;have q:D.tup [.int (k:Int)]=.tup (ak [(k:Int)]):=rfl;simp[e,q,b];rfl
  have e2:bg Φ (.bin .add (.v 2) AH) [↥↑n,↥↑c,↥(.ow\(dq (gR k))),↥↑k]=ok (.ow\(dq (gR (k+1)))):=by
   rw[AF,e1];show dh .add (.al\(ao bq (dq (gR k)))) (.ow\_)=_;rw[dU];refine(abE ⟨rfl,rfl,by unfold dq;rw[zaa,zaa,zaa];show _<=1000000;left⟩).trans ?_;have:dq (gR k)++dq ((gR k).map λl=>l++[(k:Int)])=dq (gR (k+1)):=by unfold dq;rw[<- zak];rfl
   rw[this,dU]
  unfold Iw;rw[bI,uT,Fj Φ _ _ rfl,e2,eE (by show(false||aR bS _)=false;rw[B6];rfl)];rfl
def CA(m:aD):Prop:=∀n c:Nat,n<=7->1<=c->m [.int n,.int c]=ok (ie .ow (n,ku n c))
def YT(Φ:aY)(w:Φ 1017=oZ)(u:Φ 1021=cutD false):CA (mk Φ 2 4 G_):=by
 intro n c s t;ext(⟨g,d⟩:AX Φ n c 0 n none ⋯);rw[zaD]at d;ext(⟨nd,_⟩:yX n)(b:Um (Φ:=Φ) (a:=.v 0) (ρ:=[↥↑n,↥↑c,↥(.ow\(dq [[]])),none]) (n:=(n:Int)) rfl ⋯ ⋯);have o:((eg (n:Int).toNat).map λ(k:Nat)=>D.int (k:Int))=(qQ 0 n).map λ(i:Nat)=>D.int (i:Int):=by rw[zaj,zbs]
 have r:ic Φ (.fr (.nm 3) (.nu (.v 0)) Iw) [↥↑n,↥↑c,↥(.ow\(dq [[]])),none]=_:=fV (by rw[b,o];rfl) d;have p:(gR n).length<=128:=[oK]\abB ⇑4 s
 have y:(bh (gR n)).length<=128:=by rw[show(bh (gR n)).length=_ from(RN _ _).length_eq];exact p
 have m:∀f,Φ 1017 [.lst f (dq (gR n))]=ok (.ow\(dq (bh (gR n)))):=λf=>by
  rw[w];show(match kz ((gR n).map cH)with|↥nss=>if nss.Nodup/\nss.length<1000 then ok (D.lst .ow ((bh nss).map cH))else none|none=>none)=_;exact[ro]\abE ⟨nd,by left⟩
 have j:Φ 1021 [.ow\(dq (bh (gR n))),.int c]=ok (.ow\(dq ((bh (gR n)).take c))):=by
  rw[u];show(if (0:Int)<=(c:Int)then ok (D.lst .ow (ao bq ((dq (bh (gR n))).take (c:Int).toNat)))else none)=_;rw[zac ⋯];have:(dq (bh (gR n))).take (c:Int).toNat=dq ((bh (gR n)).take c):=by unfold dq;rw[zaj,Ka]
  rw[this,dU]
 have e2:bg Φ AG [↥↑n,↥↑c,↥(.ow\(dq (gR n))),g]=ok (.ow\(bj (ku n c))):=by
  unfold AG;rw[c_ (xs:=[.ow\(dq ((bh (gR n)).take c))]) (items:=((bh (gR n)).take c).map cH) (ds:=bj (ku n c)) (by simp[dU,m,j]) (by rw[dt,dU];rfl) ?_ (by unfold ku;rw[df,zaa,zar];exact cA ⋯)]
  ·rw[dM]
  ·unfold bj ku;rw[zah];refine bV λl x=>⟨[↥(cH l),↥↑c],by simp[bL],by simp,?_⟩
   have e:cH l=.tup (ak l):=rfl;ext(q:Tj t);simp[e];show _=rD (ei 1 c,l);unfold rD;rw[q]
 rw[mk_eq (ar:=2) (ds:=[.int n,.int c]) rfl];show jI (bF Φ G_ [↥↑n,↥↑c,none,none])=_;have h:ic Φ (.asg (.nm 2) (.lst [(.tup [])])) [↥↑n,↥↑c,none,none]=ok (.nx,[↥↑n,↥↑c,↥(.ow\(dq [[]])),none]):=by simp[dq,cH]
 have e3:bg Φ (.tup [(.v 0),AG]) [↥↑n,↥↑c,↥(.ow\(dq (gR n))),g]=ok (ie .ow (n,ku n c)):=by
  rw[MG,cz,cz,e2];rfl
 unfold G_;rw[bI,h,dH,bI,r,dH,bI,CZ,Fj Φ _ _ rfl,e3,eE (by rw[t8];rfl)];rfl
def Due(t:D)(s:Str):Prop:=(s = "drawing" /\ ql 1 [t])\/(s = "many" /\ ql 10 [t])\/(s = "told" /\ ∃a,Lf a/\t=.fz\(aO .fz a))
structure LD(Ds:List Dw):Prop where
 l1:1<=Ds.length
 l3:Ds.length<=3
 dr:∀d∈Ds,Dr 6 d.1 d.2
 F_:∀d∈Ds,d.2.length<=5
 n4:∀d∈Ds,d.1<=4
meta def lH(e:CE)(s:Str):CS:=.ret (.lst [e,.str s])
meta def VP:CE:=.bin .add (.bin .add (.cJ 1021 [(.v 0),(.v 3)]) (.lst [(.call 252 [(.ix (.v 0) (.v 3)),(.bin .fdiv (.v 1) ↑3)])])) (.cJ 1020 [(.v 0),(.bin .add (.v 3) ↑1)])
meta def ML:CE:=.ix (.lst [(.bf .tuple1 [(.v 0)]),.bX,(.ix (.v 0) ↑0),(.str "drawings"),↑4]) (.bin .mod (.v 1) ↑5)
meta def MK:CE:=.ix (.lst [(.lst []),(.cJ 1021 [(.bin .mul (.v 0) ↑5),↑5])]) (.bin .mod (.v 1) ↑2)
meta def MJ:CE:=.bin .add (.cJ 1021 [(.bin .mul (.v 0) ↑4),↑4]) (.v 4)
meta def MI:CE:=.bin .add (.bin .mul (.lst [(.call 254 [↑1,↑2])]) ↑3) (.lst [(.tup [(.bin .add ↑10 (.bin .mod (.v 1) ↑3)),(.lst [(.tup [(.tup [↑1,↑1]),(.tup [])])])])])
meta def MH:CE:=.lst [(.call 254 [↑5,(.bin .add ↑21 (.bin .mod (.v 1) ↑9))]),(.call 254 [↑5,↑24])]
meta def Gp:CE:=.lst [(.call 254 [↑5,↑20]),(.call 254 [↑5,↑25])]
def Tx:ai:=[.asg (.nm 2) (.bin .mod (.v 1) ↑12),.asg (.nm 1) (.bin .fdiv (.v 1) ↑12),.asg (.nm 3) (.bin .mod (.v 1) (.bf .len [(.v 0)])),.asg (.nm 4) VP]
def Pa(k:Int)(e:CE)(s:Str):CS:=.ifs (.cmp .eq (.v 2) ↑k) [lH e s] []
def N5:ai:=[.ifs (.cmp .lt (.v 2) ↑5) [lH (.v 4) "drawing"] [],Pa 5 ML "drawing",Pa 6 MK "many",Pa 7 MJ "drawing",Pa 8 MI "many",Pa 9 MH "many",Pa 10 Gp "told",lH (.v 0) "told"]
def l8:ai:=Tx++N5
def Th(Φ:aY)(a:ai)(ρ:aV):Prop:=∃(d:D) (ρ':aV) (Y:D) (s:Str),bF Φ a ρ=ok (.rt d,ρ')/\aJ aK d=.fz\[Y,.str s]/\Due Y s/\cg 40 Y=true
section
variable {Φ:aY}{ρ:aV}{e a b:CE}{ss:ai}{Y:D}{Ys:aa}{s:Str}
def Th.ret(h:cx Φ e ρ Y)(hd:Due Y s)(f:cg 40 Y=true):Th Φ [lH e s] ρ:=by
 ext(⟨d,c,i,g⟩:Hb (bR.lst (.cons h (.cons (cx.k (e:=.str s) (Y:=.str s)) .nil))) rfl);exact⟨d,c,Y,s,by unfold lH;rw[bI,i];rfl,g,hd,f⟩
def Th.if1{c:CE}(h:bg Φ c ρ=ok (.bl true))(k:Th Φ [lH e s] ρ):Th Φ (.ifs c [lH e s] []::ss) ρ:=by
 ext(⟨d,f,Y,g,j,i⟩:k);refine⟨d,f,Y,g,?_,i⟩;have:ic Φ (.ifs c [lH e s] []) ρ=ok (.rt d,f):=[A5,h]\j
 rw[bI,this];rfl
def Th.Xe{c:CE}{g:ai}(i:bg Φ c ρ=ok (.bl false))(k:Th Φ ss ρ):Th Φ (.ifs c g []::ss) ρ:=by
 ext(⟨d,f,Y,h,l,j⟩:k);refine⟨d,f,Y,h,?_,j⟩;have:ic Φ (.ifs c g []) ρ=ok (.nx,ρ):=by rw[A5,i];rfl
 exact[bI,this]\l
theorem Th.eq{M k:Int}(h:bg Φ (.v 2) ρ=ok ↑M)(d:M=k->Th Φ [lH e s] ρ)(f:M≠k->Th Φ ss ρ):Th Φ (Pa k e s::ss) ρ:=by
 have c:bg Φ (.cmp .eq (.v 2) ↑k) ρ=ok (.bl (decide (M=k))):=by
  refine ug h rfl ?_;rw[Q0 ⇑5 ⇑5,AA]
 by_cases z:M=k
 ·rw[zaH z]at c;exact Th.if1 c (d z)
 ·rw[zaR z]at c;exact Th.Xe c (f z)
theorem cx.mul{k:Nat}(h:cx Φ a ρ (.fz\Ys))(f:bg Φ b ρ=ok ↑k)(c:Ys.length*k<=1000)(j:k<=1000):cx Φ (.bin .mul a b) ρ (.fz\(ap k Ys).flatten):=by
 ext(⟨g,ds,i,rfl,d⟩:h.vX);rw[aN,zaa]at c;refine⟨.ow\(ao bq (ap k ds).flatten),?_,?_⟩
 ·rw[AF,i,f];have l:(cB:Int)=1000000:=rfl;show(if qL g=false/\ds.length*(k:Int).toNat<=cB/\(k:Int)<=cB /\ -(cB:Int)<=k then ok (D.lst .ow (ao bq (ap (k:Int).toNat ds).flatten))else none)=_;rw[zac ⟨(by cases g<;>first|rfl|cases d),by rw[zaj];show _<=1000000;left,by left,by left⟩,zaj]
 ·show D.lst .fz (ao aK (ao bq _))=_;rw[iz,aN,aN,Xu,zbm]
end
def Ku(f:Fl)(a b:List Dw):aO f a++aO f b=aO f (a++b):=by unfold aO;rw[zak]
def ui(f:Fl)(d:Bool)(k:Nat)(a:List Dw):js d k (aO f a)=aO f (js d k a):=by
 cases d
 ·exact Ka.symm
 ·exact Kd.symm
def Kt(f:Fl)(k:Nat)(a:List Dw):(ap k (aO f a)).flatten=aO f (ap k a).flatten:=by
 unfold aO;rw[Xu,zbm]
def Ez(k:Nat)(f:Fl)(d:Dw):cg (k+4) (ie f d)=true:=by
 show(cg (k+3) ↑d.1&&((bj d.2).all (cg (k+2))&&true))=true;rw[gD,dP];rfl
def gE(k:Nat)(f:Fl)(a:List Dw):(aO f a).all (cg (k+4))=true:=oj (Ez k f) a
def Jy{k:Nat}{a:List Dw}{d:Dw}{b:Bool}{j:Nat}(h:d∈js b j (ap k a).flatten):d∈a:=by
 have h:d∈(ap k a).flatten:=by
  cases b
  ·exact abT h
  ·exact ac5 h
 ext(⟨l,e,c⟩:List.mem_flatten.mp h)
 rwa [List.eq_of_mem_replicate e]at c
def dr1{n:Nat}(d:1<=n)(c:n<=12):Dr 6 n [((1:Rat),[])]:=by
 have q:Sm 6 (1:Rat):=by constructor<;>decide
 refine⟨d,c,⟨1,by decide,by decide,λr a=>?_⟩,by simp,λr a=>?_,λr a=>?_,λr a=>?_,by decide +kernel,J5 _ _,6,λx b=>?_,by simp[gY],by simp[gY]⟩
 ·rw[bn.mp a];decide
 ·exact[bn.mp a]\⟨FM,nofun⟩
 ·rw[bn.mp a];decide
 ·exact[bn.mp a]\q
 ·exact[bn.mp b]\q
theorem LD.sum{Ds:List Dw}(L:LD Ds):fq Ds<=12:=by
 have:∀l:List Dw,(∀d∈l,d.1<=4)->(l.map λd=>(d.1:Int)).sum<=4*l.length:=by
  intro l;induction l with
  |nil=>intro _;simp
  |cons d l a =>
   intro h;ext(e:h d aag)(c:a λx b=>h x (aaj _ b));rw[zam,zay,zae];left
 have:=this Ds L.n4;have:=L.l3;unfold fq;left
def LD.prod{Ds:List Dw}(L:LD Ds):f9 1 Ds<=500:=by
 have:∀(l:List Dw) (c:Nat),(∀d∈l,d.2.length<=5)->f9 (c:Int) l<=((c*5 ^ l.length:Nat):Int):=by
  intro l;induction l with
  |nil=>intro c _;exact[zaQ,Nat.pow_zero,TU]\ack _
  |cons d l b =>
   intro c h;ext(f:h d aag)(a:b (c*d.2.length) λx e=>h x (aaj _ e));rw[zbY]at a;refine abK a ?_;rw[zae,ybX,zbF];refine Int.ofNat_le.mpr (ad3 _ ?_);exact[zbL]\ad3 _ f
 ext(h:this Ds 1 L.F_);have g:5 ^ Ds.length<=5 ^ 3:=abB ⇑4 L.l3;have:f9 1 Ds<=((1*5 ^ Ds.length:Nat):Int):=h;left
def LD.lys{Ds:List Dw}(L:LD Ds):Lf Ds:=⟨L.l1,aav L.l3 ⇑4,L.dr,L.sum,L.prod⟩
def LD.gd{Ds:List Dw}(L:LD Ds):Gd Ds:=λd hd=>⟨6,L.dr d hd⟩
variable {Y:D}
section
variable {Φ:aY}{ρ:aV}{Ds:List Dw}{N:Int}(L:LD Ds)(v0:cx Φ (.v 0) ρ (.fz\(aO .fz Ds)))(v1:bg Φ (.v 1) ρ=ok ↑N)
def vW(N:Int){m:Nat}(a:0<m):∃j:Nat,j<m/\N.fmod (m:Int)=(j:Int):=by
 ext(⟨d,c⟩:gL N (b:=(m:Int)) ⋯);exact⟨(N.fmod m).toNat,by left,by left⟩
include v1 in
theorem yy{m:Nat}(a:0<m):bg Φ (.bin .mod (.v 1) ↑m) ρ=ok ↑(N.fmod m):=gX v1 rfl ⇑[su ⋯]
include v0 L in
theorem Dt{m:Nat}{x:CE}{y:CE}(d:x=.int m)(c:y=.int m)(g:Φ 1021=cutD false)(e:m<=5):cx Φ (.cJ 1021 [(.bin .mul (.v 0) x),y]) ρ (.fz\(aO .fz ((ap m Ds).flatten.take m))):=by
 subst d c;ext(f:gM .fz Ds);have a:=L.l3;ext(h:cx.cut (k:=m) g (cx.mul (k:=m) (b:=.int m) v0 rfl ([f]\aav (Nat.mul_le_mul a e) ⇑4) ⋯) (b:=.int m) rfl);rw[Kt,ui]at h;exact h
theorem zG{m:Nat}(h:1<=Ds.length):((ap m Ds).flatten.take m).length=m:=by
 exact[zar,List.length_flatten,zbm,List.sum_replicate_nat]\FH (Mu _ h)
include L in
theorem DY{m:Nat}:Gd ((ap m Ds).flatten.take m):=λd hd=>L.gd d (Jy (b:=false) hd)
include L v0 v1 in
theorem th5:∃Y,cx Φ ML ρ Y/\Due Y "drawing" /\ cg 40 Y=true:=by
 ext(⟨j,a,n⟩:vW N (m:=5) ⇑4);have e:bg Φ (.bin .mod (.v 1) ↑5) ρ=ok ↑j:=(yy v1 (m:=5) ⇑4).trans ⇑[n];ext(⟨d,t,e1⟩:FJ (λz:Ds=[]=>by have:=L.l1;rw[z]at this;cases this));have l:cx Φ (.ix (.v 0) ↑0) ρ (ie .fz d):=cx.RA (j:=0) v0 rfl (by rw[e1];rfl);have i:cx Φ .bX ρ .bX:=.k;have g:cx Φ (.str "drawings") ρ (.str "drawings"):=.k;have f:cx Φ ↑4 ρ ↑4:=.k;ext(h:cx.RA (j:=j) (bR.lst (.cons v0.Sl (.cons i (.cons l (.cons g (.cons f .nil)))))) e (aaA a));refine⟨_,h,?_,?_⟩
 ·refine .inl ⟨rfl,.inl (.inl ⟨rfl,_,?_,rfl,.inl ?_⟩)⟩
  ·ext(b:iU Ds)(o:iU [d]);have:∀Y∈[D.tup (aO .fz Ds),.bX,ie .fz d,.str "drawings",.int 4],Fz Y:=λY c=>by
    simp only[zau,zav,or_false]at c;ext((rfl|rfl|rfl|rfl|rfl):c)
    ·exact⟨by have:=b.fz;injection this with _ z;show D.tup _=_;rw[z],by have:=b.al;injection this with _ z;show D.tup _=_;rw[z],b.ow⟩
    ·exact⟨rfl,rfl,rfl⟩
    ·exact⟨fL _ _ _,fL _ _ _,t8 _ _ _⟩
    ·exact⟨rfl,rfl,rfl⟩
    ·exact⟨rfl,rfl,rfl⟩
   exact this _ (aaU a)
  ·match j,a with
   |0,_=>rfl
   |1,_=>rfl
   |2,_=>rfl
   |3,_=>rfl
   |4,_=>rfl
 ·match j,a with
  |0,_=>exact gE 35 .fz Ds
  |1,_=>rfl
  |2,_=>exact Ez 36 .fz d
  |3,_=>rfl
  |4,_=>rfl
include L v0 v1 in
theorem th6(d:Φ 1021=cutD false):∃Y,cx Φ MK ρ Y/\Due Y "many" /\ cg 40 Y=true:=by
 ext(⟨j,a,e⟩:vW N (m:=2) ⇑4);have c:bg Φ (.bin .mod (.v 1) ↑2) ρ=ok ↑j:=(yy v1 (m:=2) ⇑4).trans ⇑[e];ext(r:Dt L v0 (m:=5) (x:=.int 5) (y:=.int 5) rfl rfl d ⇑4);have b:cx Φ (.lst []) ρ (.fz\(aO .fz [])):=⟨_,rfl,rfl⟩
 ext(h:cx.RA (j:=j) (bR.lst (.cons b (.cons r .nil))) c (aaA a));refine⟨_,h,?_⟩
 match j,a with
 |0,_=>exact⟨.inr (.inl ⟨rfl,.inl (.inr ⟨rfl,[],nofun,.inl ⇑4,rfl⟩)⟩),rfl⟩
 |1,_=>exact⟨.inr (.inl ⟨rfl,.inl (.inr ⟨rfl,_,DY L,.inr (by rw[zG L.l1];decide),rfl⟩)⟩),gE 35 .fz _⟩
def Sp(Y:D):Prop:=∃(a:List Dw) (b:D) (t:List Dw),Gd a/\Lj b/\cg 39 b=true/\Y=.fz\(aO .fz a++b::aO .fz t)
theorem Sp.due(h:Sp Y):Due Y "drawing" /\ cg 40 Y=true:=by
 ext(⟨a,b,t,g,B,f,rfl⟩:h);refine⟨.inl ⟨rfl,.inl (.inl ⟨rfl,_,?_,rfl,.inr ⟨a,b,_,g,B,rfl⟩⟩)⟩,?_⟩
 ·ext(e:iU a)(t:iU t);have d:=e.fz;injection d with _ d
  have c:=t.fz;injection c with _ c
  have:=Mz (.fz\(aO .fz a++b::aO .fz ‹List Dw›));have z:aJ aK (.fz\(aO .fz a++b::aO .fz ‹List Dw›))=.fz\(aO .fz a++b::aO .fz ‹List Dw›):=by
   show D.lst .fz (ao aK (_++b::_))=_;rw[BF,ao,d,c,B.fz.fz]
  rwa [z]at this
 ·show(aO .fz a++b::aO .fz t).all (cg 39)=true;rw[List.all_append,zas,f,gE 35 .fz a,gE 35 .fz t];rfl
theorem th7(h:Sp Y)(k:cx Φ (.v 4) ρ Y)(L:LD Ds)(v0:cx Φ (.v 0) ρ (.fz\(aO .fz Ds)))(l:Φ 1021=cutD false)(i:∀a,Y=.fz\a->a.length<=500):∃Y,cx Φ MJ ρ Y/\Due Y "drawing" /\ cg 40 Y=true:=by
 ext(⟨f,b,t,g,B,j,rfl⟩:h)(r:Dt L v0 (m:=4) (x:=.int 4) (y:=.int 4) rfl rfl l ⇑4)(c:r.cat k rfl rfl (by have:=i _ rfl;rw[gM,zG L.l1];left));have e:aO .fz ((ap 4 Ds).flatten.take 4)++(aO .fz f++b::aO .fz t)=aO .fz ((ap 4 Ds).flatten.take 4++f)++b::aO .fz t:=by rw[<- Ku,zai]
 rw[e]at c;exact⟨_,c,Sp.due ⟨_,b,t,λd hd=>(dz.mp hd).elim (DY L d) (g d),B,j,rfl⟩⟩
include v1 in
theorem Ge{a m:Nat}(b:0<m):∃j:Nat,j<m/\bg Φ (.bin .add ↑a (.bin .mod (.v 1) ↑m)) ρ=ok ↑((a+j:Nat):Int):=by
 ext(⟨j,c,d⟩:vW N b);exact⟨j,c,gX rfl (yy v1 b) (by rw[d];rfl)⟩
theorem xj(d:CA (Φ 254)){a b:CE}{n c:Nat}(hn:n<=7)(e:1<=c)(i:bg Φ a ρ=ok ↑n)(g:bg Φ b ρ=ok ↑c):cx Φ (.call 254 [a,b]) ρ (ie .fz (n,ku n c)):=by
 ext(h:bR.call (f:=254) (Φ:=Φ) (ρ:=ρ) (es:=[a,b]) (Ys:=[.int n,.int c]) ⟨_,by rw[cz,cz,i,g];rfl,rfl⟩ (d n c hn e));rw[fL]at h;exact h
include v1 in
theorem th8(f:CA (Φ 254)):∃Y,cx Φ MI ρ Y/\Due Y "many" /\ cg 40 Y=true:=by
 ext(⟨j,h,g⟩:Ge v1 (a:=10) (m:=3) ⇑4)(a:xj f (a:=.int 1) (b:=.int 2) (n:=1) (c:=2) (ρ:=ρ) ⇑4 ⇑4 rfl rfl)(m:cx.mul (k:=3) (b:=.int 3) (bR.lst (.cons a .nil)) rfl ⇑4 ⇑4);have r:cx Φ (.lst [(.tup [(.tup [↑1,↑1]),(.tup [])])]) ρ (.fz\(bj [((1:Rat),[])])):=⟨_,rfl,rfl⟩
 ext(t:bR.lst (.cons (bR.tup (.cons (cx.k g) (.cons r .nil))) .nil))(c:m.cat t rfl rfl (aaP rfl));refine⟨_,c,.inr (.inl ⟨rfl,.inr ⟨rfl,[(1,ku 1 2),(1,ku 1 2),(1,ku 1 2),(10+j,[(1,[])])],λd hd=>?_,aaP rfl,aaP rfl,.inl ?_,rfl⟩⟩),gE 35 .fz [(1,ku 1 2),(1,ku 1 2),(1,ku 1 2),(10+j,[(1,[])])]⟩
 ·ext(e:(Hh (n:=1) (c:=2) ⇑4 ⇑4 ⇑4 ⇑4).1);simp only[zau,zav,or_false]at hd;ext((rfl|rfl|rfl|rfl):hd)
  ·exact⟨6,e⟩
  ·exact⟨6,e⟩
  ·exact⟨6,e⟩
  ·exact⟨6,dr1 ⋯ ⋯⟩
 ·simp[fq];left
theorem AY{c:Nat}(b:1<=c)(a:c<=32):Dr 6 5 (ku 5 c)/\(ku 5 c).length=c:=Hh ⇑4 b a (aav a ⇑4)
include v1 in
theorem th9(e:CA (Φ 254)):∃Y,cx Φ MH ρ Y/\Due Y "many" /\ cg 40 Y=true:=by
 ext(⟨j,l,h⟩:Ge v1 (a:=21) (m:=9) ⇑4)(a:xj e (a:=.int 5) (n:=5) (c:=21+j) (ρ:=ρ) ⇑4 ⋯ rfl h)(b:xj e (a:=.int 5) (b:=.int 24) (n:=5) (c:=24) (ρ:=ρ) ⇑4 ⇑4 rfl rfl)(⟨k,g⟩:AY (c:=21+j) ⋯ ⋯)(⟨i,f⟩:AY (c:=24) ⇑4 ⇑4);refine⟨_,bR.lst (.cons a (.cons b .nil)),.inr (.inl ⟨rfl,.inr ⟨rfl,[(5,ku 5 (21+j)),(5,ku 5 24)],λd hd=>?_,aaP rfl,aaP rfl,.inr ?_,rfl⟩⟩),gE 35 .fz [(5,ku 5 (21+j)),(5,ku 5 24)]⟩
 ·simp only[zau,zav,or_false]at hd;ext((rfl|rfl):hd)
  ·exact⟨6,k⟩
  ·exact⟨6,i⟩
 ·simp only[f9,g,f];left
theorem Yf(e:CA (Φ 254)):∃Y,cx Φ Gp ρ Y/\Due Y "told" /\ cg 40 Y=true:=by
 ext(a:xj e (a:=.int 5) (b:=.int 20) (n:=5) (c:=20) (ρ:=ρ) ⇑4 ⇑4 rfl rfl)(b:xj e (a:=.int 5) (b:=.int 25) (n:=5) (c:=25) (ρ:=ρ) ⇑4 ⇑4 rfl rfl)(⟨i,g⟩:AY (c:=20) ⇑4 ⇑4)(⟨h,f⟩:AY (c:=25) ⇑4 ⇑4);refine⟨_,bR.lst (.cons a (.cons b .nil)),.inr (.inr ⟨rfl,[(5,ku 5 20),(5,ku 5 25)],⟨by decide,by decide,λd hd=>?_,by simp[fq],by simp[f9,g,f]⟩,rfl⟩),gE 35 .fz [(5,ku 5 20),(5,ku 5 25)]⟩;simp only[zau,zav,or_false]at hd;ext((rfl|rfl):hd)
 ·exact i
 ·exact h
end
def A2(m:aD):Prop:=∀(Ds:List Dw) (N:Int),LD Ds->∃d Y s,m [.fz\(aO .fz Ds),.int N]=ok d/\aJ aK d=.fz\[Y,.str s]/\Due Y s/\cg 40 Y=true
theorem IM(Φ:aY)(X:Φ 1020=cutD true)(y:Φ 1021=cutD false)(z:xn (Φ 252))(u:CA (Φ 254)):A2 (mk Φ 2 5 l8):=by
 intro a N L;have l1:=L.l1;have l3:=L.l3;ext(w:gM .fz a);have A:xu 5 [(0,.fz\(aO .fz a)),(1,.int N)] [↥(.fz\(aO .fz a)),↥↑N,none,none,none]:=⟨rfl,⟨_,rfl,(iU a).fz⟩,⟨_,rfl,rfl⟩,trivial⟩
 ext(⟨k,x,W⟩:vW (N.fdiv 12) (m:=a.length) ⋯);obtain⟨Y,S⟩:∃Y:D,Sp Y/\(∀C,Y=.fz\C->C.length<=500)/\Go Φ Tx [↥(.fz\(aO .fz a)),↥↑N,none,none,none] (λo=>xu 5 [(4,Y),(3,.int k),(1,.int (N.fdiv 12)),(2,.int (N.fmod 12)),(0,.fz\(aO .fz a))] o):=by
  ext(hd:aaA x)(⟨r,e1,B,Q⟩:z a[k].1 a[k].2 ((N.fdiv 12).fdiv 3) (L.dr _ (aaU x)) (L.F_ _ (aaU x)));refine⟨.fz\(aO .fz (a.take k)++aJ aK r::aO .fz (a.drop (k+1))),⟨_,_,_,λd hd=>L.gd d (abT hd),B,Q,rfl⟩,λC e=>?_,?_⟩
  ·injection e with _ e
   rw[<- e,zaf,zae,gM,gM,zar,zbp];left
  ·refine Go.yT A (Y:=.int (N.fmod 12)) (.k (gX A.2.2.1.v.i rfl (su ⇑4))) λO A=>?_;refine Go.yT (l:=[(2,.int (N.fmod 12)),(0,.fz\(aO .fz a))]) ⟨A.1,A.2.1,A.2.2.1,trivial⟩ (Y:=.int (N.fdiv 12)) (.k (gX A.2.2.2.1.v.i rfl (iX ⇑4))) λK A=>?_;refine Go.yT A (Y:=.int k) (.k (gX A.2.1.v.i (cx.len A.2.2.2.1.v) ⇑[w,su ⋯,W])) λJ A=>?_;refine Go.yT A ?_ λI A=>Go.nil A;ext(j:A.2.2.2.2.1.v (Φ:=Φ))(t:A.2.1.v.i (Φ:=Φ))(c1:cx.cut y j t);have c2:cx Φ (.cJ 1020 [(.v 0),(.bin .add (.v 3) ↑1)]) _ _:=cx.cut (k:=k+1) X j (gX t rfl rfl);have c3:cx Φ (.ix (.v 0) (.v 3)) _ (ie .fz a[k]):=cx.RA j t (by unfold aO;rw[bv,hd];rfl);have c4:cx Φ (.bin .fdiv (.v 1) ↑3) _ ↑((N.fdiv 12).fdiv 3):=.k (gX A.2.2.1.v.i rfl (iX ⇑4));ext(Z:bR.lst (.cons (bR.call (f:=252) (.cons c3 (.cons c4 .nil)) e1) .nil))(H:(c1.cat Z rfl rfl (by simp[js,w];left)).cat c2 rfl rfl (by simp[js,w];left));rw[ui,ui,zai]at H;exact H
 ext(⟨F,R,o,eq,A⟩:S)(j:A.2.2.2.2.2.1.v (Φ:=Φ))(p:A.2.2.2.1.v.i (Φ:=Φ))(n:A.2.2.2.2.1.v.i (Φ:=Φ))(E:A.2.1.v (Φ:=Φ));have T:Th Φ N5 o:=by
  ext(⟨g1,g2⟩:gL N (b:=12) ⇑4);generalize N.fmod 12=M at *;have q:bg Φ (.cmp .lt (.v 2) ↑5) o=ok (.bl (decide (M<5))):=ug n rfl rfl;unfold N5;by_cases G:M<5
  ·rw[zaH G]at q;ext(⟨g,c⟩:F.due);exact Th.if1 q (Th.ret E g c)
  ·rw[zaR G]at q;refine Th.Xe q (Th.eq n (λ_=>?_) λ_=>Th.eq n (λ_=>?_) λ_=>Th.eq n (λ_=>?_) λ_=>Th.eq n (λ_=>?_) λ_=>Th.eq n (λ_=>?_) λ_=>Th.eq n (λ_=>?_) λ_=>?_)
   ·ext(⟨Y,h,g,c⟩:th5 L j p);exact Th.ret h g c
   ·ext(⟨Y,h,g,c⟩:th6 L j p y);exact Th.ret h g c
   ·ext(⟨Y,h,g,c⟩:th7 F E L j y R);exact Th.ret h g c
   ·ext(⟨Y,h,g,c⟩:th8 p u);exact Th.ret h g c
   ·ext(⟨Y,h,g,c⟩:th9 p u);exact Th.ret h g c
   ·ext(⟨Y,h,g,c⟩:Yf (ρ:=o) u);exact Th.ret h g c
   ·exact Th.ret j (.inr (.inr ⟨rfl,a,L.lys,rfl⟩)) (gE 35 .fz a)
 ext(⟨d,P,Y',s,V,U⟩:T);refine⟨d,Y',s,?_,U⟩;rw[mk_eq (ar:=2) (ds:=[.fz\(aO .fz a),.int N]) rfl];show jI (bF Φ l8 [↥(.fz\(aO .fz a)),↥↑N,none,none,none])=_;unfold l8;rw[y9 Φ _ _ _ _ eq,V];rfl
end DI
end
section
namespace DI
open PySem PySem.Spec PyProof.Rows L2
def BA{K:av}{h:Heap}{C B:Addr}{b:Bool}(X:K.In h)(q:nt K C Na "ValueError.__new__" = true)(m:ja K C (.ref B)=↥b):uK C B b h:=by
 ext(⟨r,j,bs,e,i,g,hd,f,c,s,d,p,o,n,l,k,a,_,_,_⟩:Av q);refine⟨_,_,_,_,_,_,_,_,_,_,_,_,_,_,_,_,_,X _ _ a,?_⟩;unfold ja Ev at m;rw[a]at m;exact aaI (show ↥((em C::e).contains (.ref B))=↥b from m)
section
variable {P:aG}{w:World}{K:av}{h base:Heap}{mg:aU}(X:K.In h)(G:h.Ns cm mg)⦃x:Str⦄⦃st:Stmt⦄⦃N ps bl:aq⦄⦃tb:List (Nat×Str)⦄⦃cs:List (Str×GK)⦄⦃px:Px⦄
include X G
theorem enW{n y z t w0 w1 X9:Str}{L:Addr}{M:Stmt}{E:eO}{hs:List eO}{c:CS}{Wd:Nat->Option Str}
  {j0 j1 j2 j3:Nat} {a1 a2 a3 b1 b2 b3 pos c1 c2 c3 c4 c5 c6 c7 c8 c9 G6 G5 d1 d2:Pos} (i j l k:Nat) (Φ:aY) (Ψ:Nat->Nat->aa->Prop) (m:aD) (d:Df K x st) (D:Vy N ps (aE st)=true)
  (JW:bC st=SV y z t w0 w1 M (E::hs) j0 j1 j2 j3 a1 a2 a3 b1 b2 b3 pos c1 c2 c3 c4 c5 c6 c7 c8 c9 G6 G5 d1 d2/\(W3 (aE st) N n y z t i j l&&(qj ⟨aE st,N,λn=>D6 n tb,bl,cs,px⟩ c M&&Im c))=true)
  (I:nZ px Φ/\Hq px Φ) (S:bO (λy=>mg y=none) bl) (pQ:bO (λp:Str×GK=>∃u,mg p.1=↥u/\xp K p.2 u) cs)
  (hf:bO (λp:Nat×Str=>Ent P w K mg base k p.2 (Φ p.1)) tb)
  (H0:Hu mg base (aE st) L n y z X9 (E::hs)) (A0:xr P w K mg base k L t)
  (hw:∀e s,Wd e=↥s->∃C,Hu mg base (aE st) C n y z s (E::hs)/\xr P w K mg base k C t/\bO (λp:Nat×Str=>(∃b,Ψ e p.1 b)->jR P w K mg base k C p.2 (Ψ e p.1)) tb)
  (J:∀b r,m b=ok r->b.length=ps.length/\((r=.str w0/\∃o,ic Φ c (x4 N j l w0 b)=ok (.nx,o)/\o[j]?=↥↥(.str w0)/\o[l]?=↥↥.bX)\/∃e s,Wd e=↥s/\r=.str s/\oP Φ (Ψ e) e c (x4 N j l w0 b)))
  (hb:∀(kV F Z:Value) (an:Option Addr) (fN ct:Value) (v:aw),v.length=ps.length->Ag (hP x x (eJ st) (bC st) (aE st) .none kV F Z an fN ct) ⟨v,[]⟩=pure (ps.zip v):=by first|exact λ_ _ _ _ _ _=>u1 λ_=>rfl|exact λ_ _ _ _ _ _=>u2 λ_ _=>rfl|exact λ_ _ _ _ _ _=>u3 λ_ _ _=>rfl|exact λ_ _ _ _ _ _=>u4 λ_ _ _ _=>rfl|exact λ_ _ _ _ _ _=>u5 λ_ _ _ _ _=>rfl):Ent P w K mg base (k+1) x m:=by
 ext(⟨f,fd,H,a⟩:d)(⟨U,B⟩:JW)(⟨B,A⟩:aC B)(⟨A,T⟩:aC A);refine⟨f,fd,ps,A8 H (wq D) U B I.1 I.2 (bO.mem S) (bO.two (P:=λy i=>∃u,mg y=↥u/\xp K i u) pQ) (bO.tab (P:=λg y=>Ent P w K mg base k y (Φ g)) hf) T A H0 A0 (λb r q=>?_),abZ X G a,H.kp,H.binds hb,λb r q=>(J b r q).1⟩;ext(⟨q1,q2⟩:J b r q);refine⟨q1,q2.imp (λz=>z) ?_⟩;rintro ⟨e,s,Y,rfl,V⟩;ext(⟨C,R,Q,O⟩:hw e s Y);exact⟨s,C,e,Ψ e,rfl,R,Q,bO.tab (P:=λg y=>(∃b,Ψ e g b)->jR P w K mg base k C y (Ψ e g)) O,V⟩
end
def noE{A:Prop}{a b:Nat}{P:aa->Prop}(h:∃c,a=b/\P c)(hn:(a==b)=false:=by rfl):A:=by
 ext(⟨_,rfl,_⟩:h);simp at hn
meta def M9(e:Nat):Option Str:=if e=1 then ↥"drawing" else if e=10 then ↥"many" else none
protected def C8{e:Nat}{s:Str}(h:M9 e=↥s):(e=1/\s = "drawing")\/(e=10/\s = "many"):=by
 unfold M9 at h;split at h
 ·rename_i z;cases h;exact .inl ⟨z,rfl⟩
 ·split at h
  ·rename_i z;cases h;exact .inr ⟨z,rfl⟩
  ·cases h
meta def XJ:CS:=.ex (.call 103 [(.v 0)])
open Classical in
meta def vF(Φ:aY)(ds:aa):O D:=match one ds with
 |some d=>if Fz d then(match Φ 103 [d]with
  |some (.ok _)=>ok (.str "told")
  |some (.error e)=>if ql e [d]then(match M9 e with
   |some s=>ok (.str s)
   |none=>none)else none
  |none=>none)else none
 |none=>none
def hmK{Φ:aY}{a b c d:Str}(ds:aa)(r:D)(h:vF Φ ds=ok r):ds.length=[a].length/\((r=.str "told" /\ ∃g,ic Φ XJ (x4 [a,b,c,d] 1 2 "told" ds)=ok (.nx,g)/\g[1]?=↥↥(.str "told")/\g[2]?=↥↥.bX) \/
  ∃e s,M9 e=↥s/\r=.str s/\oP Φ (sD e) e XJ (x4 [a,b,c,d] 1 2 "told" ds)):=by
 unfold vF at h;cases l:one ds with
 |none=>rw[l]at h;cases h
 |some x =>
  rw[l]at h;ext(rfl:bM l);by_cases f:Fz x
  ·replace h:=(abE f).symm.trans h;have n:b6 Φ [.v 0] (x4 [a,b,c,d] 1 2 "told" [x])=ok [x]:=by
    show wN (ok (aJ bq x)) (ok [])=_;rw[f.al];rfl
   have m:ao aK [x]=[x]:=by rw[ao,ao,f.fz]
   refine⟨rfl,?_⟩;cases k:Φ 103 [x]with
   |none=>rw[k]at h;cases h
   |some z =>
    rw[k]at h;cases z with
    |ok y =>
     cases h;exact .inl ⟨rfl,_,Aw n ([m]\k),rfl,rfl⟩
    |error e =>
     by_cases i:ql e [x]
     ·replace h:=(abE i).symm.trans h;cases j:M9 e with
      |none=>rw[j]at h;cases h
      |some s =>
       rw[j]at h;cases h;exact .inr ⟨e,s,j,rfl,.ex n ([m]\i)⟩
     ·replace h:=(ad0 i).symm.trans h;cases h
  ·replace h:=(ad0 f).symm.trans h;cases h
def HW{e:Nat}{t:D}(h:ql e [t]):Fz t:=by
 ext(((⟨_,d,f,z,_⟩|⟨_,a,_,_,z⟩)|⟨_,a,_,_,_,_,z⟩):h)
 ·cases z;exact f
 ·cases z;exact iU a
 ·cases z;exact iU a
def Hk(m:aD):Prop:=∀t s,Due t s->m [t]=ok (.str s)
def NW(Φ:aY)(b:Wq (Φ 103))(OR:∀e d,ql e d->Φ 103 d=↥(.error e)):Hk (vF Φ):=by
 intro t s h;have c:∀e w,M9 e=↥w->ql e [t]->vF Φ [t]=ok (.str w):=λe w hw a=>by
  unfold vF;refine(abE (HW a)).trans ?_;rw[OR e _ a];refine(abE a).trans ?_;rw[hw]
 ext((⟨rfl,h⟩|⟨rfl,h⟩|⟨rfl,f,K,rfl⟩):h)
 ·exact c 1 _ rfl h
 ·exact c 10 _ rfl h
 ·unfold vF;refine(abE (iU f)).trans ?_;rw[b f K];rfl
end DI
end
section
namespace DI
open PySem (Str)
mutual
theorem wF(g h:Fl->Fl):∀a b:D,lr (aJ g a) (aJ h b)=lr a b
 |.tup as,b=>by cases b<;>first|rfl|exact kU g h as _
 |.lst _ as,b=>by cases b<;>first|rfl|exact kU g h as _
 |.cF _ _ _,b=>by cases b<;>rfl
 |.bX,b=>by cases b<;>rfl
 |.bl _,b=>by cases b<;>rfl
 |.int _,b=>by cases b<;>rfl
 |.str _,b=>by cases b<;>rfl
theorem kU(g h:Fl->Fl):∀as bs:aa,fM (ao g as) (ao h bs)=fM as bs
 |[],bs=>by cases bs<;>rfl
 |a::as,bs=>by
  cases bs with
  |nil=>rfl
  |cons b bs =>
   show(lr (aJ g a) (aJ h b)&&fM (ao g as) (ao h bs))=_;rw[wF g h a b,kU g h as bs];rfl
end
theorem pd(g:Fl->Fl):∀(n:Nat) (d:D),cg n (aJ g d)=cg n d
 |0,d=>by cases d<;>rfl
 |n+1,d=>by
  cases d<;>first|rfl|skip
  all_goals
   show KP (ao g _) (cg n)=KP _ (cg n);exact[aN,zaW]\aa5 (KP _) (funext λd=>pd g n d)
theorem rX{n:Nat}(h:∀d,cg n d=true->lr d d=true):∀a:aa,a.all (cg n)=true->fM a a=true
 |[],_=>rfl
 |d::a,k=>by
  rw[zas,zag]at k;show(lr d d&&fM a a)=true;rw[h d k.1,rX h a k.2];rfl
def Gm(n:Nat):∀d:D,cg n d=true->lr d d=true:=by
 induction n with
 |zero=>intro d h;cases d<;>first|rfl|exact ab0 _|exact lW (show false=true from h)
 |succ n a=>intro d h;cases d<;>first|rfl|exact ab0 _|exact lW (show false=true from h)|exact rX a _ h
variable {Y:D}
def Zf{a b:D}(e:aJ aK a=Y)(d:aJ aK b=Y)(c:cg 40 Y=true):kZ .ne a b=ok (.bl false):=by
 have g:cg 40 a=true:=[-pd aK,e]\c
 have f:cg 40 b=true:=[-pd aK,d]\c
 rw[V3 g f,<- wF aK aK a b,e,d,Gm 40 Y c];rfl
variable {Φ:aY}{ρ:aV}
def or2{a b:CE}(d:bg Φ a ρ=ok (.bl false))(c:bg Φ b ρ=ok (.bl false)):bg Φ (.or [a,b]) ρ=ok (.bl false):=by
 show bd (bd (bg Φ a ρ) ig) _=_;rw[d];show bd (bd (bg Φ b ρ) ig) _=_;rw[c];rfl
def Ul{a b:CE}{m n:Int}(d:bg Φ a ρ=ok ↑m)(c:bg Φ b ρ=ok ↑n)(f:0<=m)(g:m<=1000)(hn:0<=n)(e:n<=1000):cD Φ (.mI a b) ρ=ok (((eg (n - m).toNat).map λ(k:Nat)=>m+(k:Int)).map D.int,ρ):=by
 show bd (bg Φ a ρ) _=_;rw[d,cM,c,cM];show(if n<=(cB:Int) /\ -(cB:Int)<=n/\m<=(cB:Int) /\ -(cB:Int)<=m then _ else _)=_;have:(cB:Int)=1000000:=rfl;rw[zac ⋯,zah];rfl
meta def AD:CE:=.comp 1 (.nm 0) [0] .nu [(.bin .add ↑1 (.bin .mod (.call 200 [(.v 0),↑3]) ↑3))] [] (.call 212 [(.call 200 [(.v 1),(.v 0)]),↑4])
meta def V4:CE:=.or [(.cmp .ne (.call 253 [(.v 4)]) (.v 5)),(.cmp .ne (.v 4) (.ix (.call 208 [(.v 1),(.v 3)]) ↑0))]
def zo:ai:=[.asg (.nm 3) (.call 200 [(.v 0),(.v 2)]),.unp [4,5] (.call 208 [(.v 1),(.v 3)]),.ifs V4 [.ret (.bl false)] []]
meta def Ml:CI:=.mI ↑4 (.bf .max2 [↑6,(.bf .min2 [↑16,(.bf .len [(.v 0)])])])
def l_:ai:=[.asg (.nm 1) AD,.fr (.nm 2) Ml zo,.ret (.bl true)]
structure T47(Φ:aY):Prop where
 aaO:Hl (Φ 200)
 Vl:Wr (Φ 212)
 aaM:A2 (Φ 208)
 aaK:Hk (Φ 253)
section
variable {Φ:aY}(T:T47 Φ){ns:ae}
def zW(g:Fl->Fl)(a:g .sc=.sc):aJ g (.sc\(ak ns))=.sc\(ak ns):=by rw[aJ,a,fg]
include T in
theorem Gg{i:Nat}{e:CE}{k:Nat}(a:cx Φ (.v i) ρ (.sc\(ak ns)))(he:bg Φ e ρ=ok ↑k):bg Φ (.call 200 [(.v i),e]) ρ=ok ↑(fj ns k):=by
 ext(⟨d,e1,e2⟩:a);rw[mZ,cz,cz,e1,he];show w_ (Φ 200) (ok [d,.int k])=_;rw[l6];show PY (Φ 200 [aJ aK d,.int k])=_;rw[e2,T.aaO ns k ⋯];rfl
include T in
theorem OO:∃b,LD b/\bg Φ AD [↥(.sc\(ak ns)),none,none,none,none,none]=ok (.ow\(aO .ow b)):=by
 obtain⟨g,a⟩:∃g:Int->Dw,∀N,Φ 212 [.int N,.int ((4:Nat):Int)]=ok (ie .ow (g N))/\Dr 6 (g N).1 (g N).2/\(g N).2.length<=5/\1<=(g N).2.length/\(g N).1<=4 :=
  ⟨λN=>(T.Vl N 4 ⇑4 ⇑4).choose,λN=>(T.Vl N 4 ⇑4 ⇑4).choose_spec⟩
 ext(⟨j,i,h⟩:vW (fj ns 3) (m:=3) ⇑4);have c:cx Φ (.v 0) [↥(.sc\(ak ns)),none,none,none,none,none] (.sc\(ak ns)):=At.v ⟨_,rfl,zW aK rfl⟩;have en:bg Φ (.bin .add ↑1 (.bin .mod (.call 200 [(.v 0),↑3]) ↑3)) [↥(.sc\(ak ns)),none,none,none,none,none]=ok ↑((1+j:Nat):Int) :=
  gX rfl (gX (Gg T c (k:=3) rfl) rfl (su ⇑4)) (by
   show ok (D.int (1+(fj ns 3).fmod 3))=_;rw[show(fj ns 3).fmod 3=(j:Int) from h];congr 2)
 refine⟨(eg (1+j)).map λ(k:Nat)=>g (fj ns k),⟨by simp,by simp;left,λd hd=>?_,λd hd=>?_,λd hd=>?_⟩,?_⟩
 ·ext(⟨k,_,rfl⟩:cr.mp hd);exact(a _).2.1
 ·ext(⟨k,_,rfl⟩:cr.mp hd);exact(a _).2.2.1
 ·ext(⟨k,_,rfl⟩:cr.mp hd);exact(a _).2.2.2.2
 ·have f:b6 Φ [(.bin .add ↑1 (.bin .mod (.call 200 [(.v 0),↑3]) ↑3))] [↥(.sc\(ak ns)),none,none,none,none,none]=ok [.int ((1+j:Nat):Int)]:=by rw[cz,en];rfl
  unfold AD;rw[c_ (xs:=[.int ((1+j:Nat):Int)]) (ds:=(eg (1+j)).map λ(k:Nat)=>ie .ow (g (fj ns k))) f (z_ Φ ⋯ ⋯) ?_ ([zaa,zbo]\cA ⋯)]
  ·show ok (D.lst .ow (ao gW _))=_;have:=bz gW .ow ((eg (1+j)).map λ(k:Nat)=>g (fj ns k));unfold aO at *;simp only[zah]at this ⊢;exact aa5 ok (aa5 (D.lst .ow) this)
  ·rw[zaj];refine bV λk _=>⟨[↥↑k,↥(.sc\(ak ns))],by simp[bL,zW,aK],by simp,?_⟩
   have w0:cx Φ (.v 1) [↥↑k,↥(.sc\(ak ns))] (.sc\(ak ns)):=At.v ⟨_,rfl,zW aK rfl⟩;ext(e2:Gg T (e:=.v 0) (k:=k) w0 rfl);rw[mZ,cz,e2,cz];show PY (Φ 212 [.int (fj ns k),.int ((4:Nat):Int)])=_;exact[(a _).1]\aa5 ok (fL gW .ow _)
abbrev Xb(ns:ae)(Ds:List Dw):List (Nat×D):=[(0,.sc\(ak ns)),(1,.fz\(aO .fz Ds))]
theorem JG{e:CE}{d:D}:∃g a,cR e ρ (ok d)=ok (g,a)/\aJ aK g=aJ aK d/\a.length=ρ.length/\∀j Z,At ρ j Z->At a j Z:=by
 cases c:aW bS d with
 |false=>exact⟨d,ρ,eE c,rfl,rfl,λ_ _ h=>h⟩
 |true =>
  refine⟨aJ aK d,iH (gK e) ρ,by rw[pJ c,pW],rR d,by unfold iH;rw[Uy],λj Z k=>?_⟩;ext(⟨y,i,f⟩:k);unfold At iH;rw[li,i];by_cases b:j∈gK e
  ·exact⟨aJ aK y,by show ↥(if j∈gK e then _ else _)=_;rw[zac b];rfl,by rw[rR,f]⟩
  ·exact⟨y,by show ↥(if j∈gK e then _ else _)=_;rw[zab b],f⟩
set_option tactic.hygienic true in
theorem Yc{n:Nat}{l:List (Nat×D)}{e:CE}{d Z:D}{i j:Nat}(h:bg Φ e ρ=ok d)(hz:aJ aK d=.fz\[Y,Z])(F:Uo e=false)(A:xu n l ρ)(M:i<n:=by decide)(L:j<n:=by decide)(K:i≠j:=by decide)(J:(l.all λp=>p.1 != i)=true:=by rfl)(I:(l.all λp=>p.1 != j)=true:=by rfl):∃f,ic Φ (.unp [i,j] e) ρ=ok (.nx,f)/\xu n ((i,Y)::(j,Z)::l) f:=by
 ext(⟨u,c,z,k,w,v⟩:JG (ρ:=ρ) (e:=e) (d:=d));rw[hz]at k;obtain⟨g,a,b,rfl,H,G⟩:∃g a b,u=.lst g [a,b]/\aJ aK a=Y/\aJ aK b=Z:=by
  cases u<;>first | (cases k;done)|skip
  rename_i g N;injection k with k0 k
  ext(m:aa5 l7 k);rw[aN,zaa]at m;ext(⟨a,b,rfl⟩:sM m);injection k with e1 e2
  injection e2 with e2 _
  exact⟨g,a,b,rfl,e1,e2⟩
 have m:c.length=n:=w.trans A.1;have s:i<c.length:=by left
 have o:j<(c.set i ↥a).length:=by rw[zaJ];left
 refine⟨(c.set i ↥a).set j ↥b,?_,?_⟩
 ·show bd (kc Φ e ρ) (λr=>bd (Ih [i,j] r.1 r.2) λf=>ok (Fo.nx,f))=_;rw[Fj Φ e ρ F,h,z,cM];have:Ih [i,j] (.lst g [a,b]) c=ok ((c.set i ↥a).set j ↥b):=by
   show dJ [i,j] [a,b] c=_;unfold dJ;rw[zac s];unfold dJ;rw[zac o];rfl
  rw[this];rfl
 ·have keep:∀x W,x≠i->x≠j->At c x W->At ((c.set i ↥a).set j ↥b) x W:=λx W E C ⟨y,q1,q2⟩=>⟨y,[cb (ip C),cb (ip E)]\q1,q2⟩
  have all:∀l:List (Nat×D),bO (λp:Nat×D=>At ρ p.1 p.2) l->(l.all λp=>p.1 != i)=true->(l.all λp=>p.1 != j)=true->bO (λp:Nat×D=>At ((c.set i ↥a).set j ↥b) p.1 p.2) l:=by
   intro l;induction l with
   |nil=>intro _ _ _;trivial
   |cons p l B =>
    intro q r t;rw[zas,zag]at r t;exact⟨keep _ _ ⇑r.1 ⇑t.1 (v _ _ q.1),B q.2 r.2 t.2⟩
  refine⟨[zaJ,zaJ]\m,⟨a,?_,H⟩,⟨b,abM o,G⟩,all l A.2 J I⟩;show((c.set i ↥a).set j ↥b)[i]?=_;exact[cb (ip K)]\abM s
include T in
theorem Ff{Ds:List Dw}(L:LD Ds)(k:Nat)(A:xu 6 ((2,D.int (k:Int))::Xb ns Ds) ρ):Go Φ zo ρ (xu 6 (Xb ns Ds)):=by
 refine Go.yT A (Y:=.int (fj ns k)) (.k (Gg T A.2.2.1.v A.2.1.v.i)) λl A=>?_;have g:∀{ρ:aV},cx Φ (.v 1) ρ (.fz\(aO .fz Ds))->bg Φ (.v 3) ρ=ok ↑(fj ns k)->∃d Y s,bg Φ (.call 208 [(.v 1),(.v 3)]) ρ=ok (aJ gW d)/\Φ 208 [.fz\(aO .fz Ds),.int (fj ns k)]=ok d/\aJ aK d=.fz\[Y,.str s]/\Due Y s/\cg 40 Y=true:=λ{ρ} q p=>by
  ext(⟨d,Y,s,e1,e2,e3⟩:T.aaM Ds (fj ns k) L)(⟨x,c,b⟩:q);refine⟨d,Y,s,?_,e1,e2,e3⟩;rw[mZ,cz,cz,c,p];show w_ (Φ 208) (ok [x,.int (fj ns k)])=_;rw[l6];show PY (Φ 208 [aJ aK x,.int (fj ns k)])=_;rw[b,e1];rfl
 ext(⟨d,Y,s,e1,e2,e3,e4,e5⟩:g A.2.2.2.2.1.v A.2.1.v.i)(⟨a,u1,A⟩:Yc (i:=4) (j:=5) e1 ([ud]\e3) rfl A);refine Go.cons u1 (Go.Xe (or2 ?_ ?_) (Go.nil ⟨A.1,A.2.2.2.2.2.1,A.2.2.2.2.2.2.1,trivial⟩))
 ·have h:cx Φ (.call 253 [(.v 4)]) a (.str s):=bR.call (.cons A.2.1.v .nil) (T.aaK Y s e4);exact ug h.s A.2.2.1.v.s (by show ok (D.bl (!(s==s)))=_;rw[zbd];rfl)
 ·ext(⟨x,c,b⟩:A.2.1.v (Φ:=Φ))(⟨t,_,_,r,e,_⟩:g A.2.2.2.2.2.2.1.v A.2.2.2.1.v.i);rw[e2]at e;cases e;have o:cx Φ (.ix (.call 208 [(.v 1),(.v 3)]) ↑0) a Y:=cx.RA (j:=0) (Ys:=[Y,.str s]) (f:=.fz) ⟨_,r,[ud]\e3⟩ rfl rfl;ext(⟨y,n,m⟩:o);exact ug c n (Zf b m e5)
end
def Ua(Φ:aY)(T:T47 Φ)(ns:ae):mk Φ 1 6 l_ [.sc\(ak ns)]=ok (.bl true):=by
 ext(⟨c,L,e1⟩:OO T (ns:=ns));have g:ic Φ (.asg (.nm 1) AD) [↥(.sc\(ak ns)),none,none,none,none,none]=ok (.nx,[↥(.sc\(ak ns)),↥(.ow\(aO .ow c)),none,none,none,none]):=by
  rw[uT,Fj Φ _ _ rfl,e1,eE (by show(false||aR bS _)=false;rw[iy rfl];rfl)];rfl
 obtain⟨M,o,q,r⟩:∃M:Int,bg Φ (.bf .max2 [↑6,(.bf .min2 [↑16,(.bf .len [(.v 0)])])]) [↥(.sc\(ak ns)),↥(.ow\(aO .ow c)),none,none,none,none]=ok ↑M/\6<=M/\M<=16:=by
  have h:bg Φ (.bf .len [(.v 0)]) [↥(.sc\(ak ns)),↥(.ow\(aO .ow c)),none,none,none,none]=ok ↑ns.length:=by
   show ok (D.int ((ao bq (ak ns)).length:Nat))=_;rw[fg];simp
  refine⟨if (if (ns.length:Int)<16 then(ns.length:Int)else 16)>6 then(if (ns.length:Int)<16 then(ns.length:Int)else 16)else 6,?_,by split<;>left,by split<;>split<;>left⟩;rw[Gu,cz,cz,Gu,cz,cz,h];rfl
 have e:cD Φ Ml _=_:=Ul (Φ:=Φ) (a:=.int 4) (m:=4) (n:=M) rfl o ⇑4 ⇑4 ⋯ ⋯;have A:xu 6 (Xb ns c) [↥(.sc\(ak ns)),↥(.ow\(aO .ow c)),none,none,none,none]:=⟨rfl,⟨_,rfl,zW aK rfl⟩,⟨_,rfl,by show D.lst .fz (ao aK _)=_;rw[bz];rfl⟩,trivial⟩
 obtain⟨f,p,_⟩:=F2 (Φ:=Φ) (t:=.nm 2) (bb:=zo) (P:=xu 6 (Xb ns c)) (((eg (M - 4).toNat).map λ(k:Nat)=>4+(k:Int)).map D.int) (λd hd ρ B=>by
  ext(⟨x,j,rfl⟩:cr.mp hd)(⟨k,_,rfl⟩:cr.mp j)(⟨q1,q2⟩:B.set (i:=2) (d:=.int (4+(k:Int))) (Y:=.int ((4+k:Nat):Int)) rfl);exact⟨_,q1,Ff T L (4+k) q2⟩) _ A
 ext(l:fV (Φ:=Φ) (t:=.nm 2) (b:=zo) e p);rw[mk_eq (ar:=1) (ds:=[.sc\(ak ns)]) rfl];show jI (bF Φ l_ [↥(.sc\(ak ns)),none,none,none,none,none])=_;unfold l_;rw[bI,g,dH,bI,l,dH];rfl
end DI
end
namespace PySem.W.Fast
universe tw14123536180389263099 tw5627769826310904309 tw12755737470779534522 tw143332175176710748 tw6662480318077138159 tw8485742982871350431 tw15850747923635432360 tw2446064532203083016 tw638944170150843141 tw15733034020088792054 tw10549147688793746040 tw5912199545378884010 tw8859844312683998528 tw5861226185117420259 tw3349530886716542529 tw14121030935567125776 tw3301238504914733042 tw13595584469924412256 tw1999176273951983428 tw14875076593630257501 tw3661918156532850932 tw4069670849925155974 tw2582758338961538479 tw9507414488014189133 tw12049841204724502674 tw15932150066729523984 tw15587547823881507884 tw6863977227884657604 tw7384520976829554 tw13733848102930987637 tw3209533405987128180 tw13211348967821208000 tw3494374485460944942 tw1114876387703227199 tw12973445193075798345 tw2891428135797228150 tw10930615920778676744 tw5120510946302646686 tw6707042656243069834 tw822947518268152236 tw12478621099034527011 tw11413858178818844714 tw1723393802307146818 tw17167804470870049129 tw7414704972937754247 tw7464094533612048553 tw15286939150618396889 tw4544083163857517689 tw8949567143175356305 tw16697104026614400470 tw2411308198080927064 tw13778009375096679362 tw13195490262172579354 tw16044440627498875391 tw6622271096941131326 tw11008716314450947450 tw10053168503768562219 tw4955260525045530979 tw8562386982338552633 tw10299632400958513917 tw7103749324873096222 tw16581866857525865751 tw17336817662640978415 tw8494591372375137784 tw17463651251119503775 tw11941925135979987978 tw14447072497829975458 tw15804440612636488600 tw4404121047969455783 tw1693836285262846326 tw6434449920701563773 tw813885202087050535 tw9297843088287964279 tw3442339274485598271 tw18201656266029057527 tw11919152060827425001 tw15387177582237822669 tw9774733846888816762 tw16164829125703755768 tw15998872424692475728 tw12309045162816571497 tw11935138764509569673 tw4332554808128099198 tw17827114175642974492 tw3640688047308431855 tw5392644179076131646 tw6243106516100133202 tw15305569665654341183 tw14732217689678913321 tw8748636290633230437 tw17687001195643754478 tw3674804723014258388 tw6765367502888329606 tw888758859212181819 tw5598929927856968266 tw8876909074051958158 tw10052147843674543203 tw9746599660526150371 tw9459991352485206454 tw3807931669890410703 tw16458373941425616902 tw5446186485961855407 tw9813377369596842723 tw7190600204067107317 tw9850854928319471150 tw9165509171852111648 tw897483214365596080 tw3199529354978319761 tw17945301851449754691 tw4591414743455924406 tw8325130122083133374 tw4132149494046159787 tw2477992779259370244 tw5176934514562177258 tw8036806046646756619 tw3049895759652106920 tw13237420478965946279 tw6415775158445567287 tw15064120274971835270 tw16284552882283886990 tw17620761498373264636 tw11612011771673306649 tw11212152624656751839 tw505035763565550233 tw9400144773070135455 tw976263235614818387 tw3193695327365808649 tw15030537285833449199 tw14026514355005913676 tw13896493735133969507 tw12462892140421403882 tw13402695575360412506 tw17921358093982315254 tw15563126200812555439 tw9354312753432324881 tw5469213725949023838 tw1565787029271527842 tw3301815076955242973 tw5363774512684623596 tw8558313214836400394 tw13921881146191987658 tw7635204910579993892 tw6528775977221412813 tw12990359659762613781 tw15945068371713780985 tw17922843360283345031 tw14975074906230482976 tw11721895223049867918 tw8291429446048961001 tw16183162652431976793 tw7576436728056756054 tw3630714311632098735 tw12142393970694647721 tw6451323519297161680 tw15413017310896650233 tw13554979570377390027 tw14366192953485577471 tw17632880168832987449 tw7327120048514392434 tw6320159760137050320 tw369966537049241238 tw15370271272154627817 tw16529311856761153237 tw30632476034309543 tw1354018679824380999 tw8214494121633057723 tw9616421479571691588 tw16497449816493053015 tw8263693203090133640 tw11008149034556771382 tw9340524242597600480 tw851351633238953672 tw12870262952821133558 tw8150232277207514863 tw6379936075326511792 tw12795080975061970342 tw218929106910265376 tw11689152683452958622 tw6811076669518428868 tw15028648337430936474 tw12374689359174256536 tw9075951397217875281 tw4095745920387199525 tw17516832260545361598 tw14512925426896083540 tw8082655098809825421 tw483778097479269479 tw275212047377217800 tw12068682669288756434 tw7024144343601554226 tw4915313858368655439 tw15877367495544421180 tw16033369634468968349 tw16089022247117810595 tw11809059773226126704 tw18356773978880947101 tw13115355739339806315 tw5738434170027893017 tw691226297283296215 tw13727513691835612752 tw3108646373031370944 tw9984240661971030998 tw121928301045048122 tw15762441139011769683 tw16358138366333350738 tw13304137666262826951 tw16767371442460367669 tw13396983510333258716 tw7454949205955278974 tw10942041848893467316 tw1128614568470204196 tw13880986854365289686 tw6210556788905728356 tw7397817472465639249 tw12119198874264298821 tw1111780335550841737 tw16956775891546560361 tw2317507513892776143 tw17623280611008633261 tw584859635841241805 tw884460396882519555 tw17044933258327731871 tw9665124368885130305 tw14523003551737281642 tw10286688846169381522 tw3117122363238774432 tw11315317448316626948 tw16863413046718747162 tw15244208162574286080 tw8471078821680307077 tw11824597243766039002 tw2832169859348864302 tw67813613666931776 tw11825853593194063724 tw6534398778463999470 tw4789633810693205604 tw8772465832103852312 tw8771461230252522792 tw12783704893316021898 tw8096307632557678636 tw12270741900110890413 tw1931792332094249104 tw17550003001581609148 tw1150846221010901801 tw15446047906041395637 tw2095054510554855674 tw11011304001213633018 tw2791386602736932876 tw17920518321864181528 tw10862988907311141937 tw10948386284536109210 tw14764050461089486927 tw3908430083091734492 tw973717846392971749 tw4175631719498364702 tw9280014634257760827 tw2162844593448152429 tw2443693263579835233 tw14074207353194347082 tw4269437736815188617 tw14034678345813962981 tw7868089873950297255 tw735881364356008361 tw5924478757322417850 tw8915688914859500536 tw11178631799363357657
end PySem.W.Fast
namespace Asm
open PySem PySem.Spec PyProof.Rows L2 DI
meta def top(i:Nat):Stmt:=yal.main.body.getD i (.Pass ⟨0,0,0,0⟩)
def px:Px:=⟨λn a bl e=>if n=1017 then gn "sorted" a bl e else if n=1020 then m9 true a bl e else if n=1021 then m9 false a bl e else if n=1022 then GZ a bl e else if n=1030 then ur a bl e else if n=1032 then m8 a bl e else if n=1035 then gn "sorted" a bl e else if n=1038 then AO a bl e else if n=1039 then m8 a bl e else if n=1040 then GY a bl e else if n=1046 then AN a bl e else if n=1083 then m9 true a bl e else none,λn a bl e=>if n=1000 then qi a bl e else none,λn a bl e=>if n=1010 then oH a bl e else if n=1013 then G0 a bl e else if n=1033 then uq a bl e else none,λn a bl e=>if n=1201 then yL a bl e else none⟩
def PT:aY
 |1000=>HS
 |1010=>rK
 |1013=>Cb
 |1017=>oZ
 |1020=>(cutD true)
 |1021=>(cutD false)
 |1022=>RQ
 |1030=>GC
 |1032=>GH
 |1033=>wK
 |1035=>qa
 |1038=>Ro
 |1039=>yB
 |1040=>T7
 |1046=>Lq
 |1083=>rY
 |1201=>xM
 |_=>λ_=>none
def pr(F:aY)(i:Nat)(m:aD):nZ px (xm PT F i m)/\Hq px (xm PT F i m):=⟨⟨(λX j bl k L p e args a F o b=>CL a (λa=>DC rfl L a b) λa=>CL a (λa=>GL rfl L a b) λa=>CL a (λa=>GL rfl L a b) λa=>CL a (λa=>Vu rfl L a b) λa=>CL a (λa=>KC rfl L a b) λa=>CL a (λa=>QQ rfl L a b) λa=>CL a (λa=>Gx rfl L a b) λa=>CL a (λa=>SJ rfl L a b) λa=>CL a (λa=>QF rfl L a b) λa=>CL a (λa=>T6 rfl L a b) λa=>CL a (λa=>Sr rfl L a b) λa=>CL a (λa=>KI rfl L a b) λa=>nomatch a),(λX j bl k L p e args a F o s r b=>by
  dsimp only[px]at a;by_cases n:p=1000
  ·subst n;rw[zac rfl]at a;exact M3 rfl L a r b
  rw[zab n]at a;clear n;cases a)⟩,⟨(λX j bl k L h c p q x l args a i g f d F o b=>ZH a (λa=>JT rfl L h c a g f d b) λa=>ZH a (λa=>Qu rfl L h c a g f d b) λa=>ZH a (λa=>KA rfl L h c a g f d b) λa=>nomatch a),(λX j bl k L h c p q x l args a i g f d F c1 c2 b=>ZG a (λa=>Nq rfl L h c a g f d b) λa=>nomatch a)⟩⟩
noncomputable abbrev xt(F:aY)(i a b:Nat)(c:ai):aY:=xm PT F i (mk F a b c)
meta def BL:aq:=["ValueError","abs","all","bool","int","isinstance","len","list","max","min","range","set","sorted","sum","tuple","zip"]
meta def CC:List (Str×GK):=[("MOST_CHOICES",GK.i 500),("MOST_HOUSES",GK.i 12),("MOST_LAYERS",GK.i 4)]
meta def lj:aY:=xm PT PT 0 λ_=>none
meta def lh:aY:=xt lj 200 2 4 (fD)
meta def hU:aY:=xt lh 201 2 4 (l9)
meta def xq:aY:=xt hU 212 2 8 (K5)
meta def fF:aY:=xm PT xq 210 λ_=>none
meta def cO:aY:=xt fF 99 2 4 (K8)
meta def jc:aY:=xt cO 98 2 2 (uE)
meta def jf:aY:=xt jc 0 1 1 (iW)
meta def eX:aY:=xt jf 43 2 2 (cT)
meta def hZ:aY:=xt eX 1 2 3 (dA)
meta def qr:aY:=xt hZ 3 1 1 (b7)
meta def jP:aY:=xt qr 12 2 2 (eK)
meta def fG:aY:=xt jP 44 1 3 (fm)
meta def jO:aY:=xt fG 9 1 3 (cV)
meta def gq:aY:=xt jO 10 2 2 (gO)
meta def g_:aY:=xt gq 14 1 4 (kg)
meta def ll:aY:=xt g_ 15 1 2 (eZ)
meta def qt:aY:=xt ll 45 1 4 (eU)
meta def fR:aY:=xt qt 11 2 2 (iG)
meta def cf:aY:=xt fR 16 1 1 (dx)
meta def bN:aY:=xt cf 17 1 1 (bQ)
meta def fb:aY:=xt bN 96 1 2 (uD)
meta def je:aY:=xt fb 2 2 3 (cX)
meta def h_:aY:=xt je 6 2 2 (oI 2)
meta def lg:aY:=xt h_ 101 2 6 (K7)
meta def jd:aY:=xt lg 41 1 2 (iV)
meta def hJ:aY:=xt jd 42 1 2 (fO)
meta def gv:aY:=xt hJ 100 1 4 (K3)
meta def d9:aY:=xt gv 102 2 8 (K6)
meta def cY:aY:=xt d9 103 1 2 (qV)
meta def gu:aY:=xm PT cY 253 (vF cY)
meta def i_:aY:=xt gu 254 2 4 (G_)
meta def jQ:aY:=xt i_ 252 2 7 (jL)
meta def Hv:aY:=xt jQ 208 2 5 (l8)
def t0:=xZ jc
def t1:=mH eX
def t2:=qF fb t1
def t3:=qE hZ t0 t1
def t6:=IL je (f:=2) t2.1
def t9:=nP fG t1
def t10:=vy jO
def t41:=xY lg t9 t10
def t42:=sX jd t2 t41
def t43:=sY jf t0
def t11:=DP qt t43
def t12:=NV qr t3 t43
def t44:=IP jP rfl rfl rfl
def t14:=Bp gq t9 t10 rfl
def t15:=NU g_ t14
def t45:=DQ ll t0 t12 t15 t44
def t16:=sW fR t11 (QL t45)
def y16:∀d,Lj d->(cf 16) [d]=ok (.bl false):=z16 fR t45
def WJ:=nQ cf t16
def Mh:∀e a,Rb e a->(bN 17) a=↥(.error e):=r17 cf y16
def WI:=YO bN WJ
def Ug:∀e a,Q9 e a->(fb 96) a=↥(.error e):=r96 bN WJ Mh
def Yr:=YR fF rfl
def t98:=YS cO Yr
def Ue:∀e a,RY e a->(jc 98) a=↥(.error e):=r98 cO Yr
def YD:=YK hJ
def YC:=YQ h_ t6 rfl
def YB:=YN gv ⟨rfl,rfl,rfl,rfl⟩ t42 YD YC rfl rfl
def YA:=YL d9 WI t98 YB rfl
def OR:∀e a,ql e a->(cY 103) a=↥(.error e):=Y4 d9 WI rfl Ug Ue
def Yz:=NX lj
def Yy:=IQ lh
def Yw:=YM hU ⟨rfl,rfl,rfl,rfl⟩ Yy rfl
def Yv:=DN i_ rfl rfl rfl
def Yt:=YT gu rfl rfl
def Yu:=NW cY YA OR
def Yx:=IM jQ rfl rfl Yv Yt
def BI:∀a:ae,(mk Hv 1 6 (l_)) [.sc\(ak a)]=ok (.bl true):=Ua Hv ⟨Yz,Yw,Yx,Yu⟩
meta def Hr:List (Str×Bool):=[("ShareError",true),("NoBottom",false),("NoDrawing",true),("NoShares",false),("NoWeights",false),("NoWorths",false),("NoSize",false),("NoPair",false),("NoLot",false),("NoGuess",false),("NoGroups",false),("TooMany",false),("NoText",false),("NoLine",false)]
def Q8:alB (aE (top 53)) "_law_error" "_law_told" Hr=true:=by decide +kernel
def QV:X1 (top 53) "_law_error" "_law_told" Hr [false,true,false] [false,false,false] [false,false,false] [false,false,false] [false]:=.mk rfl ⇑6
meta def y6:List (Str×Bool):=[("ShareError",true),("NoBottom",false),("NoDrawing",false),("NoShares",false),("NoWeights",false),("NoWorths",false),("NoSize",false),("NoPair",false),("NoLot",false),("NoGuess",false),("NoGroups",false),("TooMany",true),("NoText",false),("NoLine",false)]
def Lb:alB (aE (top 53)) "_law_error" "_law_told" y6=true:=by decide +kernel
def KR:X1 (top 53) "_law_error" "_law_told" y6 [false,false,false] [false,false,false] [false,false,false] [false,false,false] [true]:=.mk rfl ⇑6
def kI:uS (fI (aE (top 40)) "TooMany" && !(("TooMany" : Str)==⇑9)) 10 "TooMany" (uE) (bC (top 40))=true:=by decide +kernel
def jk:KS (top 40) ["drawing","inner"] (O3 2 ["drawing","inner"]) [(99,"count_choices")] BL CC px (uE)=true:=by decide +kernel
def kH:uS (fI (aE (top 35)) "NoDrawing" && !(("NoDrawing" : Str)==⇑9)) 1 "NoDrawing" (bQ) (bC (top 35))=true:=by decide +kernel
def iC:KS (top 35) ["thing"] (O3 1 ["thing"]) [(16,"is_drawing")] BL CC px (bQ)=true:=by decide +kernel
def lu:uS (fI (aE (top 39)) "NoDrawing" && !(("NoDrawing" : Str)==⇑9)) 1 "NoDrawing" (uD) (bC (top 39))=true:=by decide +kernel
def kG:uS (fI (aE (top 39)) "TooMany" && !(("TooMany" : Str)==⇑9)) 10 "TooMany" (uD) (bC (top 39))=true:=by decide +kernel
def fC:KS (top 39) ["thing","drawing"] (O3 1 ["thing","drawing"]) [(17,"check_drawing")] BL CC px (uD)=true:=by decide +kernel
def sE:uS (fI (aE (top 45)) "NoDrawing" && !(("NoDrawing" : Str)==⇑9)) 1 "NoDrawing" (qV) (bC (top 45))=true:=by decide +kernel
def qy:uS (fI (aE (top 45)) "TooMany" && !(("TooMany" : Str)==⇑9)) 10 "TooMany" (qV) (bC (top 45))=true:=by decide +kernel
def k8:KS (top 45) ["drawings","everyone"] (O3 1 ["drawings","everyone"]) [(96,"check_layers"),(98,"check_bounds"),(102,"drawn_within")] BL CC px (qV)=true:=by decide +kernel
def pV:Vy ["_law_thing_here","_law_told","_law_error","e"] ["_law_thing_here"] (aE (top 55))=true:=by decide +kernel
def qh:∃d c b i h g f a1 a2 a3 v u t a c1 c2 s r q p o m l w x k j,(bC (top 55)=SV "_law_told" "_law_error" "_law_alone" "told" "none of these" d [c,b] i h g f a1 a2 a3 v u t a c1 c2 s r q p o m l w x k j/\(W3 (aE (top 55)) ["_law_thing_here","_law_told","_law_error","e"] "e" "_law_told" "_law_error" "_law_alone" 3 1 2&&(qj ⟨aE (top 55),["_law_thing_here","_law_told","_law_error","e"],λn=>D6 n [(103,"layered")],BL,CC,px⟩ XJ d&&Im XJ))=true)/\Ni "e" "_law_told" "_law_error" c=↥(("NoDrawing" : Str),("drawing" : Str))/\Ni "e" "_law_told" "_law_error" b=↥(("TooMany" : Str),("many" : Str)):=⟨_,_,_,_,_,_,_,_,_,_,_,_,_,_,_,_,_,_,_,_,_,_,_,_,_,_,_,⟨rfl,by decide +kernel⟩,rfl,rfl⟩
def QU:KS (top 58) ["_law_script","_law_drawings","_law_k","_law_number","_law_thing_here","_law_due"] ["_law_script"] [(200,"_law_cell"),(208,"_law_thing"),(212,"_law_drawing"),(253,"_law_refusal")] BL CC px (l_)=true:=by decide +kernel
def all_mk{l:x2}{w:World}{K:av}{h:Heap}{mg:aU}{fa g0 g1 c Z V U T S R Q n b m k:Addr}{A x t:Value}(X:K.In h)(G:h.Ns cm mg)(O:mg "law" = ↥(.ref fa))
  (a0:Df K "_law_cell" (top 47))
  (a1:Df K "_law_frac" (top 48))
  (a2:Df K "_law_drawing" (top 51))
  (a3:Df K "_law_alone" (top 53))
  (a4:Df K "count_choices" (top 41))
  (a5:Df K "check_bounds" (top 40))
  (a6:Df K "is_whole" (top 16))
  (a7:Df K "are_houses" (top 27))
  (a8:Df K "common_divisor" (top 17))
  (a9:Df K "is_fraction" (top 19))
  (a10:Df K "is_row" (top 29))
  (a11:Df K "rows_rise" (top 30))
  (a12:Df K "common_bottom" (top 21))
  (a13:Df K "tops_over" (top 22))
  (a14:Df K "weighed_lots" (top 31))
  (a15:Df K "sums_to_one" (top 32))
  (a16:Df K "is_drawn" (top 33))
  (a17:Df K "is_lot" (top 28))
  (a18:Df K "is_drawing" (top 34))
  (a19:Df K "check_drawing" (top 35))
  (a20:Df K "check_layers" (top 39))
  (a21:Df K "fraction_of" (top 18))
  (a22:Df K "frac_times" (top 20))
  (a23:Df K "chosen_rows" (top 43))
  (a24:Df K "over_one" (top 23))
  (a25:Df K "frac_total" (top 24))
  (a26:Df K "rows_behind" (top 42))
  (a27:Df K "drawn_within" (top 44))
  (a28:Df K "layered" (top 45))
  (a29:Df K "_law_refusal" (top 55))
  (a30:Df K "_law_all_lots" (top 56))
  (a31:Df K "_law_spoilt" (top 54))
  (a32:Df K "_law_thing" (top 57))
  (a33:Df K "law" (top 58))
  (z:bO (λy=>eD K cm y=↥none) BL)
  (q0:eD K cm "MOST_CHOICES" = ↥↥A) (r0:RelV ↑500 A)
  (q1:eD K cm "MOST_HOUSES" = ↥↥x) (r1:RelV ↑12 x)
  (q2:eD K cm "MOST_LAYERS" = ↥↥t) (r2:RelV ↑4 t)
  (e0:eD K cm "ShareError" = ↥↥(.ref g0))
  (e1:eD K cm "NoBottom" = ↥↥(.ref g1))
  (e2:eD K cm "NoDrawing" = ↥↥(.ref c))
  (e3:eD K cm "NoShares" = ↥↥(.ref Z))
  (e4:eD K cm "NoWeights" = ↥↥(.ref V))
  (e5:eD K cm "NoWorths" = ↥↥(.ref U))
  (e6:eD K cm "NoSize" = ↥↥(.ref T))
  (e7:eD K cm "NoPair" = ↥↥(.ref S))
  (e8:eD K cm "NoLot" = ↥↥(.ref R))
  (e9:eD K cm "NoGuess" = ↥↥(.ref Q))
  (e10:eD K cm "NoGroups" = ↥↥(.ref n))
  (e11:eD K cm "TooMany" = ↥↥(.ref b))
  (e12:eD K cm "NoText" = ↥↥(.ref m))
  (e13:eD K cm "NoLine" = ↥↥(.ref k))
  (v1_0:ci K (.ref c) (.ref g0)=↥true) (v1_1:ci K (.ref c) (.ref g1)=↥false) (v1_2:ci K (.ref c) (.ref c)=↥true) (v1_3:ci K (.ref c) (.ref Z)=↥false) (v1_4:ci K (.ref c) (.ref V)=↥false) (v1_5:ci K (.ref c) (.ref U)=↥false) (v1_6:ci K (.ref c) (.ref T)=↥false) (v1_7:ci K (.ref c) (.ref S)=↥false) (v1_8:ci K (.ref c) (.ref R)=↥false) (v1_9:ci K (.ref c) (.ref Q)=↥false) (v1_10:ci K (.ref c) (.ref n)=↥false) (v1_11:ci K (.ref c) (.ref b)=↥false) (v1_12:ci K (.ref c) (.ref m)=↥false) (v1_13:ci K (.ref c) (.ref k)=↥false)
  (vv1:ci K (.ref c) (.type "ValueError")=↥true) (xx1:nt K c Na "ValueError.__new__" = true)
  (w1_1:kP K (.ref c) "__getattribute__" = ↥↥(.builtin "BaseException.__getattribute__")) (w2_1:kP K (.ref c) "__getattr__" = ↥none) (w3_1:kP K (.ref c) "__class__" = ↥↥(.builtin "object.__class__")) (w4_1:ja K c (.type "BaseException")=↥true) (w5_1:ja K c (.type "object")=↥true)
  (v10_0:ci K (.ref b) (.ref g0)=↥true) (v10_1:ci K (.ref b) (.ref g1)=↥false) (v10_2:ci K (.ref b) (.ref c)=↥false) (v10_3:ci K (.ref b) (.ref Z)=↥false) (v10_4:ci K (.ref b) (.ref V)=↥false) (v10_5:ci K (.ref b) (.ref U)=↥false) (v10_6:ci K (.ref b) (.ref T)=↥false) (v10_7:ci K (.ref b) (.ref S)=↥false) (v10_8:ci K (.ref b) (.ref R)=↥false) (v10_9:ci K (.ref b) (.ref Q)=↥false) (v10_10:ci K (.ref b) (.ref n)=↥false) (v10_11:ci K (.ref b) (.ref b)=↥true) (v10_12:ci K (.ref b) (.ref m)=↥false) (v10_13:ci K (.ref b) (.ref k)=↥false)
  (vv10:ci K (.ref b) (.type "ValueError")=↥true) (xx10:nt K b Na "ValueError.__new__" = true)
  (w1_10:kP K (.ref b) "__getattribute__" = ↥↥(.builtin "BaseException.__getattribute__")) (w2_10:kP K (.ref b) "__getattr__" = ↥none) (w3_10:kP K (.ref b) "__class__" = ↥↥(.builtin "object.__class__")) (w4_10:ja K b (.type "BaseException")=↥true) (w5_10:ja K b (.type "object")=↥true)
  (m1_0:ja K b (.ref c)=↥false) :
  ∃fd:hA,(∀(s:am) (v:Value),UQ s fd ⟨[v],[]⟩ [("_law_script",v)])/\∀base:Heap,K.In base->base.Ns cm mg->fQ l.prog w K mg base uR 35 fa fd ["_law_script"] (Hx K 1 tO):=by
 ext(⟨f,fd,Fu,a⟩:a33)(e:O.symm.trans (abZ X G a));cases e;ext(⟨oc,od,kV,dc,pm,an,cd,ct,sl,rfl,_,_⟩:id Fu.ex)(Y:bO.nn X G z);have j:∃u,mg "MOST_CHOICES" = ↥u/\xp K (GK.i 500) u:=⟨_,abZ X G q0,r0⟩
 have g:∃u,mg "MOST_HOUSES" = ↥u/\xp K (GK.i 12) u:=⟨_,abZ X G q1,r1⟩
 have d:∃u,mg "MOST_LAYERS" = ↥u/\xp K (GK.i 4) u:=⟨_,abZ X G q2,r2⟩
 refine⟨hP "law" "law" (eJ (top 58)) (bC (top 58)) (aE (top 58)) .none kV dc pm an cd ct,λs v=>.of_eq rfl,λbase KB GB=>?_⟩;ext(N:@en7 l.prog w K h base mg BL CC px PT X G pr Y ⟨j,g,d,eL⟩);have M:XC K c:=⟨w1_1,w2_1,w3_1,w4_1,w5_1,by
  unfold ja at w5_1;cases q:Ev K c with
  |none=>rw[q]at w5_1;cases w5_1
  |some _=>rfl⟩
 have E:qp "NoDrawing" c mg base:=zU KB GB e2 xx1;have X6:XC K b:=⟨w1_10,w2_10,w3_10,w4_10,w5_10,by
  unfold ja at w5_10;cases q:Ev K b with
  |none=>rw[q]at w5_10;cases w5_10
  |some _=>rfl⟩
 have L:qp "TooMany" b mg base:=zU KB GB e11 xx10;have Y3:uK b c false base:=BA KB xx10 m1_0;ext(E0:N 1 lj a0 ["_law_script","_law_k","_law_cell_here","_law_number"] 2 [] (fD) eL)(E1:N 2 lh a1 ["_law_top","_law_bottom","_law_one","_law_other"] 2 [] (l9) eL)(E2:N 3 hU a2 ["_law_number","_law_most","_law_many","_law_count","_law_weights","_law_k","_law_lot","_law_whole"] 2 [(201,"_law_frac")] (K5) ⟨E1.u,eL⟩)(Wy:VO (P:=l.prog) (w:=w) (base:=base) X G (l:=Hr) M 4 a3 ⟨⟨_,e0,v1_0⟩,⟨_,e1,v1_1⟩,⟨_,e2,v1_2⟩,⟨_,e3,v1_3⟩,⟨_,e4,v1_4⟩,⟨_,e5,v1_5⟩,⟨_,e6,v1_6⟩,⟨_,e7,v1_7⟩,⟨_,e8,v1_8⟩,⟨_,e9,v1_9⟩,⟨_,e10,v1_10⟩,⟨_,e11,v1_11⟩,⟨_,e12,v1_12⟩,⟨_,e13,v1_13⟩,eL⟩ vv1 (Y.mem _ ⇑4) (Y.mem _ ⇑4) (Y.mem _ ⇑4) Q8 QV ⇑4 rfl)(Wx:VO (P:=l.prog) (w:=w) (base:=base) X G (l:=y6) X6 4 a3 ⟨⟨_,e0,v10_0⟩,⟨_,e1,v10_1⟩,⟨_,e2,v10_2⟩,⟨_,e3,v10_3⟩,⟨_,e4,v10_4⟩,⟨_,e5,v10_5⟩,⟨_,e6,v10_6⟩,⟨_,e7,v10_7⟩,⟨_,e8,v10_8⟩,⟨_,e9,v10_9⟩,⟨_,e10,v10_10⟩,⟨_,e11,v10_11⟩,⟨_,e12,v10_12⟩,⟨_,e13,v10_13⟩,eL⟩ vv10 (Y.mem _ ⇑4) (Y.mem _ ⇑4) (Y.mem _ ⇑4) Lb KR ⇑4 rfl)(E4:N 5 fF a4 ["inner","groups","count","group"] 2 [] (K8) eL)(E5:N 6 cO a5 ["drawing","inner"] 2 [(99,"count_choices")] (uE) ⟨E4.u,eL⟩ jk)(Wj:RS (P:=l.prog) (w:=w) X G L 10 6 cO (sD 10) (sD 10 98) a5 jk kI (pr _ _ _) Y ⟨j,g,d,eL⟩ ⟨E4.u,eL⟩ ⟨W7,eL⟩ (λD h=>VJ (Φ:=cO) (Ψ:=sD 10) Yr h))(E6:N 7 jc a6 ["thing"] 1 [] (iW) eL)(E7:N 8 jf a7 ["thing","many"] 2 [(0,"is_whole")] (cT) ⟨E6.u,eL⟩)(E8:N 9 eX a8 ["one","other","rest"] 2 [] (dA) eL)(E9:N 10 hZ a9 ["thing"] 1 [(0,"is_whole"),(1,"common_divisor")] (b7) ⟨E6.u,E8.u,eL⟩)(E10:N 11 qr a10 ["thing","many"] 2 [(3,"is_fraction"),(43,"are_houses")] (eK) ⟨E9.u,E7.u,eL⟩)(E11:N 12 jP a11 ["rows","ahead","behind"] 1 [] (fm) eL)(J:N 13 fG a12 ["some","bottom","part"] 1 [(1,"common_divisor")] (cV) ⟨E8.u,eL⟩)(I:N 14 jO a13 ["some","bottom"] 2 [] (gO) eL)(E14:N 15 gq a14 ["rows","chances","lots","bottom"] 1 [(9,"common_bottom"),(10,"tops_over")] (kg) ⟨J.u,I.u,eL⟩)(E15:N 16 g_ a15 ["rows","weighed"] 1 [(14,"weighed_lots")] (eZ) ⟨E14.u,eL⟩)(E16:N 17 ll a16 ["thing","many","rows","row"] 1 [(0,"is_whole"),(12,"is_row"),(15,"sums_to_one"),(44,"rows_rise")] (eU) ⟨E6.u,E10.u,E15.u,E11.u,eL⟩)(E17:N 18 qt a17 ["thing","many"] 2 [(43,"are_houses")] (iG) ⟨E7.u,eL⟩)(H:N 19 fR a18 ["thing"] 1 [(11,"is_lot"),(45,"is_drawn")] (dx) ⟨E17.u,E16.u,eL⟩)(r:N 20 cf a19 ["thing"] 1 [(16,"is_drawing")] (bQ) ⟨H.u,eL⟩ iC)(Wm:RS (P:=l.prog) (w:=w) X G E 1 20 cf (sD 1) (sD 1 17) a19 iC kH (pr _ _ _) Y ⟨j,g,d,eL⟩ ⟨H.u,eL⟩ ⟨W7,eL⟩ (λD h=>VL (Φ:=cf) (Ψ:=sD 1) y16 h))(p:N 21 bN a20 ["thing","drawing"] 1 [(17,"check_drawing")] (uD) ⟨r.u,eL⟩ fC)(Wl:RS (P:=l.prog) (w:=w) X G E 1 21 bN (sD 1) (sD 1 96) a20 fC lu (pr _ _ _) Y ⟨j,g,d,eL⟩ ⟨r.u,eL⟩ ⟨λ_=>Wm.u,eL⟩ (λD h=>QA (Φ:=bN) (Ψ:=sD 1) WJ (λ_ h=>h) h))(Ra:RS (P:=l.prog) (w:=w) X G L 10 21 bN (sD 10) (sD 10 96) a20 fC kG (pr _ _ _) Y ⟨j,g,d,eL⟩ ⟨r.u,eL⟩ ⟨(λh=>noE h),eL⟩ (λD h=>QA (Φ:=bN) (Ψ:=sD 10) WJ (λ_ h=>h) h))(F:N 22 fb a21 ["top","bottom","divisor"] 2 [(1,"common_divisor")] (cX) ⟨E8.u,eL⟩)(E22:N 23 je a22 ["one","other"] 2 [(2,"fraction_of")] (oI 2) ⟨F.u,eL⟩)(E23:N 24 h_ a23 ["chance","layers","chosen","rows","longer","made"] 2 [(6,"frac_times")] (K7) ⟨E22.u,eL⟩)(E24:N 25 lg a24 ["some","bottom"] 1 [(9,"common_bottom"),(10,"tops_over")] (iV) ⟨J.u,I.u,eL⟩)(E25:N 26 jd a25 ["some","tops"] 1 [(2,"fraction_of"),(41,"over_one")] (fO) ⟨F.u,E24.u,eL⟩)(E26:N 27 hJ a26 ["inner","ahead","told","drawing"] 1 [] (K3) eL)(o:N 28 gv a27 ["drawing","inner","layers","ways","chance","groups","part","lot"] 2 [(42,"frac_total"),(100,"rows_behind"),(101,"chosen_rows")] (K6) ⟨E25.u,E26.u,E23.u,eL⟩)(E28:N 29 d9 a28 ["drawings","everyone"] 1 [(96,"check_layers"),(98,"check_bounds"),(102,"drawn_within")] (qV) ⟨p.u,E5.u,o.u,eL⟩ k8)(Wk:RS (P:=l.prog) (w:=w) X G E 1 29 d9 (sD 1) (sD 1 103) a28 k8 sE (pr _ _ _) Y ⟨j,g,d,eL⟩ ⟨p.u,E5.u,o.u,eL⟩ ⟨λ_=>Wl.u,(λh=>noE h),W7,eL⟩ (λD h=>Gk (Φ:=d9) (Ψ:=sD 1) WI rfl (λ_ h=>h) (λ_ h=>h) h))(Q_:RS (P:=l.prog) (w:=w) X G L 10 29 d9 (sD 10) (sD 10 103) a28 k8 qy (pr _ _ _) Y ⟨j,g,d,eL⟩ ⟨p.u,E5.u,o.u,eL⟩ ⟨λ_=>Ra.u,λ_=>Wj.u,W7,eL⟩ (λD h=>Gk (Φ:=d9) (Ψ:=sD 10) WI rfl (λ_ h=>h) (λ_ h=>h) h))(⟨_,C,B,_,_,_,_,_,_,_,_,_,_,_,_,_,_,_,_,_,_,_,_,_,_,_,_,hT,z0,z1⟩:qh);have H0:Hu mg base (aE (top 55)) _ "e" "_law_told" "_law_error" "drawing" [C,B]:=.here z0 E ⇑6;have H1:Hu mg base (aE (top 55)) _ "e" "_law_told" "_law_error" "many" [C,B]:=.next z0 E Y3 ⇑6 (.here z1 L ⇑6);have E29:=enW (P:=l.prog) (w:=w) (Wd:=M9) X G 3 1 2 30 cY sD (vF cY) a29 pV hT (pr _ _ _) Y ⟨j,g,d,eL⟩ ⟨E28.u,eL⟩ H0 Wy.u (λe s q=>by
  ext((⟨rfl,rfl⟩|⟨rfl,rfl⟩):C8 q)
  ·exact⟨_,H0,Wy.u,⟨λ_=>Wk.u,eL⟩⟩
  ·exact⟨_,H1,Wx.u,⟨λ_=>Q_.u,eL⟩⟩) hmK
 ext(E30:N 31 gu a30 ["_law_many","_law_count","_law_lots","_law_house"] 2 [] (G_) eL)(E31:N 32 i_ a31 ["_law_drawing_here","_law_number","_law_many","_law_rows","_law_chance","_law_lot","_law_some"] 2 [] (jL) eL)(E32:N 33 jQ a32 ["_law_drawings","_law_number","_law_mode","_law_at","_law_spoilt_here"] 2 [(252,"_law_spoilt"),(254,"_law_all_lots")] (l8) ⟨E31.u,E30.u,eL⟩);exact enL 34 Hv tO Fu QU (pr _ _ _) Y ⟨j,g,d,eL⟩ ⟨E0.u,E32.u,E2.u,E29.u,eL⟩ (EX λns _=>(yd _ _ (BI ns)).2)
def walk{l:x2}{q:aG}{loose:aq}{p:(aU)->Heap->Prop}{c:World->Heap->Prop}{d:DefRec}{K:Params->av}(hn:l.most=↥63)(r:d.params.defaults=[])
  (j:∀(w:World) (h:Heap),c w h->(K w.params).In h)
  (F:∀(w:World) (mg:aU) (fa:Addr) (h:Heap),(K w.params).In h->h.Ns cm mg->mg d.name=↥(.ref fa) ->
   ∃b:hA,(∀(s:am) (u:Value),UQ s b ⟨[u],[]⟩ [("_law_script",u)])/\∀base:Heap,(K w.params).In base->base.Ns cm mg->fQ l.prog w (K w.params) mg base uR 35 fa b ["_law_script"] (Hx (K w.params) 1 tO)) :
  Xg q loose p c l.row.toRowW d [] (λf e=>Tk f e) :=
 L2.Ia (n:=63) (k:=35) (x:="_law_script") (CX:=λ_=>uR) (sp:=λw=>Hx (K w.params) 1 tO) hn ⇑4 r ⟨rfl,by decide,by decide⟩ j F (λw H a g i o m=>ON (K w.params) H a g tO (JA i) o m) λ_ _ _ _ _ z=>z
end Asm
end
open PySem PySem.W PyProof.Rows
set_option maxRecDepth 100000 in
set_option maxHeartbeats 0 in
theorem PySem.Challenge.cw_sharesample_k47_refused_layers_holds : PySem.Challenge.rw_sharesample_k47_refused_layers.Holds := by
 w_on;o_law;k_head;(case hw=>w_witness2)
 k_fill
 refine Asm.walk (l:=PySem.Challenge.rw_sharesample_k47_refused_layers) rfl rfl (fun w h Y=>PySem.W.kIn_of Y) ?F
 case F =>
  intro w mg fa h KX G hmg
  refine' Asm.all_mk KX G hmg ?a0 ?a1 ?a2 ?a3 ?a4 ?a5 ?a6 ?a7 ?a8 ?a9 ?a10 ?a11 ?a12 ?a13 ?a14 ?a15 ?a16 ?a17 ?a18 ?a19 ?a20 ?a21 ?a22 ?a23 ?a24 ?a25 ?a26 ?a27 ?a28 ?a29 ?a30 ?a31 ?a32 ?a33 ?zz ?q0 ?r0 ?q1 ?r1 ?q2 ?r2 ?e0 ?e1 ?e2 ?e3 ?e4 ?e5 ?e6 ?e7 ?e8 ?e9 ?e10 ?e11 ?e12 ?e13 ?v1_0 ?v1_1 ?v1_2 ?v1_3 ?v1_4 ?v1_5 ?v1_6 ?v1_7 ?v1_8 ?v1_9 ?v1_10 ?v1_11 ?v1_12 ?v1_13 ?vv1 ?xx1 ?w1_1 ?w2_1 ?w3_1 ?w4_1 ?w5_1 ?v10_0 ?v10_1 ?v10_2 ?v10_3 ?v10_4 ?v10_5 ?v10_6 ?v10_7 ?v10_8 ?v10_9 ?v10_10 ?v10_11 ?v10_12 ?v10_13 ?vv10 ?xx10 ?w1_10 ?w2_10 ?w3_10 ?w4_10 ?w5_10 ?m1_0
  case a0 | a1 | a2 | a3 | a4 | a5 | a6 | a7 | a8 | a9 | a10 | a11 | a12 | a13 | a14 | a15 | a16 | a17 | a18 | a19 | a20 | a21 | a22 | a23 | a24 | a25 | a26 | a27 | a28 | a29 | a30 | a31 | a32 | a33 =>
   refine' DI.dmk ?x ?y ?z ?w
   case x | y | z | w=>k_is
  (case zz=>refine' ⟨?_,?_,?_,?_,?_,?_,?_,?_,?_,?_,?_,?_,?_,?_,?_,?_,trivial⟩ <;> show PySem.W.nsIn _ _ _ = some none <;> k_is)
  (case q0=>k_is);(case r0=>exact ⟨_,rfl⟩)
  (case q1=>k_is);(case r1=>exact ⟨_,rfl⟩)
  (case q2=>k_is);(case r2=>exact ⟨_,rfl⟩)
  (case e0=>k_is)
  (case e1=>k_is)
  (case e2=>k_is)
  (case e3=>k_is)
  (case e4=>k_is)
  (case e5=>k_is)
  (case e6=>k_is)
  (case e7=>k_is)
  (case e8=>k_is)
  (case e9=>k_is)
  (case e10=>k_is)
  (case e11=>k_is)
  (case e12=>k_is)
  (case e13=>k_is)
  case v1_0 | v1_1 | v1_2 | v1_3 | v1_4 | v1_5 | v1_6 | v1_7 | v1_8 | v1_9 | v1_10 | v1_11 | v1_12 | v1_13=>kit_is
  (case vv1=>kit_is)
  (case xx1=>k_exc)
  case w1_1 | w2_1 | w3_1 | w4_1 | w5_1=>k_is
  case v10_0 | v10_1 | v10_2 | v10_3 | v10_4 | v10_5 | v10_6 | v10_7 | v10_8 | v10_9 | v10_10 | v10_11 | v10_12 | v10_13=>kit_is
  (case vv10=>kit_is)
  (case xx10=>k_exc)
  case w1_10 | w2_10 | w3_10 | w4_10 | w5_10=>k_is
  (case m1_0=>k_is)
