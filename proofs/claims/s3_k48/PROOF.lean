import PyProof.Rows.All
import Wide.All
import OpenK.AllK
import Wide.FinOn
import Lean
import PyProof.EqAt
import PyProof.EqKinds
import PyProof.TupleCall
import PyProof.NeKinds
import KE.BitLaws
import PyProof.SumWalkG
import PyProof.ConsumeWalk
import PyProof.WalksMore
import KE.KSortedM
import PyProof.Rows.SetFrom
import KE.KUnpack
import PyProof.CompUse
import PyProof.ZipIter
import PyProof.SliceMore
import PyProof.SliceList
import PyProof.ListRange
import KE.KSortTup
import PyProof.DictRoadsH
import PyProof.DictKinds
import KE.KSortAsk
import PyProof.DictIter
import PyProof.Rows.DictUnroll
import KE.KDictSum
import PyProof.DictItems
import PyProof.DictItemsLoops
import PyProof.DictValues
import PyProof.DictWalks
import PyProof.TupleOfGen
import PyProof.TupleOfSeq
import PyProof.NsDelKeeps
import PyProof.ExcBaseAll.ValueError
import PyProof.ExcAttrAll.ValueError
import PyProof.Draws
import PyProof.EnumMake
import PyProof.Rows.TupDisplay
import KE.KDictList
import PySem.Challenge.RW_sharesample_k48_refused_drawings_within
set_option tactic.hygienic false
set_option bootstrap.genMatcherCode false
set_option genSizeOf false
set_option genSizeOfSpec false
set_option Elab.async false
set_option linter.all false
set_option maxRecDepth 100000
local macro_rules | `(tactic| left) => `(tactic| first | assumption | exact Nat.zero_le _ | exact Int.natCast_nonneg _ | exact Int.ofNat_lt.mpr (by assumption) | exact Nat.le_of_lt (by assumption) | exact Nat.le_trans (by assumption) (by assumption) | exact Nat.lt_of_lt_of_le (by assumption) (by assumption) | lia | omega)
local macro_rules|`(tactic|ext($p:rcasesPat:$e))=>`(tactic|rcases $e:term with $p:rcasesPat)|`(tactic|ext($p:rcasesPat:$e)$y $z*)=>`(tactic|(rcases $e:term with $p:rcasesPat;ext $y $z*))
local macro_rules|`(term|⋯)=>`(term|by left)
local macro_rules|`([$r,*]\$e)=>do let r<-r.getElems.mapM (λx=>match x with|`(-$y)=>`(Lean.Parser.Tactic.rwRule|<-$y:term)|_=>`(Lean.Parser.Tactic.rwRule|$(⟨x⟩):term));`(by rw[$r,*];exact $e)|`($x\$y)=>`(.lst $x $y)
local macro_rules|`(⇑[$r,*])=>do let r<-r.getElems.mapM (λx=>match x with|`(-$y)=>`(Lean.Parser.Tactic.rwRule|<-$y:term)|_=>`(Lean.Parser.Tactic.rwRule|$(⟨x⟩):term));`(by rw[$r,*])|`(⇑$e)=>`(by simpa using $e)
local macro_rules|`(↑$x)=>`(.int $x)
local macro_rules|`(↥$x)=>`(some $x)
set_option hygiene false
local macro_rules|`(⇑0)=>`(wpAny (model X.prog X.w) X.A)|`(⇑1)=>`(wpAny (model prog w) A)|`(⇑4)=>`((by decide))|`(⇑5)=>`((by simp))|`(⇑6)=>`((by decide +kernel))|`(⇑7)=>`((λ_=>False))|`(⇑8)=>`((λ_=>none))|`(⇑9)=>`(("__debug__" : Str))|`(⇑10)=>`((λ_ _ h=>h))
set_option hygiene true
local macro_rules|`(command|universe $x*)=>return Lean.mkNullNode (<-x.mapM λx=>`(def $x:ident:=0))
local macro_rules|`(command|meta def $i:declId $s:optDeclSig $v:declVal)=>`(noncomputable def $i:declId $s:optDeclSig $v:declVal)
local macro_rules|`(command|protected def $i:declId $s:optDeclSig $v:declVal)=>`(set_option tactic.hygienic true in def $i:declId $s:optDeclSig $v:declVal)
local macro_rules|`(command|nonrec def $i:declId $b* : $t $v:declVal)=>`(@[simp]theorem $i:declId $b* : $t $v:declVal)
noncomputable section
open List renaming mem_singleton->am,getElem?_eq_some_iff->bn,getElem?_map->bv,getElem?_eq_getElem->cb,getElem?_set_ne->ce,mem_cons->ci,replicate->cj,mem_append->c0,mem_map->dz,pairwise_append->dL,getElem?_eq_none->dV,getElem?_append_right->d6,getElem?_append_left->d7,range->eg,getElem?_set_self->eo,all_eq_true->fu,zipWith->f8,nodup_cons->gc,pairwise_iff_getElem->gr,mem_iff_getElem?->g8,mem_range->hA,mem_reverse->hF,getElem?_replicate->h9,toArray->iQ,mem_of_getElem?->ky,getElem?_mapIdx->kC,getElem?_zip_eq_some->lc,pairwise_cons->l7,length->mo,getElem?_take->nR,getElem?_drop->nZ,nodup_append->oy,range'->pp,getLast?->p0,take_append_drop->rM,mem_filter->rZ,map_eq_cons_iff->tr,getElem?_range->u6,mem_filterMap->wi,getElem?_set->ww,not_mem_nil->x2,getElem_mem->yq,map->Al,of_mem_zip->Bn,map_id->B1,lookup->Ch,length_map->Ci,getD->C2,set->Is,pairwise_mergeSort->Ix,map_take->IN,map_drop->IR,length_eq_zero_iff->IS,all->JJ,take_of_length_le->KP,take->ML,length_filter_le->MN,getElem?_toArray->MU,mem_cons_of_mem->Pi,getElem?_append->Po,mergeSort_perm->P3,map_eq_nil_iff->P5,zip_cons_cons->Sc,set_cons_succ->Sd,mem_cons_self->Se,length_mapIdx->Sg,findIdx?_cons->Sk,pairwise_map->T0,getElem_take->Uf,getElem_drop->Ul,foldl->Uo,range'_succ->WB,map_snd_zip->WF,getElem_zip->WP,filter_cons->W0,drop_length->W1,length_set->X2,foldl_cons->X3,find?_cons->X5,take_take->yad,nodup_nil->yae,any_cons->yap,length_map->zaa,size_toArray->zad,length_cons->zae,length_append->zaf,map_map->zag,append_assoc->zai,map_append->zak,map_cons->zal,lookup_cons->zam,length_take->zar,all_cons->zas,mem_cons->zau,append_nil->zav,not_mem_nil->zaw,drop_eq_getElem_cons->zax,nil_append->zay,sum_cons->zaz,replicate_succ->zaA,length_singleton->zaC,all_eq_true->zaL,mem_singleton->zaN,length_replicate->zaO,flatten_cons->zaQ,flatMap_cons->zaR,mem_cons_of_mem->zaS,drop_zero->zaT,all_map->zaU,filterMap_cons->zaV,length_nil->zaX,length_zip->zaY,length_set->zba,take_append_drop->zbc,reverse_reverse->zbe,getD_eq_getElem?_getD->zbg,reverse_append->zbj,mem_cons_self->zbm,length_drop->zbo,cons_append->zbp,range_eq_range'->zbr,take_zero->zbw,set_cons_zero->zbx,map_drop->zbB,mapM_toArray->zbC,nodup_append->zbD,length_range->zbE,map_nil->zbH,take_length->zbJ,all_toArray->zbQ,forIn_cons->zbS,filter_eq_nil_iff->zbV,mem_range->zbW,drop_drop->zbX,singleton_append->zbY,mem_cons_self->aam,mem_cons_of_mem->aap,mem_append_right->aay,getElem?_eq_getElem->aaE,map_congr_left->aaW,mem_append_left->aa0,mem_of_getElem?->aa3,getElem_mem->aa5,mergeSort_perm->abx,mem_map_of_mem->abD,mem_of_mem_take->abU,getElem?_set_self->acf,length_map->acx,pairwise_singleton->acE,nodup_nil->acG,idxOf_lt_length_of_mem->acO,ext_getElem->adx,mem_of_mem_drop->ady,getElem_idxOf->adJ,drop_eq_nil_of_le->adV,getElem_inj->ad0,perm_append_comm->ad3,take_sublist->aex,ext_getElem?->aey
open PySem renaming Shared->ap,starEach->cm,mainGlobals->cr,ExceptHandler->eF,Spec->f0,FuncData->hD,assignEach->hO,compareOp->j_,sysModules->kb,sizeLine_eq->kD,bootBuiltins->kE,behindInMarks->lf,swapsWith->mu,DictEntry->mB,Builtin->mX,foldedSetIterable->m8,Operator->nl,NameKind->nt,backTo->nw,swappedStores->nF,Comprehension->n7,sliceBounds->ol,pyNext->om,intKind->ov,codeAny->qS,pyIter->re,atKey_none_of_get->rj,storedH->r_,IsPair->tt,tupleKind->vb,rawInt->vi,letOwnedTupleGo->vj,Builtin->vl,Keyword->vv,binaryOp->v6,firstArgMember->wu,swapsWithSole->yz,bindArgs->y2,assign->zn,Value->zr,slot_list_getitem->C3,ExcAttrFacts->FS,wpAny_pyIter_zip->FV,wpAny_isInstance->FX,noFill_tuple_add->F0,bindName->GE,ZipApart->GM,wpAny_loadPart'->Kh,wpAny_ite_split->Ki,excClassObj->Kj,callerA->Kn,wpAny_fieldsOf->NM,isSubtype_stop->Os,dictSetDefault->OJ,wpAny_getItem_list_slice->Pv,isTrue->PB,seq_tuple_add->P7,assignInOrder->P_,list_append->Rn,call->Rs,Addr->RR,BindsTo->Tk,wpAny_nextOf_list_item->Tl,richCompare_meets_room->Tp,wpAny_pyNext_zip_item->Vi,wpAny_nextOf_list_end->Vl,wpAny_isTrue_Compare1->Vm,wpAny_isOneOf_keyiter->Vq,updateSeq->Vr,scanBound->Vu,concat_meets->VH,codeAny_handlers_test->VJ,builtinLookup_eq_fast->VM,wpAny_pyNext_zip_end->XP,wpAny_loadName_local->XQ,unbindBehindTheSuite->XT,boot_len->XX,wpAny_loadName_cell->X6,wpAny_isSubtype_exc->X7,wpAny_handleBy_cons->X9,storedH_new->Yb,UnaryOp->Zg,wpAny_pyIter_tuple->yai,wpAny_getItem_heap->yaj,setField->yak,GenState->yar,wpAny_pyIter_slot->yaw,wpAny_pyIter_list->yax,wpAny_Name->yay,wpAny_Call_method->yaz,typeLookup->yaB,checkCount->yaD,builtinsNs->yaE,wpAny_execs_cons->yaV,checkBuiltinCall->yaW,wpAny_bind->aaf,wpAny_pure->aak,wpAny_mono->aa1,wpAny_newObj_type->abH,wpAny_call_entry->abN,wpAny_holding->abT,wpAny_truthy_bool->abV,wpAny_loadPart_at->acz,wpAny_typeNameOfWhole_valiter->acC,mem_of_lookup->acF,wpAny_rule->acH,sizeLine_eq->acI,wpAny_Call_Name_kw->acK,wpAny_passesOwn->acP,wpAny_dictEntries->acR,wpAny_typeNameOf_valiter->acU,wpAny_callSpecial?_slot->acW,codeAny_builtin->acY,wpAny_typeNameOfWhole_keyiter->ac3,wpAny_execs_nil->adA,wpAny_dictEpoch->adD,tupleKind_room_in1->adG,wpAny_typeNameOf_keyiter->adH,wpAny_newList->adY,wpAny_attempt->adZ,wpAny_notOrdered_dict->ad4,wpAny_isOneOf_valiter->ad5,codeAny_mono->ad9,call_meets->aeb,codeAny_call_builtin->aed,wpAny_updateSeq->aee,wpAny_setField->aef,wpAny_field->aeg,wpAny_standAt->ael
open PySem.W renaming kitOne->bi,nsIn->eO,mroIn->gj,keepIn->hP,fnOf->hV,findIn->hY,excIn->lz,codeIn->rA,clsIn->ul,OpenLaw->wP,cellsFrom_some->Ev,hideAll_get->Kt,of_hideAll->L1,kas_mapM->PM,kat_one->RF,hideAll->RN,looks_findIn->VA,WalkO->VQ,Looks->VU,kia_one->acq,mg_of->acA
open PyProof.Rows renaming pendingOf->d5,seqObj->fY,SortSt->f7,SortKind->hW,IntsAre->im,pairsOf_toList->nf,pairsOf->sd,failedOf->se,callWith_builtin1->sw,AllBare->sB,boot_isinstance->um,wpS_lift->yy,assignInOrder_cons->zm,listItems_at->Do,envOfC->D0,entry_list_sort->Kk,slot_list_sort->Op,args_list_sort->O1,size_push'->Py,intBits_le->PD,listUpdate_at->P8,setArr->Vt,plain_sorted->Vv,entry_sorted->VG,args_sorted1->VP,kind_sorted->Ym,getElem?_mirror_all->YP,mirror->yal,bubble->yam,unpackItems_tuple->yaA,setPending->yaC,assignInOrder_nil->yaF,wpS_pure->yby,wpS_mono->ybz,wpS_modify->ybA,wpS_get->ybB,wpS_forRange->ybC,wpS_bind->ybD,subscriptTail_builtinR->ybE,lt_int->ybF,ge_int->ybG,callWith_type1->ybH,wpS_pure->aau,wpS_bind->aaB,wpS_forRange->abe,callWith_type1->abk,wpS_mono->acT,subscriptTail_builtinR->ac1,wpS_get->adz,wpS_modify->adK
open Rat renaming divInt->ei,intCast_lt_intCast->Lx,mk_eq_divInt->XV,intCast_inj->Zi,intCast_add->Zw,divInt_eq_div->zaE,intCast_natCast->zaF,intCast_eq_zero_iff->zaW
open PySem.Obj renaming mapSeq->ej,data_mapFields->oi,mapFields->qX,isFreed_of_fields->O4,data_mapDictKeys->PP,cls_mapFields->VV
open PySem.Value renaming ref->em,none->ft,type->fy,bool->lp,builtin->pc,notImplemented->Ls
open PySem.NameKind renaming free->eD,cell->sK
open Array renaming getElem?_toList->fx,getElem?_eq_none->hG,perm_iff_toList_perm->ip,getElem?_eq_getElem->kR,length_toList->uY,getElem_toList->NE,toList_map->Vd,toList_inj->Ve,toList->yav,length_toList->zan,toList_append->zaB,toList_push->zaI,toList_reverse->zbu,toList_setIfInBounds->zbA,getElem?_eq_getElem->acp
open Int renaming gcd->f6,not_lt->wT,natCast_ediv->An,natCast_mul->Db,mul_fdiv_cancel_left->J2,lt_iff_le_and_ne->P6,lt_or_gt_of_ne->Up,neg_mul_neg->yaf,mul_ne_zero->yag,toNat_natCast->zao,fdiv_eq_ediv_of_nonneg->zbf,natAbs_mul->zbn,natAbs_natCast->zby,le_trans->abP,le_of_lt->acv,le_refl->acS,mul_fdiv_cancel_left->acV,fmod_nonneg_of_pos->adX,fmod_lt_of_pos->aej
open PySem.Builtin.List renaming listExtendWith->g7,listTooLong->kw,listLengthHint->va,listSameRef->wq,listUpdate->wy,listItems->xL
open PySem.F renaming called_set->hX,plain_extend_loop->kx,slot_dict_keyiterator_next->li,slot_dict_setdefault->wv,args_dict_valueiterator_next_1->yu,slot_dict_getitem->zv,entry_extend_loop->zI,entry_dict_valueiterator_next->AC,type_list_append->A2,slot_dict_values->A4,plainAttrs_dict->C4,args_tuple_lt_2->C7,slot_dict_iter->E_,entry_tuple_lt->Fk,slot_zip_next->Ga,slot_dict_values_iter->Pt,excBase_ValueError->UF,slot_int_rmul->yaO,slot_dict_valueiterator_next->acw,args_tuple_add_2->adE,slot_list_append->adF,entry_tuple_add->adN,plainAttrs_list->adO,slot_tuple_add->adT,slot_tuple_lt->ad2,typeOf_object_class->ad6
open Option renaming map_eq_some_iff->io,bind_eq_some_iff->i8,isSome_iff_exists->oe,getD_none->R4,none->yan,map_some->zbT
open Bool renaming noConfusion->iv,or_eq_false_iff->tv,false_ne_true->SL,false_eq_true->SZ,not_eq_true'->U3,and_eq_true->XG,and_false->yah,false_or->yas,and_true->yat,and_self->yau,true_or->yaU,and_eq_true->zah,false_ne_true->zaj,false_eq_true->zaq,and_false->zat,false_and->zaJ,not_eq_true'->zbb,or_eq_true->zbk,or_true->zbs,true_and->zbz,eq_iff_iff->zbR,false_ne_true->aaj,false_eq_true->adI
open PySem.Heap renaming SameBut->i6,ExtBut->p6,get?_update_other->qZ,size_push->uo,lt_size->xi,FlyingW->xz,MadeExcOf->FM,get?_none_of_le->Ps,size_update->Xw,get?_push_of_some->aaq,lt_size->aas,get?_push_size->aaC,get?_update_self->abM,get?_update_other->acd
open PySem.Builtin.Dict_items renaming ownsTuple->i7,newIterator->UV,dictOf->U2
open Ne renaming symm->ja,symm->ada
open Nat renaming one_pos->jb,gcd->j8,not_lt->lZ,lcm->mA,add_sub_cancel'->vu,lt_of_le_of_lt->wp,lt_succ_of_lt->wS,lt_succ_self->Ag,le_of_not_lt->Aj,lt_one_iff->Gc,lt_of_add_lt_add_left->Ge,succ_add_eq_add_succ->GT,le_min->HS,gcd_pos_of_pos_right->H8,lt_irrefl->KB,add_sub_cancel_left->KM,sub_eq_zero_iff_le->Mx,lt_of_succ_lt_succ->MF,le_of_succ_le_succ->MH,le_mul_of_pos_left->MK,not_succ_le_zero->P2,one_mul->R8,add_lt_add_left->R9,add_le_add_left->R_,pos_of_ne_zero->TL,lt_of_lt_of_le->TW,not_le->VX,le_succ_of_le->Wp,le_of_lt_succ->Wr,min_eq_right->XY,le_add_right->X0,gcd_dvd_left->X1,min_le_left->yaa,min_eq_left->yab,div_le_self->yac,lcm_le_mul->yao,reduceAdd->yaJ,le_of_dvd->yaK,dvd_trans->yaL,zero_add->ybI,reduceLT->ybJ,ne_of_lt->ybK,ne_of_gt->ybL,mul_succ->ybM,lt_trans->ybN,lt_asymm->ybO,le_trans->ybP,le_total->ybQ,le_of_lt->ybR,gcd_comm->ybS,add_sub_cancel_left->zap,zero_add->zaD,add_assoc->zaG,min_eq_left->zaH,le_add_right->zaM,lt_of_le_of_lt->zaZ,add_mul->zbh,add_le_add_left->zbi,lt_of_lt_of_le->zbl,add_comm->zbq,ne_of_gt->zbt,add_lt_add_left->zbv,lt_of_add_lt_add_left->zbF,ne_of_lt->zbG,min_self->zbI,succ_add_eq_add_succ->zbK,min_eq_right->zbL,sub_self->zbM,max_eq_right->zbN,add_zero->zbO,le_trans->zbP,le_refl->zbU,mul_assoc->zbZ,mul_comm->zca,zero_max->zcb,le_of_lt->zcc,lt_of_lt_of_le->aao,le_refl->aat,le_trans->aav,ne_of_lt->aax,add_le_add_left->aaP,le_add_right->aaS,ne_of_gt->aaT,add_lt_add_left->aaY,lt_of_le_of_lt->aaZ,zero_le->aa6,exists_eq_add_of_le->aa7,lt_irrefl->aa8,lt_succ_self->abd,exists_eq_succ_of_ne_zero->abf,le_of_lt->abh,lt_succ_of_lt->abo,le_of_lt_succ->abp,pow_le_pow_right->abq,le_of_ble_eq_true->abF,lt_of_add_lt_add_left->abL,lt_or_ge->abO,lt_of_succ_lt->abW,le_antisymm->acr,add_le_add_right->acs,sub_le->acu,eq_zero_of_not_pos->acJ,lt_or_eq_of_le->acL,lt_of_le_of_ne->acM,pos_of_ne_zero->acN,sub_lt->acZ,le_succ_of_le->ac7,zero_lt_of_lt->ac8,le_of_succ_le->ac9,le_of_eq->adb,lt_trans->ade,add_le_add->adt,le_of_add_le_add_left->adC,lt_add_of_pos_right->adQ,lt_trichotomy->adR,sub_pos_of_lt->adS,le_succ->adU,lt_of_not_le->ad1,succ_le_succ->aeB,succ_pos->aeD,two_pos->aeE
open PySem.Builtin.SmallTypes renaming ownedTupleIsFree->jg,nextOf->r9
open PySem.Expr.Name renaming elim->kq
open ForInStep renaming yield->lm
open False renaming elim->lv
open PySem.Builtin.Dict renaming showsAll->l6,noArgs->ybU,keyAndDefault->ybV,dictSlotNone->ybW
open PySem.Expr renaming Name->ml
open PySem.Expr.Call renaming elim->mn
open PySem.Builtin.Int renaming intBits->mR,intTooBig->AH
open PySem.Expr.ListComp renaming elim->m3
open True renaming intro->nv
open PySem.Stmt.AugAssign renaming elim->ox
open PySem.Expr.Subscript renaming elim->oC
open PySem.Expr.Attribute renaming elim->o1
open PySem.Expr.Constant renaming elim->qY
open PySem.Expr.UnaryOp renaming elim->r4
open PySem.Expr.Compare renaming elim->r6
open PySem.Str renaming ofString->sh
open PySem.Stmt.Return renaming elim->tz
open PySem.Stmt.Assign renaming elim->uc
open PySem.Expr.BoolOp renaming elim->ut
open Option.some renaming inj->vr,inj->aaV
open PySem.Stmt.While renaming elim->wf
open PySem.SeqAt.EqAt renaming same->wh,of_refs->F6,int_int->F7
open PySem.Expr.Tuple renaming elim->wl
open PySem.Expr.BinOp renaming elim->wn
open PySem.Stmt.Expr renaming elim->wE
open PySem.Expr.List renaming elim->xA
open PySem.Stmt.For renaming elim->AT
open PySem.W.Looks renaming here->A1,ld->EQ,of_pure->yaI
open List.Pairwise renaming nil->Da,imp->yaM,filter->yaN
open PySem.SeqAt renaming RcAt->D6,RcNeAt->Kr,EqAt->Re
open Nat.succ renaming inj->FB
open PySem.Stmt.If renaming elim->F3
open PySem.Calls renaming callWith_builtin->Kf,Name_function_global->acQ,call_function_entry->adB,loadGlobal_global->adM,evalArgs_plain->ad_,spliced_cons->aeh,spliced_nil->aew
open Classical renaming not_not->KT,choose->No
open PySem.Around renaming under_plainId->K5
open PySem.IsL renaming update->Mk
open Function renaming comp_def->M2
open PySem.PassesOwn renaming never->O3
open List.Perm renaming trans->Pr,append_left->adu,append_right->adW
open Except.ok renaming inj->Sz
open PySem.Heap.SameBut renaming update->TD,refl->ybT,update->acb
open PyProof.Rows.IsTup renaming new->Xe
open PySem.Builtin.Frozenset renaming updateFrom->Xy
open PySem.Challenge renaming pw_sharesample_k48_refused_drawings_within->ZB
open PySem.Heap.IsSliceOf renaming new->yaq
open PySem.W.WShape renaming has->yaG
open PyProof.Rows.SortSt renaming mk'->yaH
open PySem.Env renaming blockKind->yaP
open PySem.CmpOp renaming NotIn->yaQ
open PySem.Builtin.Tuple renaming tupleHashOf->yaR,tupleCompareSizes->yaS
open PySem.Builtin.Range renaming rangeSize->yaT
open PySem.Walks renaming list->yaX
open PySem.SeqAt.RcNeAt renaming tuples->yaY,tuple_str->yaZ,tuple_none->ya0,tuple_list->ya1,tuple_int->ya2,tuple_bool->ya3,str_tuple->ya4,str_str->ya5,str_none->ya6,str_list->ya7,str_int->ya8,str_bool->ya9,none_tuple->ya_,none_str->yba,none_none->ybb,none_list->ybc,none_int->ybd,none_bool->ybe,lists_lengths->ybf,lists->ybg,list_tuple->ybh,list_str->ybi,list_none->ybj,list_int->ybk,list_bool->ybl,int_tuple->ybm,int_str->ybn,int_none->ybo,int_list->ybp,int_int->ybq,int_bool->ybr,bool_tuple->ybs,bool_str->ybt,bool_none->ybu,bool_list->ybv,bool_int->ybw,bool_bool->ybx
open List.cons renaming inj->acX
open Eq renaming symm->adL
open PySem.Code renaming quiet_builtin->aei
abbrev zab:=@if_neg
abbrev zac:=@if_pos
abbrev zaK:=@decide_eq_true
abbrev zaP:=@decide_eq_false
abbrev zbd:=@beq_self_eq_true
abbrev aag:=@of_decide_eq_true
abbrev aa2:=@congrArg
abbrev abg:=@decide_eq_true
abbrev abi:=@if_pos
abbrev acn:=@beq_self_eq_true
abbrev aea:=@decide_eq_false
abbrev aec:=@if_neg
abbrev aek:=@of_decide_eq_false
abbrev aeC:=@getElem?_pos
abbrev az:=List (List Int)
abbrev ae:=List Int
abbrev aR:=List Nat
abbrev ao:=List PySem.Str
abbrev aw:=List zr
abbrev aj:=List PySem.Expr
abbrev aX:=List RR
abbrev aP:=List PySem.Stmt
abbrev bA:=List Rat
abbrev bq:=Array zr
abbrev av:=PySem.W.Frag
abbrev aB:=zr->PySem.Shared->Prop
abbrev au:=List (RR×PySem.Obj)
abbrev ag:=RR->Prop
abbrev aT:=PySem.Str->Option zr
abbrev aG:=PySem.Program
abbrev aF:=PySem.Around
namespace L2
open PySem PySem.Spec PyProof.Rows
abbrev Key:=Sum Int Str
end L2
namespace L2
open PySem PySem.Spec PyProof.Rows
inductive V where
 |b0|bl (b:Bool)|int (i:Int)|str (x:Str)|Yp (b:Array UInt8)|Yd (b:UInt64)|ref (a:Addr)|ty (n:String)
 deriving DecidableEq
abbrev ah:=List V
def RelV:V->Value->Prop
 |.b0,u=>u=ft
 |.bl b,u=>u=lp b
 |.int i,u=>∃t,u=Value.int i t
 |.str x,u=>∃t,u=Value.str x t
 |.Yp b,u=>∃t,u=Value.bytes b t
 |.Yd b,u=>∃t,u=Value.float b t
 |.ref a,u=>u=em a
 |.ty n,u=>u=fy n
abbrev Vals:ah->aw->Prop:=Paired RelV
theorem Vals.length{xs:ah}{a:aw}(r:Vals xs a):xs.length=a.length:=Paired.length r
theorem Vals.get:∀{xs:ah} {a:aw} {i:Nat} {x:V},Vals xs a->xs[i]?=↥x->∃u,a[i]?=↥u/\RelV x u
 |_,_,_,_,.nil,e=>by simp at e
 |_,_,0,_,.cons r _,e=>by simp at e;subst e;exact⟨_,rfl,r⟩
 |_,_,i+1,x,.cons _ t,e=>by
  ext(⟨u,c,b⟩:Vals.get (i:=i) (x:=x) t ⇑e);exact⟨u,⇑c,b⟩
theorem Vals.set{x:V}{u:Value}(r:RelV x u):∀{xs:ah} {a:aw} (i:Nat),Vals xs a->Vals (xs.set i x) (a.set i u)
 |_,_,_,.nil=>.nil
 |_,_,0,.cons _ t=>.cons r t
 |_,_,i+1,.cons q t=>.cons q (Vals.set r i t)
theorem Vals.append:∀{xs a:ah} {b ws:aw},Vals xs b->Vals a ws->Vals (xs++a) (b++ws)
 |_,_,_,_,.nil,s=>s
 |_,_,_,_,.cons r t,s=>.cons r (Vals.append t s)
theorem Vals.take:∀{xs:ah} {a:aw} (n:Nat),Vals xs a->Vals (xs.take n) (a.take n)
 |_,_,0,_=>.nil
 |_,_,_+1,.nil=>.nil
 |_,_,n+1,.cons r t=>.cons r (Vals.take n t)
theorem Vals.drop:∀{xs:ah} {a:aw} (n:Nat),Vals xs a->Vals (xs.drop n) (a.drop n)
 |_,_,0,r=>r
 |_,_,_+1,.nil=>.nil
 |_,_,n+1,.cons _ t=>Vals.drop n t
def CO:Option V->Option Value->Prop
 |some v,↥u=>RelV v u
 |none,none=>True
 |_,_=>False
meta def kV:Key->V
 |.inl i=>.int i
 |.inr x=>.str x
inductive HO where
 |lst (xs:ah)|tup (xs:ah)|nC (lo hi:Int)|iF (o:Obj) (u:HO)|ext (φ:Heap->Prop)
abbrev Hp:=Addr->Option HO
meta def upd(H:Hp)(a:Addr)(o:HO):Hp:=λb=>if b=a then ↥o else H b
def aU{H:Hp}{a:Addr}{o:HO}:upd H a o a=↥o:=by unfold upd;rw[zac rfl]
def bt{H:Hp}{a b:Addr}{o:HO}(h:b≠a):upd H a o b=H b:=by unfold upd;rw[zab h]
def dX{H:Hp}{a b:Addr}{o:HO}(h:H a=↥o)(h':H b=none):a≠b:=by
 intro e;subst e;rw[h]at h';cases h'
section
def cQ(H:Hp)(h:Heap)(a:Addr):HO->Prop
 |.lst b=>b.length<=sizeLine/\∃(c:aw) (n:Nat),Vals b c/\h.get? a=some { cls:=.type "list",data:=.seq c.toArray n }
 |.tup b=>b.length<=sizeLine/\∃c:aw,Vals b c/\IsTup h a c.toArray
 |.nC g i=>∃t u v,h.get? a=some { cls:=.type "range",data:=.fields #[.int g t,.int i u,.int 1 v] }
 |.iF o u=>h.get? a=↥o/\cQ H h a u
 |.ext d=>d h/\(∃o,h.get? a=↥o)/\∀f e:Heap,d f->(∀o,f.get? a=↥o->e.get? a=↥o)->d e
def kj(H:Hp)(h:Heap):Prop:=∀a o,H a=↥o->cQ H h a o
end
section
variable {P:aG}{w:World}{H H':Hp}{h h':Heap}{a:Addr}{o:HO}
def gD(x:cQ H h a o):∃u,h.get? a=↥u:=by
 cases o with
 |lst b=>ext(⟨_,_,_,_,e⟩:x);exact⟨_,e⟩
 |tup b=>ext(⟨_,_,_,o,e,_⟩:x);exact⟨_,e⟩
 |nC d f=>ext(⟨_,_,_,e⟩:x);exact⟨_,e⟩
 |iF o u=>exact⟨_,x.1⟩
 |ext c=>exact x.2.1
def cQ.lt(x:cQ H h a o):a<h.objs.size:=(gD x).elim λ_ e=>aas e
def cQ.lO(x:cQ H h a o)(k:∀u,h.get? a=↥u->h'.get? a=↥u):cQ H' h' a o:=by
 induction o with
 |lst f=>ext(⟨z,b,n,r,e⟩:x);exact⟨z,b,n,r,k _ e⟩
 |tup f=>ext(⟨z,b,r,d,e,c⟩:x);exact⟨z,b,r,d,k _ e,c⟩
 |nC j l=>ext(⟨t,u,v,e⟩:x);exact⟨t,u,v,k _ e⟩
 |iF d u g=>exact⟨k _ x.1,g x.2⟩
 |ext i=>exact⟨x.2.2 _ _ x.1 k,x.2.1.imp k,x.2.2⟩
theorem kj.lt(x:kj H h)(e:H a=↥o):a<h.objs.size:=(x a o e).lt
def kj.fresh(x:kj H h)(e:h.objs.size<=a):H a=none:=by
 cases q:H a with
 |none=>rfl
 |some u=>exact absurd (aao (x.lt q) e) (aa8 _)
def kj.kept(x:kj H h)(k:∀b u,h.get? b=↥u->h'.get? b=↥u):kj H h':=λa o e =>
 (x a o e).lO (k a)
def kj.laid(x:kj H h)(k:∀b u,h.get? b=↥u->h'.get? b=↥u)(d:h.objs.size<=a)(new:cQ (upd H a o) h' a o):kj (upd H a o) h':=λb u e=>by
 ext(f:x.fresh d);by_cases c:b=a
 ·subst c;rw[aU]at e;cases e;exact new
 ·rw[bt c]at e;exact(x b u e).lO (k b)
end
def Rd(H:Hp)(a:Addr)(u:HO):Prop:=H a=↥u\/∃o,H a=↥(.iF o u)
variable {h:Heap}
def Rd.ok{H:Hp}{a:Addr}{u:HO}(r:Rd H a u)(x:kj H h):cQ H h a u:=by
 ext((r|⟨o,r⟩):r)
 ·exact x a u r
 ·ext(⟨_,q⟩:x a _ r);exact q
def Mut:Option HO->Prop
 |some (.lst _)=>True
 |some (.ext _)=>True
 |_=>False
section
variable {P:aG}{w:World}{H:Hp}{h h':Heap}{x e:Addr}{o':HO}
def kj.write(ok:kj H h)(k:∀b u,b≠x->h.get? b=↥u->h'.get? b=↥u)
  (new:cQ (upd H x o') h' x o'):kj (upd H x o') h':=λb u q=>by
 by_cases a:b=x
 ·subst a;rw[aU]at q;cases q;exact new
 ·rw[bt a]at q;exact(ok b u q).lO λv=>k b v a
end
structure Un(fs ex:aX)(H H':Hp)(h h':Heap):Prop where
 keep:∀b o,h.get? b=↥o->H b=none->b∉fs->b∉ex->h'.get? b=↥o
 slot:∀b o,h.get? b=↥o->H b=none->b∈fs->b∉ex->∃sl,h'.get? b=some { o with slots:=sl }
 free:∀b o,h.get? b=↥o->H b=none->b∉ex->H' b=none
 there:∀b o,h.get? b=↥o->b∉ex->∃o',h'.get? b=↥o'
 nP:∀b xs,H b=↥(.tup xs)->H' b=↥(.tup xs)
 m5:∀b o u,H b=↥(.iF o u)->H' b=↥(.iF o u)
section
variable {fs fs' ex ex':aX}{H H1 H2:Hp}{h h1 h2 h':Heap}{a x e:Addr}{o:HO}
def Un.any(u:Un fs ex H H1 h h1){b:Addr}{c:Obj}(q:h.get? b=↥c)(n:H b=none)(d:b∉ex):∃g,h1.get? b=some { c with slots:=g }:=by
 by_cases f:b∈fs
 ·exact u.slot b c q n f d
 ·exact⟨c.slots,u.keep b c q n f d⟩
def Un.kept(k:∀b u,h.get? b=↥u->h'.get? b=↥u):Un fs ex H H h h' :=
 ⟨λb c q _ _ _=>k b c q,λb c q _ _ _=>⟨c.slots,k b c q⟩,λ_ _ _ n _=>n,λb c q _=>⟨c,k b c q⟩,λ_ _ q=>q,λ_ _ _ q=>q⟩
def Un.refl:Un fs ex H H h h:=Un.kept λ_ _ q=>q
def Un.laid(k:∀b u,h.get? b=↥u->h'.get? b=↥u)(d:h.objs.size<=a)(hn:H a=none):Un fs ex H (upd H a o) h h' where
 keep:=λb u q _ _ _=>k b u q
 slot:=λb u q _ _ _=>⟨u.slots,k b u q⟩
 free:=λb u q n _=>[bt (zbG (zbl (xi q) d))]\n
 there:=λb u q _=>⟨u,k b u q⟩
 nP:=λb c q=>[bt (dX q hn)]\q
 m5:=λb u c q=>[bt (dX q hn)]\q
def Un.write(d:Mut (H x))(k:∀b u,b≠x->h.get? b=↥u->h'.get? b=↥u)(g:∃u,h'.get? x=↥u):Un fs ex H (upd H x o) h h':=by
 have f:∀b,H b=none->b≠x:=λb n z=>by subst z;rw[n]at d;exact d
 have i:∀b u,H b=↥u->¬ Mut ↥u->b≠x:=λb u q l z=>by subst z;rw[q]at d;exact l d
 refine⟨λb u q n _ _=>k b u (f b n) q,λb u q n _ _=>⟨u.slots,k b u (f b n) q⟩,λb u q n _=>[bt (f b n)]\n,λb u q _=>?_,
  λb j q=>[bt (i b _ q λz=>z)]\q,λb u j q=>[bt (i b _ q λz=>z)]\q⟩
 by_cases c:b=x
 ·subst c;exact g
 ·exact⟨u,k b u c q⟩
end
meta def Xi(h:Heap)(H:Hp):aX:=(eg h.objs.size).filter λa=>(H a).isSome
def uh(h:Heap)(H:Hp):Heap:=RN h (Xi h H)
def Cc(h:Heap)(H:Hp):(uh h H).objs.size=h.objs.size:=PySem.W.hideAll_size _ _
variable {o:Obj}
def FY{H:Hp}{b:Addr}(e:h.get? b=↥o)(n:H b=none):(uh h H).get? b=↥o :=
 Kt _ e λa=>by
  have q:(H b).isSome=true:=(rZ.mp a).2;rw[n]at q;simp at q
def JG{H:Hp}{b:Addr}(e:(uh h H).get? b=↥o):h.get? b=↥o/\H b=none:=by
 have a:h.get? b=↥o:=L1 (Xi h H) e;refine⟨a,?_⟩;cases q:H b with
 |none=>rfl
 |some x =>
  have c:b∈Xi h H:=rZ.mpr ⟨hA.mpr (aas a),by simp[q]⟩;have z:(uh h H).get? b=none:=PySem.W.hideAll_none (Xi h H) c;rw[z]at e;cases e
end L2
namespace L2
open PySem PySem.Spec PyProof.Rows
structure Mod(K:av)(mg:aT)(base:Heap):Prop where
 Z4:K.In base
 glob:base.Ns cr mg
 blt:∃mb,base.Ns yaE mb/\∀x:Str,x ≠ "__name__" -> mb x=kE x
 nolimit:base.NoLimit
structure Cx where
 prog:aG
 w:World
 K:av
 mg:aT
 base:Heap
 A:aF
 N:ao
 s₀:ap
 H₀:Hp
 env:Env
 outer:List Env
 stack:List Env
 ex:aX
 fn:Str->Bool
 calm:Bool
 pn:au
 xe:aB
meta def m6(l:List Env):aX:=l.filterMap (·.frame)
abbrev Cx.fs(X:Cx):aX:=m6 X.outer
def Nb(sc:Scope)(x:Str):Prop:=sc.names.lookup x=↥.local\/sc.names.lookup x=↥.cell\/sc.names.lookup x=↥.free
def Loc(sc:Scope)(x:Str):Prop:=sc.names.lookup x=↥.local\/sc.names.lookup x=↥.cell
def Look(env:Env)(h:Heap)(m:aT)(x:Str)(u:Value):Prop :=
 (env.kindOf x=↥.local/\m x=↥u)\/((env.kindOf x=↥.cell\/env.kindOf x=↥.free)/\∃c,env.cells.lookup x=↥c/\h.IsCell c ↥u)
structure Cx.Ok(X:Cx):Prop where
 mod:Mod X.K X.mg X.base
 kind:X.env.scope.kind=.function
 glob:X.env.globals=cr
 blt:X.env.builtins=yaE
 above:X.s₀.heap.objs.size<=X.env.locals
 inj:∀x y c,X.env.cells.lookup x=↥c->X.env.cells.lookup y=↥c->x=y
 has:∀x,(X.env.kindOf x=↥.cell\/X.env.kindOf x=↥.free)->∃c,X.env.cells.lookup x=↥c
 M5:∀x c,X.fn x=true->X.env.cells.lookup x=↥c->X.s₀.heap.objs.size<=c
 hd:X.calm=true->X.A.handled=none
 frames:X.A.frames=↥X.stack
 NL:X.stack=X.outer\/(X.stack=X.env::X.outer/\X.env.frame=↥X.env.locals)
 Wb:∀b∈X.ex,b≠X.env.locals/\∀x c,X.env.cells.lookup x=↥c->c≠b
 bs:∀b o,X.base.get? b=↥o->X.s₀.heap.get? b=↥o/\X.H₀ b=none
 Hj:X.base.objs.size<=X.s₀.heap.objs.size
 v7:∀b o,X.base.get? b=↥o->b∉X.ex
 yA:∀b∈X.ex,b∉X.fs
 kT:X.s₀.heap.FunFrames X.base X.outer
 C8:∀b∈X.fs,X.H₀ b=none
structure Inv(X:Cx)(pins:au)(σ:List (Option V))(H:Hp)(s:ap):Prop where
 ok:X.Ok
 os:s.os=X.s₀.os
 bare:sB s.gens
 base:Un X.fs X.ex X.H₀ H X.s₀.heap s.heap
 loc:∃m,s.heap.Ns X.env.locals m/\∀(i:Nat) (x:Str) (v:V),X.N[i]?=↥x->σ[i]?=↥↥v->Nb X.env.scope x->∃u,RelV v u/\Look X.env s.heap m x u
 cell:∀x c,X.env.cells.lookup x=↥c->∃v,s.heap.IsCell c v
 free:H X.env.locals=none
 fZ:∀x c,X.env.cells.lookup x=↥c->H c=none
 pin:∀p∈X.pn++pins,s.heap.get? p.1=↥p.2/\H p.1=none/\p.1≠X.env.locals/\p.1∉X.fs/\∀v,p.2.data≠.cell v
 cJ:kj H s.heap
 len:σ.length=X.N.length
variable {A:aF}{E:Value->ap->Prop}{Q:Unit->ap->Prop}{ch:aX}{t':Nat}
section
variable {X:Cx}{pins:au}{σ:List (Option V)}{H H':Hp}{s:ap}{h':Heap}
def Cx.Ok.ZT(ok:X.Ok){b:Addr}{o:Obj}(e:X.base.get? b=↥o):b∉X.fs:=λa=>by
 have:=(ok.kT.mem a).1;rw[e]at this;cases this
theorem Inv.bs(I:Inv X pins σ H s):∀b o,X.base.get? b=↥o->s.heap.get? b=↥o/\H b=none:=λb o e =>
 ⟨I.base.keep b o (I.ok.bs b o e).1 (I.ok.bs b o e).2 (I.ok.ZT e) (I.ok.v7 b o e),I.base.free b o (I.ok.bs b o e).1 (I.ok.bs b o e).2 (I.ok.v7 b o e)⟩
def Inv.bk(I:Inv X pins σ H s):∀b o,X.base.get? b=↥o->s.heap.get? b=↥o:=λb o e=>(I.bs b o e).1
theorem Inv.mod(I:Inv X pins σ H s):Mod X.K X.mg X.base:=I.ok.mod
def Inv.CW(I:Inv X pins σ H s):X.K.In s.heap:=I.ok.mod.Z4.keeps I.bk
theorem Inv.lt(I:Inv X pins σ H s):X.env.locals<s.heap.objs.size:=let ⟨_,hn,_⟩:=I.loc;hn.lt
def Inv.sz(I:Inv X pins σ H s):X.s₀.heap.objs.size<=s.heap.objs.size:=aav I.ok.above (abh I.lt)
def Inv.OG(I:Inv X pins σ H s){a:Addr}(h:s.heap.objs.size<=a):a∉X.fs:=λc=>by
 ext(⟨_,o,b,_⟩:I.ok.kT.mem c);exact absurd (aao (aas b) (aav I.sz h)) (aa8 _)
def Inv.K4(I:Inv X pins σ H s):∀x c,X.env.cells.lookup x=↥c->c≠X.env.locals:=λx c e z=>by
 ext(⟨v,o,a,hd⟩:I.cell x c e)(⟨m,⟨f,g,h,d,b,_⟩,_⟩:I.loc);rw[z,d]at a;cases a;rw[b]at hd;cases hd
theorem Inv.kT(I:Inv X pins σ H s):s.heap.FunFrames X.base X.outer:=by
 have all:∀(l:List Env),(∀b∈m6 l,b∈X.fs)->X.s₀.heap.FunFrames X.base l->s.heap.FunFrames X.base l:=by
  intro l;induction l with
  |nil=>intro _ _;trivial
  |cons m r f =>
   intro d j;ext(⟨k,⟨L,o,hf,i,h,hd⟩,g⟩:j);have c:L∈X.fs:=d L (by unfold m6;rw[zaV,hf];exact aam);ext(⟨n,e⟩:I.base.slot L o h (I.ok.C8 L c) c λz=>I.ok.yA L z c);exact⟨k,⟨L,_,hf,i,e,hd⟩,f (λb a=>d b (by unfold m6;rw[zaV,hf];exact aap _ a)) g⟩
 exact all X.outer (λ_ a=>a) I.ok.kT
theorem Inv.stack(I:Inv X pins σ H s):s.heap.FunFrames X.base X.stack:=by
 ext((e|⟨e,hf⟩):I.ok.NL)
 ·exact[e]\I.kT
 ·rw[e];ext(⟨m,a,_⟩:I.loc);refine .cons (by rw[I.ok.kind];decide) hf a ?_ I.kT;exact Ps (aav I.ok.Hj I.ok.above)
def Inv.kL(I:Inv X pins σ H s):∀b∈m6 X.stack,b∈X.env.locals::X.fs:=λb a=>by
 ext((e|⟨e,hf⟩):I.ok.NL)
 ·rw[e]at a;exact aap _ a
 ·rw[e]at a;unfold m6 at a;rw[zaV,hf]at a;exact a
def Inv.lN(I:Inv X pins σ H s):∀b∈m6 X.stack,H b=none:=λb a=>by
 rcases ci.mp (I.kL b a)with e|a
 ·exact[e]\I.free
 ·ext(⟨_,o,c,_⟩:I.ok.kT.mem a);exact I.base.free b o c (I.ok.C8 b a) λz=>I.ok.yA b z a
def Inv.step{g':Array yar}{d':Drawn}(I:Inv X pins σ H s)
  (y:∀b∈ch,(b∈X.ex\/X.s₀.heap.objs.size<=b)/\b≠X.env.locals/\(∀x c,X.env.cells.lookup x=↥c->c≠b)/\∀p∈X.pn++pins,p.1≠b)
  (keep:∀b o,b≠X.env.locals->b∉X.fs->b∉ch->s.heap.get? b=↥o->H b=none->h'.get? b=↥o)
  (slot:∀b o,b≠X.env.locals->b∈X.fs->b∉ch->s.heap.get? b=↥o->H b=none->∃C,h'.get? b=some { o with slots:=C }) (free:∀b o,b∉ch->s.heap.get? b=↥o->H b=none->H' b=none)
  (there:∀b o,b∉ch->s.heap.get? b=↥o->∃j,h'.get? b=↥j)
  (J:∀b f,H b=↥(.tup f)->H' b=↥(.tup f)) (K:∀b o u,H b=↥(.iF o u)->H' b=↥(.iF o u))
  (ns:∀m,s.heap.Ns X.env.locals m->h'.Ns X.env.locals m) (O:kj H' h') (N:sB g') :
  Inv X pins σ H' { s with heap:=h',gens:=g',drawn:=d',toks:=t' }:=by
 have t:∀b o,X.s₀.heap.get? b=↥o->b≠X.env.locals:=λb o e=>aax (aao (aas e) I.ok.above);have B:∀b o,X.s₀.heap.get? b=↥o->b∉X.ex->b∉ch:=λb o e a g=>by
  rcases(y b g).1 with z|z
  ·exact a z
  ·exact absurd (aao (aas e) z) (aa8 _)
 have cellK:∀x c,X.env.cells.lookup x=↥c->∀v,s.heap.IsCell c v->h'.IsCell c v:=λx c e v P=>by
  ext(⟨o,h,hd⟩:P);have w:c∉ch:=λz=>(y c z).2.2.1 x c e rfl;by_cases G:c∈X.fs
  ·ext(⟨C,q⟩:slot c o (I.K4 x c e) G w h (I.fZ x c e));exact⟨_,q,hd⟩
  ·exact⟨o,keep c o (I.K4 x c e) G w h (I.fZ x c e),hd⟩
 refine⟨I.ok,I.os,N,⟨λb o e n g a=>?_,λb o e n g a=>?_,λb o e n a=>?_,λb o e a=>?_,λb f e=>J b f (I.base.nP b f e),λb o f e=>K b o f (I.base.m5 b o f e)⟩,?_,λx c e=>?_,?_,λx c e=>?_,λp F=>?_,O,I.len⟩
 ·exact keep b o (t b o e) g (B b o e a) (I.base.keep b o e n g a) (I.base.free b o e n a)
 ·ext(⟨C,e1⟩:I.base.slot b o e n g a)(⟨R,e2⟩:slot b _ (t b o e) g (B b o e a) e1 (I.base.free b o e n a));exact⟨R,e2⟩
 ·ext(⟨j,e1⟩:I.base.there b o e a);exact free b j (B b o e a) e1 (I.base.free b o e n a)
 ·ext(⟨j,e1⟩:I.base.there b o e a);exact there b j (B b o e a) e1
 ·ext(⟨m,L,M⟩:I.loc);refine⟨m,ns m L,λi x v e1 e2 e3=>?_⟩;ext(⟨u,r,l⟩:M i x v e1 e2 e3);refine⟨u,r,?_⟩;ext((l|⟨k,c,e,z⟩):l)
  ·exact .inl l
  ·exact .inr ⟨k,c,e,cellK x c e _ z⟩
 ·ext(⟨v,z⟩:I.cell x c e);exact⟨v,cellK x c e v z⟩
 ·ext(⟨m,⟨o,_,_,h,_⟩,_⟩:I.loc);exact free _ o (λz=>(y _ z).2.1 rfl) h I.free
 ·ext(⟨v,o,h,hd⟩:I.cell x c e);exact free c o (λz=>(y c z).2.2.1 x c e rfl) h (I.fZ x c e)
 ·ext(⟨e,n,ne,D,d⟩:I.pin p F);have w:p.1∉ch:=λz=>(y p.1 z).2.2.2 p F rfl;exact⟨keep p.1 p.2 ne D w e n,free p.1 p.2 w e n,ne,D,d⟩
def Inv.un(I:Inv X pins σ H s)(u:Un X.fs [] H H' s.heap h')(j:kj H' h'):Inv X pins σ H' { s with heap:=h',toks:=t' }:=by
 ext(⟨m,⟨o,t,v,d,r⟩,_⟩:id I.loc)(⟨l,i⟩:u.any d I.free ⇑5);exact I.step (g':=s.gens) (d':=s.drawn) (ch:=[]) (λ_ z=>nomatch z) (λb o _ a _ e n=>u.keep b o e n a ⇑5) (λb o _ a _ e n=>u.slot b o e n a ⇑5) (λb o _ e n=>u.free b o e n ⇑5) (λb o _ e=>u.there b o e ⇑5) u.nP u.m5 (λq h=>by
  ext(⟨p,k,g,c,f⟩:h);rw[d]at c;cases c;exact⟨_,k,g,i,f⟩) j I.bare
def Inv.call{g':Array yar}{d':Drawn}(I:Inv X pins σ H s)(u:Un (m6 X.stack) ch H H' s.heap h')(t:kj H' h')(l:sB g')
  (h:∀b∈ch,(b∈X.ex\/X.s₀.heap.objs.size<=b)/\b≠X.env.locals/\(∀x c,X.env.cells.lookup x=↥c->c≠b)/\∀p∈X.pn++pins,p.1≠b) :
  Inv X pins σ H' { s with heap:=h',gens:=g',drawn:=d',toks:=t' }:=by
 ext(⟨m,⟨o,C,D,g,r⟩,_⟩:id I.loc)(⟨w,d⟩:u.any g I.free λz=>(h _ z).2.1 rfl);exact I.step (ch:=ch) h (λb o d q a e n=>u.keep b o e n (λz=>(ci.mp (I.kL b z)).elim d q) a) (λb o _ _ a e n=>u.any e n a) (λb o a e n=>u.free b o e n a) (λb o a e=>u.there b o e a) u.nP u.m5 (λB k=>by
  ext(⟨y,v,j,f,i⟩:k);rw[g]at f;cases f;exact⟨_,v,j,d,i⟩) t l
def Inv.turned{it:Addr}(I:Inv X pins σ H s)(k:∀b o,b≠it->s.heap.get? b=↥o->h'.get? b=↥o)(hn:H it=none)(d:it≠X.env.locals)
  (l:it∈X.ex\/X.s₀.heap.objs.size<=it) (j:∀x c,X.env.cells.lookup x=↥c->c≠it) (i:∀p∈X.pn++pins,p.1≠it):Inv X pins σ H { s with heap:=h',toks:=t' }:=by
 have w:∀b u,H b=↥u->b≠it:=λb u e z=>by rw[z,hn]at e;cases e
 refine I.step (g':=s.gens) (d':=s.drawn) (ch:=[it]) (λb h=>?_) (λb o _ _ a e _=>k b o (λz=>a (by simp[z])) e) (λb o _ _ a e _=>⟨o.slots,k b o (λz=>a (by simp[z])) e⟩) (λ_ _ _ _ n=>n)
  (λb o a e=>⟨o,k b o (λz=>a (by simp[z])) e⟩) (λ_ _ e=>e) (λ_ _ _ e=>e) (λm g=>?_) (λb u e=>?_) I.bare
 ·have e:b=it:=⇑h
  subst e;exact⟨l,d,j,i⟩
 ·ext(⟨o,q,t,f,r⟩:g);exact⟨o,q,t,k _ o (ada d) f,r⟩
 ·exact(I.cJ b u e).lO λv=>k b v (w b u e)
def Inv.tok(I:Inv X pins σ H s)(t:Nat):Inv X pins σ H { s with toks:=t }:=I.un (h':=s.heap) (t':=t) Un.refl I.cJ
theorem Inv.kept{t':Nat}(I:Inv X pins σ H s)(k:∀b u,s.heap.get? b=↥u->h'.get? b=↥u):Inv X pins σ H { s with heap:=h',toks:=t' }:=I.un (Un.kept k) (I.cJ.kept k)
theorem Inv.laid{a:Addr}{o:HO}{t':Nat}(I:Inv X pins σ H s)(k:∀b u,s.heap.get? b=↥u->h'.get? b=↥u)(c:s.heap.objs.size<=a)(new:cQ (upd H a o) h' a o):
  Inv X pins σ (upd H a o) { s with heap:=h',toks:=t' }:=I.un (Un.laid k c (I.cJ.fresh c)) (I.cJ.laid k c new)
theorem Inv.write{x:Addr}{o:HO}{t':Nat}(I:Inv X pins σ H s)(c:Mut (H x))(k:∀b u,b≠x->s.heap.get? b=↥u->h'.get? b=↥u)(a:∃u,h'.get? x=↥u)
  (new:cQ (upd H x o) h' x o):Inv X pins σ (upd H x o) { s with heap:=h',toks:=t' }:=I.un (Un.write c k a) (I.cJ.write k new)
def Inv.j5{a:au}(I:Inv X pins σ H s)(h:∀p∈a,s.heap.get? p.1=↥p.2/\H p.1=none/\p.1≠X.env.locals/\p.1∉X.fs/\∀v,p.2.data≠.cell v):Inv X a σ H s :=
 ⟨I.ok,I.os,I.bare,I.base,I.loc,I.cell,I.free,I.fZ,λp b=>(c0.mp b).elim (λz=>I.pin p (aa0 _ z)) (h p),I.cJ,I.len⟩
def v9{N:ao}(c:N.Nodup){i j:Nat}{x:Str}(a:N[i]?=↥x)(b:N[j]?=↥x):i=j:=by
 obtain⟨e,e1⟩:=bn.mp a;obtain⟨d,e2⟩:=bn.mp b;exact(ad0 c).mp (e1.trans e2.symm)
def Bt{M:Model}{i:Nat}{x:Str}{v:V}{u:Value}(I:Inv X pins σ H s)(hN:X.N.Nodup)(C:X.N[i]?=↥x)(g:Loc X.env.scope x)(r:RelV v u)
  (h:∀O,Inv X pins (σ.set i ↥v) H O->(∃a,i6 a s.heap O.heap/\(a=X.env.locals\/X.env.cells.lookup x=↥a))->Q () O) (hf:X.fn x=true\/X.env.scope.names.lookup x=↥.local:=by first|exact .inl rfl|exact .inr rfl|assumption):wpAny M A (storeName X.env x u) Q E s:=by
 ext(⟨m,W,hl⟩:id I.loc);have F1:(X.env.scope.kind==.class||(X.env.scope.kind==.module&&X.env.locals != X.env.globals))=false:=by rw[I.ok.kind];rfl
 have Vk:i<σ.length:=[I.len]\(bn.mp C).1
 have K4:=I.K4;have tracked:∀{a:Addr} {h':Heap},(∃o,s.heap.get? a=↥o/\H a=none)->i6 a s.heap h'->kj H h':=λ{a h'} ha f b ob e=>by
  ext(⟨_,_,Vo⟩:ha);exact(I.cJ b ob e).lO λF q=>(f.2 b (by rintro rfl;rw[Vo]at e;cases e)).trans q
 ext((t|t):g)
 ·refine wpAny_storeName_local t W (λh' xy f=>?_) F1;ext(⟨oL,_,_,Vf,_⟩:id W);refine h _ ⟨I.ok,I.os,I.bare,⟨λb o e n B g=>?_,λb o e n B g=>?_,I.base.free,λb o e g=>?_,I.base.nP,I.base.m5⟩,⟨_,xy,λj y J e1 e2 e3=>?_⟩,λy c e=>?_,I.free,I.fZ,λp U=>?_,tracked ⟨oL,Vf,I.free⟩ f,⇑I.len⟩ ⟨_,f,.inl rfl⟩
  ·exact(f.2 b (aax (aao (aas e) I.ok.above))).trans (I.base.keep b o e n B g)
  ·ext(⟨L,e1⟩:I.base.slot b o e n B g);exact⟨L,(f.2 b (aax (aao (aas e) I.ok.above))).trans e1⟩
  ·ext(⟨S,e1⟩:I.base.there b o e g);exact⟨S,(f.2 b (aax (aao (aas e) I.ok.above))).trans e1⟩
  ·by_cases w:j=i
   ·subst w;rw[C]at e1;cases e1;rw[eo Vk]at e2;cases e2;exact⟨u,r,.inl ⟨t,by simp⟩⟩
   ·rw[ce (ja w)]at e2;ext(⟨K,P,q⟩:hl j y J e1 e2 e3);refine⟨K,P,?_⟩;ext((⟨k,e⟩|⟨k,c,e,z⟩):q)
    ·refine .inl ⟨k,?_⟩;have:y≠x:=λe=>w (v9 hN e1 (e▸C));simp[this,e]
    ·exact .inr ⟨k,c,e,z.sameBut f (K4 y c e)⟩
  ·ext(⟨F,z⟩:I.cell y c e);exact⟨F,z.sameBut f (K4 y c e)⟩
  ·ext(⟨e,n,ne,T,d⟩:I.pin p U);exact⟨(f.2 p.1 ne).trans e,n,ne,T,d⟩
 ·have R:X.fn x=true:=by
   ext((z|z):hf)
   ·exact z
   ·rw[z]at t;cases t
  ext(⟨c,l⟩:I.ok.has x (.inl t))(⟨F,z⟩:I.cell x c l);refine wpAny_storeName_cell I.ok.kind t l z (λh' C6 f=>?_);ext(⟨Z,XW,Y⟩:id z);refine h { s with heap:=h' } ⟨I.ok,I.os,I.bare,⟨λb o e n B g=>?_,λb o e n B g=>?_,I.base.free,λb o e g=>?_,I.base.nP,I.base.m5⟩,⟨m,W.sameBut f (ada (K4 x c l)),λj y J e1 e2 e3=>?_⟩,λy G e=>?_,I.free,I.fZ,λp U=>?_,tracked ⟨Z,XW,I.fZ x c l⟩ f,⇑I.len⟩ ⟨c,f,.inr l⟩
  ·exact(f.2 b (aax (aao (aas e) (I.ok.M5 x c R l)))).trans (I.base.keep b o e n B g)
  ·ext(⟨L,e1⟩:I.base.slot b o e n B g);exact⟨L,(f.2 b (aax (aao (aas e) (I.ok.M5 x c R l)))).trans e1⟩
  ·ext(⟨S,e1⟩:I.base.there b o e g);exact⟨S,(f.2 b (aax (aao (aas e) (I.ok.M5 x c R l)))).trans e1⟩
  ·by_cases w:j=i
   ·subst w;rw[C]at e1;cases e1;rw[eo Vk]at e2;cases e2;exact⟨u,r,.inr ⟨.inl t,c,l,C6⟩⟩
   ·rw[ce (ja w)]at e2;ext(⟨K,P,q⟩:hl j y J e1 e2 e3);refine⟨K,P,?_⟩;ext((q|⟨k,G,e,z'⟩):q)
    ·exact .inl q
    ·refine .inr ⟨k,G,e,z'.sameBut f ?_⟩;rintro rfl;exact w (v9 hN e1 (I.ok.inj _ _ _ e l▸C))
  ·by_cases D:G=c
   ·subst D;exact⟨_,C6⟩
   ·ext(⟨w2,z2⟩:I.cell y G e);exact⟨w2,z2.sameBut f D⟩
  ·ext(⟨e,n,ne,T,d⟩:I.pin p U);refine⟨(f.2 p.1 ?_).trans e,n,ne,T,d⟩;intro q;rw[q,XW]at e;have q':Z=p.2:=aaV e;exact d F ([-q']\Y)
def h_{M:Model}{i:Nat}{x:Str}{v:V}{u:Value}(I:Inv X pins σ H s)(d:X.N.Nodup)(c:X.N[i]?=↥x)(b:Loc X.env.scope x)(r:RelV v u)
  (h:∀a,Inv X pins (σ.set i ↥v) H a->Q () a) (hf:X.fn x=true\/X.env.scope.names.lookup x=↥.local:=by first|exact .inl rfl|exact .inr rfl|assumption):wpAny M A (storeName X.env x u) Q E s :=
 Bt I d c b r (λa e _=>h a e) hf
def Inv.AZ{s':ap}(I:Inv X pins σ H s)(g:s'.os=s.os)(u:Un (m6 X.stack) ch H H' s.heap s'.heap)(i:kj H' s'.heap)(h:sB s'.gens)
  (j:∀b∈ch,(b∈X.ex\/X.s₀.heap.objs.size<=b)/\b≠X.env.locals/\(∀x c,X.env.cells.lookup x=↥c->c≠b)/\∀p∈X.pn++pins,p.1≠b):Inv X pins σ H' s':=by
 ext(⟨h',a,d,t',f⟩:s');have e:f=s.os:=g;subst e;exact I.call (g':=a) (t':=t') (d':=d) u i h j
end
abbrev XK:=Value->Option Addr->Hp->Prop
abbrev St:=List (Option V)
abbrev VK:=V->Hp->Prop
abbrev TE:=St->Hp->VK->Prop
abbrev TT:=St->Hp->(Bool->Hp->Prop)->Prop
abbrev TA:=St->Hp->(ah->Hp->Prop)->Prop
structure Ends where
 nx:St->Hp->Prop
 rt:VK
 bk:St->Hp->Prop:=λ_ _=>False
 ct:St->Hp->Prop:=λ_ _=>False
abbrev TS:=Ends->St->Hp->Prop
def EP(X:Cx)(pins:au)(b:St)(Q:VK)(u:Value)(s':ap):Prop:=∃v a,Inv X pins b a s'/\RelV v u/\Q v a
def TP(X:Cx)(pins:au)(c:St)(Q:Bool->Hp->Prop)(b:Bool)(s':ap):Prop:=∃a,Inv X pins c a s'/\Q b a
def AP(X:Cx)(pins:au)(c:St)(Q:ah->Hp->Prop)(d:aw)(s':ap):Prop:=∃a b,Inv X pins c b s'/\Vals a d/\Q a b
def SP(X:Cx)(pins:au)(D:Ends)(f:Flow)(s':ap):Prop :=
 match f with
 |.next=>∃a b,Inv X pins a b s'/\D.nx a b
 |.brk=>∃a b,Inv X pins a b s'/\D.bk a b
 |.cont=>∃a b,Inv X pins a b s'/\D.ct a b
 |.ret u=>∃v a b,Inv X pins a b s'/\RelV v u/\D.rt v b
def PE(X:Cx)(e:Expr)(t:TE):Prop :=
 ∀(pins:au) (s:ap) (a:St) (H:Hp) (Q:VK),Inv X pins a H s->t a H Q->⇑0 (eval e X.env) (EP X pins a Q) X.xe s
def PT(X:Cx)(e:Expr)(t:TT):Prop :=
 ∀(pins:au) (s:ap) (a:St) (H:Hp) (Q:Bool->Hp->Prop),Inv X pins a H s->t a H Q->⇑0 (PB e X.env (eval e X.env)) (TP X pins a Q) X.xe s
def PW(X:Cx)(e:Expr)(t:TT):Prop :=
 ∀(whole:Sem Value) (pins:au) (s:ap) (a:St) (H:Hp) (Q:Bool->Hp->Prop),Inv X pins a H s->t a H Q->⇑0 (PB e X.env whole) (TP X pins a Q) X.xe s
def PW.pt{X:Cx}{e:Expr}{t:TT}(h:PW X e t):PT X e t:=h _
def PA(X:Cx)(es:aj)(t:TA):Prop :=
 ∀(pos:Pos) (pins:au) (s:ap) (a:St) (H:Hp) (Q:ah->Hp->Prop),Inv X pins a H s->t a H Q->⇑0 (spliced (nw pos (cm es X.env))) (AP X pins a Q) X.xe s
def PS(X:Cx)(st:Stmt)(t:TS):Prop :=
 ∀(pins:au) (s:ap) (a:St) (H:Hp) (D:Ends),Inv X pins a H s->t D a H->⇑0 (exec st X.env) (SP X pins D) X.xe s
def gO(X:Cx)(st:aP)(t:TS):Prop :=
 ∀(pins:au) (s:ap) (a:St) (H:Hp) (D:Ends),Inv X pins a H s->t D a H->⇑0 (execs st X.env) (SP X pins D) X.xe s
def dO{b:Type}{t:Sem b}{Q c:b->ap->Prop}{M:Model}{s:ap}(h:wpAny M A t Q E s)(d:∀a s,Q a s->c a s):wpAny M A t c E s:=aa1 h d λ_ _ x=>x
end L2
namespace L2
open PySem PySem.Spec PyProof.Rows
variable {E Q:Value->ap->Prop}{pos:Pos}{σ:L2.St}
section
variable {X:Cx}
def mF(i:Nat):TE:=λσ H Q=>∃v,σ[i]?=↥↥v/\Q v H
def tC(v:V):TE:=λ_ H Q=>Q v H
def iN{i:Nat}{x:Str}(o:X.N[i]?=↥x)(g:Nb X.env.scope x)(hd:(x==⇑9)=false:=by decide)(f:(x==("__classdict__" : Str))=false:=by decide):PE X (.Name x pos) (mF i):=by
 intro pins s σ H Q I h;ext(⟨v,e,h⟩:h)(⟨m,j,n⟩:I.loc)(⟨u,r,l⟩:n i x v o e g);have fin:EP X pins σ Q u s:=⟨v,H,I,r,h⟩
 ext((⟨b,k⟩|⟨b,c,d,a⟩):l)
 ·exact yay (XQ I.ok.kind b j k fin) hd
 ·ext((b|b):b)
  ·exact yay (X6 I.ok.kind b d a fin) hd
  ·exact yay (wpAny_loadName_free I.ok.kind b d a fin f) hd
def Oo{i j pos}:PE X (.Constant ↑i j pos) (tC ↑i):=λ_ _ _ H _ I h=>wpAny_Constant_int ⟨.int i,H,I.tok _,⟨_,rfl⟩,h⟩
def Mn{b j pos}:PE X (.Constant (.bool b) j pos) (tC (.bl b)):=λ_ _ _ H _ I h=>Constant_bool ⟨.bl b,H,I,rfl,h⟩
def Ez{j pos}:PE X (.Constant .none j pos) (tC .b0):=λ_ _ _ H _ I h=>Constant_none ⟨.b0,H,I,rfl,h⟩
def pz{x j pos}:PE X (.Constant (.str x) j pos) (tC (.str x)):=λ_ _ _ H _ I h=>Calls.Constant_str ⟨.str x,H,I.tok _,⟨_,rfl⟩,h⟩
def Gl(X:Cx)(x:Str):Prop:=X.env.kindOf x=↥.globalImplicit
def t_{pins:au}{s:ap}{H:Hp}{x:Str}{u:Value}(I:Inv X pins σ H s)(b:Gl X x)(a:X.mg x=↥u)(h:Q u s)
  (hd:(x==⇑9)=false:=by decide):⇑0 (eval (.Name x pos) X.env) Q E s :=
 acQ I.ok.kind b (adM ([I.ok.glob]\I.mod.glob.keeps I.bk) a h) hd
def gR{pins:au}{s:ap}{H:Hp}{x:Str}{u:Value}(I:Inv X pins σ H s)(c:Gl X x)(b:X.mg x=none)(a:kE x=↥u)(h:Q u s)
  (hn:x ≠ "__name__":=by decide) (hd:(x==⇑9)=false:=by decide):⇑0 (eval (.Name x pos) X.env) Q E s:=by
 ext(⟨f,e,d⟩:I.mod.blt);exact acQ I.ok.kind c (Calls.loadGlobal_builtin ([I.ok.glob]\I.mod.glob.keeps I.bk) b ([I.ok.blt]\e.keeps I.bk) ((d x hn).trans a) h) hd
def zW{x:Str}{v:V}{u:Value}(b:Gl X x)(a:X.mg x=↥u)(r:RelV v u)(hd:(x==⇑9)=false:=by decide):PE X (.Name x pos) (tC v) :=
 λ_ _ _ H _ I h=>t_ I b a ⟨v,H,I,r,h⟩ hd
def zY{x:Str}{v:V}{u:Value}(c:Gl X x)(b:X.mg x=none)(a:kE x=↥u)(r:RelV v u)(hn:x ≠ "__name__":=by decide)(hd:(x==⇑9)=false:=by decide):PE X (.Name x pos) (tC v) :=
 λ_ _ _ H _ I h=>gR I c b a ⟨v,H,I,r,h⟩ hn hd
variable {a b:Expr}{ta tb:TE}{pos:Pos}
def PC(X:Cx)(op:CmpOp)(a b:Expr)(t:TE):Prop :=
 ∀(pins:au) (s:ap) (σ:St) (H:Hp) (Q:VK),Inv X pins σ H s->t σ H Q ->
  ⇑0 (eval a X.env) (λv d=>⇑0 (eval b X.env) (λu c=>⇑0 (j_ op v u) (EP X pins σ Q) X.xe c) X.xe d) X.xe s
def EV(b:Expr){op:CmpOp}(h:op≠.In)(c:op≠.NotIn):lf op b=false:=by
 have e1:(op==CmpOp.In)=false:=by cases op<;>first|rfl|exact absurd rfl h
 have e2:(op==yaQ)=false:=by cases op<;>first|rfl|exact absurd rfl c
 cases b<;>simp[lf,e1,e2]
def S9(ta:TE):TE:=λσ H Q=>ta σ H λx c=>Q (.bl (!decide (x=.b0))) c
def RelV.ER{x:V}{v:Value}(r:RelV x v):(v==ft)=decide (x=.b0):=by
 cases x with
 |b0=>cases r;rfl
 |bl _=>cases r;rfl
 |int _=>ext(⟨t,rfl⟩:r);rfl
 |str _=>ext(⟨t,rfl⟩:r);rfl
 |Yp _=>ext(⟨t,rfl⟩:r);rfl
 |Yd _=>ext(⟨t,rfl⟩:r);rfl
 |ref _=>cases r;rfl
 |ty _=>cases r;rfl
def Jz{j pos'}(c:PE X a ta):PC X .IsNot a (.Constant .none j pos') (S9 ta):=by
 intro pins s σ H Q I h;refine dO (c pins s σ H _ I h) λv g d=>?_;ext(⟨x,f,e,r1,q1⟩:d);exact Constant_none (isnot_none_gen ⟨.bl _,f,e,by rw[r1.ER];rfl,q1⟩)
def tB(t:TE):TT:=λσ H Q=>t σ H λx d=>∃c,x=.bl c/\Q c d
def Oe{op:CmpOp}{t:TE}(h:PC X op a b t)(e:lf op b=false:=by first|exact EV _ ⇑4 ⇑4|rfl):PT X (.Compare a [op] [b] pos) (tB t):=by
 intro pins s σ H Q I hw;refine Vm (dO (h pins s σ H _ I hw) λv m e=>dO e λu l f=>dO f λc k g=>?_) e;ext(⟨x,j,i,r1,q1⟩:g)(⟨d,rfl,q⟩:q1);cases r1;exact abV ⟨j,i,q⟩
def tG{e:Expr}{t:TE}(h:PE X e t)(he:∀whole,PB e X.env whole=(do let v <- whole;standAt e.pos;holding [v] (truthy v)):=by intro _;rfl):PT X e (tB t):=by
 intro pins s σ H Q I hw;refine isTrue_plain (dO (h pins s σ H _ I hw) λv i c=>?_) (he _);ext(⟨x,g,f,r1,q1⟩:c)(⟨d,rfl,q⟩:q1);cases r1;exact abV ⟨g,f,q⟩
variable {tA Xl:TT}{rest:aj}
def Tf(t u:TT):TT:=λσ H Q=>t σ H λc d=>if c=true then u σ d Q else Q false d
def tOr(t u:TT):TT:=λσ H Q=>t σ H λc d=>if c=true then Q true d else u σ d Q
def YW(t:TT):TT:=λσ H Q=>t σ H λc d=>Q (!c) d
def zP(d:PT X a tA):PW X (.BoolOp .And [a] pos) tA:=by
 intro f pins s σ H Q I h;refine isTrue_and (dO (d pins s σ H Q I h) λc g e=>?_);cases c with
 |true=>exact isTrue_and_nil e
 |false=>exact e
def Ed(d:PT X a tA):PW X (.BoolOp .Or [a] pos) tA:=by
 intro f pins s σ H Q I h;refine isTrue_or (dO (d pins s σ H Q I h) λc g e=>?_);cases c with
 |false=>exact isTrue_or_nil e
 |true=>exact e
def Ee(j:PT X a tA)(i:PW X (.BoolOp .And (b::rest) pos) Xl):PW X (.BoolOp .And (a::b::rest) pos) (Tf tA Xl):=by
 intro f pins s σ H Q I h;refine isTrue_and (dO (j pins s σ H _ I h) λc g ⟨e,d,q1⟩=>?_);cases c with
 |true=>exact i f pins g σ e Q d q1
 |false=>exact⟨e,d,q1⟩
def L7(j:PT X a tA)(i:PW X (.BoolOp .Or (b::rest) pos) Xl):PW X (.BoolOp .Or (a::b::rest) pos) (tOr tA Xl):=by
 intro f pins s σ H Q I h;refine isTrue_or (dO (j pins s σ H _ I h) λc g ⟨e,d,q1⟩=>?_);cases c with
 |true=>exact⟨e,d,q1⟩
 |false=>exact i f pins g σ e Q d q1
def tH(d:PT X a tA):PT X (.UnaryOp .Not a pos) (YW tA):=by
 intro pins s σ H Q I h;exact isTrue_not (d pins s σ H (λc e=>Q (!c) e) I h)
def LR(ta tb:TE):TE:=λσ H Q=>ta σ H λx d=>∃c,x=.bl c/\if c=true then tb σ d Q else Q (.bl false) d
def S7(ta tb:TE):TE:=λσ H Q=>ta σ H λx d=>∃c,x=.bl c/\if c=true then Q (.bl true) d else tb σ d Q
def S8(ta:TE):TE:=λσ H Q=>ta σ H λx d=>∃c,x=.bl c/\Q (.bl (!c)) d
def Ey{op}{t:TE}(h:PE X a t):PE X (.BoolOp op [a] pos) t:=λpins s σ H Q I hw=>BoolOp_one (h pins s σ H Q I hw)
def Oq(i:PE X a ta)(g:PE X (.BoolOp .And (b::rest) pos) tb):PE X (.BoolOp .And (a::b::rest) pos) (LR ta tb):=by
 intro pins s σ H Q I h;refine BoolOp_and (dO (i pins s σ H _ I h) λv f j=>?_);ext(⟨x,e,d,r1,q1⟩:j)(⟨c,rfl,q1⟩:q1);cases r1;refine abV ?_;cases c with
 |true=>exact g pins f σ e Q d q1
 |false=>exact⟨.bl false,e,d,rfl,q1⟩
def T8(i:PE X a ta)(g:PE X (.BoolOp .Or (b::rest) pos) tb):PE X (.BoolOp .Or (a::b::rest) pos) (S7 ta tb):=by
 intro pins s σ H Q I h;refine BoolOp_or (dO (i pins s σ H _ I h) λv f j=>?_);ext(⟨x,e,d,r1,q1⟩:j)(⟨c,rfl,q1⟩:q1);cases r1;refine abV ?_;cases c with
 |false=>exact g pins f σ e Q d q1
 |true=>exact⟨.bl true,e,d,rfl,q1⟩
def Om(d:PE X a ta):PE X (.UnaryOp .Not a pos) (S8 ta):=by
 intro pins s σ H Q I h;refine UnaryOp_ (dO (d pins s σ H _ I h) λv i e=>?_);ext(⟨x,g,f,r1,q1⟩:e)(⟨c,rfl,q1⟩:q1);cases r1;exact not_of (abV ⟨.bl (!c),g,f,rfl,q1⟩)
end
end L2
namespace L2
open PySem PySem.Spec PyProof.Rows
def eG(K:av)(H:Hp)(a:Addr)(xs:ah):Prop :=
 Rd H a (.lst xs) \/
  ∃(o:Obj) (b:bq) (n:Nat),K.lookup a=↥o/\o.cls=.type "list" /\ o.dict=none/\o.data=.seq b n/\b.size<=sizeLine/\Vals xs b.toList
def aY(K:av)(H:Hp)(a:Addr)(xs:ah):Prop :=
 Rd H a (.tup xs) \/
  ∃(o:Obj) (b:bq) (n:Nat),K.lookup a=↥o/\o.cls=.type "tuple" /\ o.data=.seq b n/\b.size<=sizeLine/\Vals xs b.toList
meta def aco:Value->Option V
 |.none=>↥.b0
 |.bool b=>↥(.bl b)
 |.int i _=>↥↑i
 |.str x _=>↥(.str x)
 |.bytes b _=>↥(.Yp b)
 |.float b _=>↥(.Yd b)
 |.ref a=>↥(.ref a)
 |.type n=>↥(.ty n)
 |_=>none
def RelV.abs{x:V}{u:Value}(r:RelV x u):aco u=↥x:=by
 cases x with
 |b0=>cases r;rfl
 |bl _=>cases r;rfl
 |int _=>ext(⟨t,rfl⟩:r);rfl
 |str _=>ext(⟨t,rfl⟩:r);rfl
 |Yp _=>ext(⟨t,rfl⟩:r);rfl
 |Yd _=>ext(⟨t,rfl⟩:r);rfl
 |ref _=>cases r;rfl
 |ty _=>cases r;rfl
def RelV.inj{x y:V}{u:Value}(r:RelV x u)(q:RelV y u):x=y:=aaV (r.abs.symm.trans q.abs)
theorem Vals.inj:∀{xs a:ah} {b:aw},Vals xs b->Vals a b->xs=a
 |_,_,_,.nil,.nil=>rfl
 |_,_,_,.cons r t,.cons r' t'=>by rw[r.inj r',Vals.inj t t']
variable {K:av}
section
variable {X:Cx}{pins:au}{σ:St}{H:Hp}{s:ap}{a:Addr}{xs ys:ah}
def eG.of(h:H a=↥(.lst xs)):eG K H a xs:=.inl (.inl h)
def aY.of(h:H a=↥(.tup xs)):aY K H a xs:=.inl (.inl h)
def Inv.list(I:Inv X pins σ H s)(h:eG X.K H a xs):∃b:aw,Vals xs b/\PlainL s.heap a b.toArray/\xs.length<=sizeLine:=by
 ext((h|⟨o,b,n,d,f,hd,c,g,r⟩):h)
 ·ext(⟨z,b,n,r,e⟩:h.ok I.cJ);exact⟨b,r,⟨_,n,e,rfl,rfl,rfl⟩,z⟩
 ·refine⟨b.toList,r,⟨o,n,I.CW a o d,f,hd,⇑c⟩,?_⟩;have e:=r.length;simp only[zan]at e;left
def Inv.tuple(I:Inv X pins σ H s)(h:aY X.K H a xs):∃b:aw,Vals xs b/\IsTup s.heap a b.toArray/\xs.length<=sizeLine:=by
 ext((h|⟨o,b,n,d,f,c,g,r⟩):h)
 ·ext(⟨z,b,r,p⟩:h.ok I.cJ);exact⟨b,r,p,z⟩
 ·refine⟨b.toList,r,⟨o,I.CW a o d,f,n,⇑c⟩,?_⟩;have e:=r.length;simp only[zan]at e;left
def Inv.lU(I:Inv X pins σ H s)(h:eG X.K H a xs)(h':eG X.K H a ys):xs=ys:=by
 ext(⟨i,r,⟨o,n,e,_,_,d⟩,_⟩:I.list h)(⟨b,g,⟨j,k,c,_,_,f⟩,_⟩:I.list h');rw[e]at c;cases c;rw[d]at f;injection f with d1 _;have:i=b:=⇑(congrArg yav d1)
 subst this;exact r.inj g
def Inv.rF(I:Inv X pins σ H s)(h:aY X.K H a xs)(h':aY X.K H a ys):xs=ys:=by
 ext(⟨i,r,⟨o,e,_,n,d⟩,_⟩:I.tuple h)(⟨b,g,⟨j,c,_,k,f⟩,_⟩:I.tuple h');rw[e]at c;cases c;rw[d]at f;injection f with d1 _;have:i=b:=⇑(congrArg yav d1)
 subst this;exact r.inj g
end
noncomputable abbrev Cx.oZ(X:Cx)(E:aB):Cx:={ X with xe:=E }
abbrev Cx.yd(X:Cx):Cx:=X.oZ λ_ _=>False
theorem Cx.Ok.oZ{X:Cx}(ok:X.Ok)(E:aB):(X.oZ E).Ok :=
 ⟨ok.mod,ok.kind,ok.glob,ok.blt,ok.above,ok.inj,ok.has,ok.M5,ok.hd,ok.frames,ok.NL,ok.Wb,ok.bs,ok.Hj,ok.v7,ok.yA,ok.kT,ok.C8⟩
variable {E:Value->ap->Prop}{X:Cx}
def Cx.Ok.iI(ok:(X.oZ E).Ok):X.Ok :=
 ⟨ok.mod,ok.kind,ok.glob,ok.blt,ok.above,ok.inj,ok.has,ok.M5,ok.hd,ok.frames,ok.NL,ok.Wb,ok.bs,ok.Hj,ok.v7,ok.yA,ok.kT,ok.C8⟩
section
variable {X:Cx}{pins:au}{σ:St}{H:Hp}{s:ap}{E:aB}
theorem Inv.oZ(I:Inv X pins σ H s)(E:aB):Inv (X.oZ E) pins σ H s:=⟨I.ok.oZ E,I.os,I.bare,I.base,I.loc,I.cell,I.free,I.fZ,I.pin,I.cJ,I.len⟩
theorem Inv.iI(I:Inv (X.oZ E) pins σ H s):Inv X pins σ H s:=⟨I.ok.iI,I.os,I.bare,I.base,I.loc,I.cell,I.free,I.fZ,I.pin,I.cJ,I.len⟩
theorem SP.iI{D:Ends}{f:Flow}{s':ap}(h:SP (X.oZ E) pins D f s'):SP X pins D f s':=by
 cases f with
 |next=>ext(⟨a,b,I,q⟩:h);exact⟨a,b,I.iI,q⟩
 |brk=>ext(⟨a,b,I,q⟩:h);exact⟨a,b,I.iI,q⟩
 |cont=>ext(⟨a,b,I,q⟩:h);exact⟨a,b,I.iI,q⟩
 |ret u=>ext(⟨v,a,b,I,r,q⟩:h);exact⟨v,a,b,I.iI,r,q⟩
theorem gO.yd{st:aP}{t:TS}(h:gO X.yd st t):gO X st t:=λpins s σ H D I hw =>
 aa1 (h pins s σ H D (I.oZ _) hw) (λ_ _ q=>q.iI) λ_ _ z=>lv z
end
variable {σ:L2.St}
section
variable {X:Cx}{st:Stmt}{rest:aP}{t u:TS}{e:Expr}{te:TE}{pos:Pos}
def S_:TS:=λD σ H=>D.nx σ H
def YT(t u:TS):TS:=λD σ H=>t { D with nx:=u D } σ H
def tI:gO X [] S_:=λ_ _ σ H _ I h=>adA ⟨σ,H,I,h⟩
def cG(d:PS X st t)(c:gO X rest u):gO X (st::rest) (YT t u):=by
 intro pins s σ H D I h;refine yaV (dO (d pins s σ H { D with nx:=u D } I h) λf b q=>?_);cases f with
 |next =>
  ext(⟨a,i,g,q⟩:q);exact c pins b a i D g q
 |ret v=>exact q
 |brk=>exact q
 |cont=>exact q
def gz(a:PS X st t):gO X [st] t:=by
 intro pins s σ H D I h;refine yaV (dO (a pins s σ H D I h) λf b q=>?_);cases f with
 |next=>exact adA q
 |ret v=>exact q
 |brk=>exact q
 |cont=>exact q
def Inv.quiet{pins:au}{H:Hp}{s:ap}(I:Inv X pins σ H s):interactive X.env=false:=by simp[interactive,I.ok.kind]
def Tb(te:TE):TS:=λD σ H=>te σ H λ_ a=>D.nx σ a
def lR(he:PE X e te)(hs:mu e none pos.line X.env=pure false:=by rfl):PS X (.Expr e pos) (Tb te):=by
 intro pins s σ H D I h;exact wpAny_Expr_any (dO (he pins s σ H _ I h) λv c ⟨x,b,a,r1,q1⟩=>⟨σ,b,a,q1⟩) I.quiet hs
def YU(te:TE):TS:=λD σ H=>te σ H D.rt
def mQ(he:PE X e te):PS X (.Return ↥e pos) (YU te):=by
 intro pins s σ H D I h;exact wpAny_Return_some (dO (he pins s σ H _ I h) λv c ⟨x,b,a,r1,q1⟩=>⟨x,σ,b,a,r1,q1⟩)
def YZ(c:TT)(t u:TS):TS:=λD σ H=>c σ H λb a=>if b=true then t D σ a else u D σ a
def vQ{c:Expr}{a b:aP}{f:TT}(k:PT X c f)(m:gO X a t)(l:gO X b u):PS X (.If c a b pos) (YZ f t u):=by
 intro pins s σ H D I h;refine wpAny_If (dO (k pins s σ H _ I h) λd g ⟨j,i,q1⟩=>?_);cases d with
 |true=>exact m pins g σ j D i q1
 |false=>exact l pins g σ j D i q1
def NI:TS:=λ_ _ _=>False
end
abbrev TG:=V->St->Hp->(St->Hp->Prop)->Prop
abbrev HX:=ah->St->Hp->(St->Hp->Prop)->Prop
def PG(X:Cx)(target:Expr)(t:TG):Prop :=
 ∀(pins:au) (s:ap) (σ:St) (H:Hp) (v:V) (u:Value) (Q:St->Hp->Prop),Inv X pins σ H s->RelV v u->t v σ H Q ->
  ⇑0 (zn target X.env u) (λ_ c=>∃a b,Inv X pins a b c/\Q a b) X.xe s
def RC(X:Cx)(d:aj)(t:HX):Prop :=
 ∀(pins:au) (s:ap) (σ:St) (H:Hp) (vs:ah) (b:aw) (Q:St->Hp->Prop),Inv X pins σ H s->Vals vs b->t vs σ H Q ->
  ⇑0 (P_ ((hO d X.env).map (·.2)) b) (λ_ e=>∃a c,Inv X pins a c e/\Q a c) X.xe s
abbrev Yz:=V->V->Hp->VK->Prop
def W7(X:Cx)(op:nl)(t:Yz):Prop :=
 ∀(pins:au) (s:ap) (σ:St) (H:Hp) (x y:V) (v u:Value) (Q:VK),Inv X pins σ H s->RelV x v->RelV y u->t x y H Q ->
  ⇑0 (inplaceOp op v u) (EP X pins σ Q) X.xe s
variable {es:aj}{pos':Pos}{te:TE}{tg:Expr}
section
variable {X:Cx}{pos:Pos}
def p7(i:Nat):TG:=λv σ H Q=>Q (σ.set i ↥v) H
def tN{i:Nat}{x:Str}(c:X.N.Nodup)(b:X.N[i]?=↥x)(a:Loc X.env.scope x)(hf:X.fn x=true\/X.env.scope.names.lookup x=↥.local:=by first|exact .inl rfl|exact .inr rfl|assumption):PG X (.Name x pos) (p7 i):=by
 intro pins s σ H v u Q I r h;exact wpAny_assign_Name (h_ I c b a r (λe d=>⟨_,H,d,h⟩) hf)
def Qc:HX:=λa σ H Q=>a=[]/\Q σ H
def Gk(t:TG)(u:HX):HX:=λb σ H Q=>∃v r,b=v::r/\t v σ H λa c=>u r a c Q
def zU:RC X [] Qc:=by
 intro pins s σ H a b Q I r h;ext(⟨e,h⟩:h);subst e;cases r;exact yaF ⟨σ,H,I,h⟩
def vT{e:Expr}{t:TG}{u:HX}(f:PG X e t)(d:RC X es u)
  (hs:(hO (e::es) X.env).map (·.2)=zn e X.env::(hO es X.env).map (·.2):=by rfl):RC X (e::es) (Gk t u):=by
 intro pins s σ H k m Q I r h;ext(⟨v,l,e1,h⟩:h);subst e1;cases r with
 |cons r c =>
  rw[hs];refine zm (dO (f pins s σ H _ _ _ I r h) λ_ b g=>?_);ext(⟨a,j,i,q1⟩:g);exact d pins b a j _ _ Q i c q1
def abC(K:av)(n:Nat)(t:HX):TG:=λv σ H Q=>∃a b,v=.ref a/\aY K H a b/\b.length=n/\t b σ H Q
def Et{k:Nat}{t:HX}{n:Nat}(m:X.calm=true)(h:RC X es t)
  (hn:(hO es X.env).length=n:=by rfl) (f:(hO es X.env).findIdx? (·.1)=none:=by rfl):PG X (.Tuple es k pos) (abC X.K n t):=by
 intro pins s σ H v u Q I r hw;ext(⟨a,d,e1,j,l,hw⟩:hw);subst e1;cases r;ext(⟨x,c,i,w⟩:I.tuple j);refine assign_Tuple_tuple (I.ok.hd m) i (by simp[hn,<- l,c.length]) f λp g=>?_;have q:Inv X pins σ H { s with heap:=p }:=I.kept (t':=s.toks) λb o e=>g b o (aax (aas e)) e;exact h pins _ σ H d _ Q q ⇑c hw
def Te(te:TE)(g:TG):TS:=λD σ H=>te σ H λx a=>g x σ a D.nx
def Ej{e:Expr}{g:TG}(he:PE X e te)(b:PG X tg g)(hs:yz [tg] e pos.line X.env=pure false:=by rfl)(hw:nF [tg] e X.env=pure none:=by rfl)
  (c:(hO [tg] X.env).map (·.2)=[zn tg X.env]:=by rfl):PS X (.Assign [tg] e pos) (Te te g):=by
 intro pins s σ H D I h;refine wpAny_Assign_stores (dO (he pins s σ H _ I h) λv a d=>?_) hs hw;ext(⟨x,i,f,r1,q1⟩:d);exact[c]\dO (b pins a σ i x v _ f r1 q1) λ_ j q=>q
def kO{i:Nat}{x:Str}{e:Expr}(c:X.N.Nodup)(b:X.N[i]?=↥x)(a:Loc X.env.scope x)(he:PE X e te)(hs:mu e ↥(.Name x pos') pos.line X.env=pure false:=by rfl)(hf:X.fn x=true\/X.env.scope.names.lookup x=↥.local:=by first|exact .inl rfl|exact .inr rfl|assumption):
  PS X (.Assign [.Name x pos'] e pos) (Te te (p7 i)):=by
 intro pins s σ H D I h;refine wpAny_Assign_Name (dO (he pins s σ H _ I h) λv l d=>?_) hs;ext(⟨y,j,g,r1,q1⟩:d);exact h_ g c b a r1 (λk f=>⟨_,j,f,q1⟩) hf
def YV(i j:Nat)(b:TA):TS:=λD σ H=>b σ H λa c=>∃v w,a=[v,w]/\D.nx ((σ.set i ↥v).set j ↥w) c
def Of{i j:Nat}{x y:Str}{a b:Expr}{f:TA}{px d pt:Pos}{kt k2 RP}(L:X.calm=true)(l:X.N.Nodup)(J:X.N[i]?=↥x)(G:X.N[j]?=↥y)(O:i≠j)
  (k:X.env.scope.names.lookup x=↥.local) (g:X.env.scope.names.lookup y=↥.local) (M:PA X [a,b] f)
  (hw:nF [.Tuple [.Name x px,.Name y d] kt pt] (.Tuple [a,b] k2 RP) X.env=pure ↥[x,y])
  (hs:yz [.Tuple [.Name x px,.Name y d] kt pt] (.Tuple [a,b] k2 RP) pos.line X.env=pure false:=by rfl) :
  PS X (.Assign [.Tuple [.Name x px,.Name y d] kt pt] (.Tuple [a,b] k2 RP) pos) (YV i j f):=by
 intro pins s σ H D I h;rw[exec_Assign_arm];refine aaf (ael ?_);rw[hs];refine aaf (aak ?_);rw[zab ⇑4];refine aaf (Tuple_ (dO (M _ pins s σ H _ I h) λu c P=>?_));ext(⟨U,r,T,r1,q1⟩:P)(⟨v,w,e1,q1⟩:q1);subst e1;obtain⟨u1,u2,rfl,z,F⟩:∃u1 u2,u=[u1,u2]/\RelV v u1/\RelV w u2:=by
  cases r1 with
  |cons p q =>
   cases q with
   |cons C B =>
    cases B;exact⟨_,_,rfl,p,C⟩
 refine abH ?_ (by show 2<=sizeLine;decide);have S:Inv X pins σ r { c with heap:=c.heap.push { cls:=.type "tuple",data:=.seq [u1,u2].toArray } }:=T.kept (t':=c.toks) λb o e=>aaq _ e;rw[hw];refine aaf (aak ?_);show ⇑0 (do rule "assign.swapped-stores";let items <- unpackItems (.ref c.heap.objs.size) 2 none;P_ [λv=>GE X.env y v,λv=>GE X.env x v] items.reverse;pure Flow.next) _ _ _;refine aaf (acH (aaf (yaA (items:=#[u1,u2]) (I.ok.hd L) (Xe c.heap _) λm t=>?_)));ext(R:S.kept (h':=m) (t':=c.toks) λb o e=>t b o (aax (aas e)) e);show wpAny _ _ (P_ [λv=>GE X.env y v,λv=>GE X.env x v] [u2,u1] >>= λ_=>pure Flow.next) _ _ _;refine aaf (zm (wpAny_bindName (h_ R l G (.inl g) F (λW Q=>?_) (.inr g))));refine zm (wpAny_bindName (h_ Q l J (.inl k) z (λV n=>yaF (aak ?_)) (.inr k)));rw[List.set_comm _ _ (ja O)]at n;exact⟨_,r,n,q1⟩
def Y1(i:Nat)(te:TE)(a:Yz):TS:=λD σ H=>∃x,σ[i]?=↥↥x/\te σ H λy c=>a x y c λz b=>D.nx (σ.set i ↥z) b
def Ei{i:Nat}{x:Str}{e:Expr}{op:nl}{n:Yz}(L:X.N.Nodup)(o:X.N[i]?=↥x)(g:Loc X.env.scope x)(he:PE X e te)(B:W7 X op n)(hf:X.fn x=true\/X.env.scope.names.lookup x=↥.local:=by first|exact .inl rfl|exact .inr rfl|assumption):
  PS X (.AugAssign (.Name x pos') op e pos) (Y1 i te n):=by
 intro pins s σ H D I h;ext(⟨v,e1,h⟩:h)(⟨m,C,G⟩:I.loc);have Xf:Nb X.env.scope x:=by ext((k|k):g);exact .inl k;exact .inr (.inl k)
 ext(⟨u,r,l⟩:G i x v o e1 Xf);refine wpAny_AugAssign_Name ?_;have go:⇑0 (eval e X.env) (λw f=>⇑0 (inplaceOp op u w) (λr d=>⇑0 (storeName X.env x r) (λ_=>SP X pins D .next) X.xe d) X.xe f) X.xe s:=by
  refine dO (he pins s σ H _ I h) λw p j=>?_;ext(⟨y,R,P,r1,q1⟩:j);refine dO (B pins p σ R v y u w _ P r r1 q1) λz U j=>?_;ext(⟨S,Q,O,q,t⟩:j);exact h_ O L o g q (λT M=>⟨_,Q,M,t⟩) hf
 ext((⟨a,F⟩|⟨a,c,J,b⟩):l)
 ·exact XQ I.ok.kind a C F go
 ·ext((a|a):a)
  ·exact X6 I.ok.kind a J b go
  ·ext((k|k):g)
   ·have:X.env.scope.names.lookup x=↥.free:=a;rw[k]at this;cases this
   ·have:X.env.scope.names.lookup x=↥.free:=a;rw[k]at this;cases this
def ipI(f:Int->Int->Int):Yz:=λx y H Q=>∃i j,x=.int i/\y=.int j/\Q ↑(f i j) H
def Pg:W7 X .Add (ipI λi j=>i+j):=by
 intro pins s σ H x y v u Q I r1 a h;ext(⟨i,j,e1,e2,q⟩:h);subst e1;subst e2;ext(⟨t,rfl⟩:r1)(⟨b,rfl⟩:a);exact iadd_int ⟨.int _,H,I.tok _,⟨_,rfl⟩,q⟩
def Pe:W7 X .Sub (ipI λi j=>i - j):=by
 intro pins s σ H x y v u Q I r1 a h;ext(⟨i,j,e1,e2,q⟩:h);subst e1;subst e2;ext(⟨t,rfl⟩:r1)(⟨b,rfl⟩:a);exact isub_int ⟨.int _,H,I.tok _,⟨_,rfl⟩,q⟩
end
section
variable {X:Cx}{pos:Pos}
def ND(c:TT)(tb:TS):TS:=λD σ H=>∃W:Nat->St->Hp->Prop,(∃m,W m σ H)/\∀m σ H,W m σ H ->
 c σ H λb e=>if b=true then ∃N:St->Hp->Prop,(∀a f,N a f->∃d,d<m/\W d a f)/\tb { D with nx:=N,ct:=N,bk:=D.nx } σ e else D.nx σ e
def Ef{c:Expr}{body:aP}{p:TT}{tb:TS}(q:PassesOwn (model X.prog X.w) X.A X.env X.xe)(F:PT X c p)(G:gO X body tb):PS X (.While c body [] pos) (ND p tb):=by
 intro pins s σ H D I h;ext(⟨W,⟨m0,w0⟩,turn⟩:h);refine wpAny_While (codeAny_whileLoop (λn C=>∃e y,Inv X pins e y C/\W n e y) ?_ m0 ⟨σ,H,I,w0⟩);rintro n B ⟨d,x,J,w1⟩;refine acP q (dO (F pins B d x _ J (turn n d x w1)) λb z ⟨u,t,j⟩=>?_);cases b with
 |true =>
  ext(⟨N,r,j⟩:j);rw[zac rfl];refine acP q (dO (G pins z d u _ t j) λf L i=>?_);cases f with
  |next =>
   ext(⟨a,g,o,k⟩:i)(⟨l,m,w3⟩:r a g k);exact⟨l,m,a,g,o,w3⟩
  |cont =>
   ext(⟨a,g,o,k⟩:i)(⟨l,m,w3⟩:r a g k);exact⟨l,m,a,g,o,w3⟩
  |brk=>exact i
  |ret v=>exact i
 |false =>
  exact[zab zaj]\adA ⟨d,u,t,j⟩
end
structure It where
 go:Nat->Hp->Prop
 zd:Nat->Hp->V->Hp->Prop
 stop:Nat->Hp->Prop
def qE(X:Cx)(pins:au)(H:Hp)(b:Addr):Prop :=
 H b=none/\b≠X.env.locals/\b∉X.fs/\(b∈X.ex\/X.s₀.heap.objs.size<=b)/\(∀x c,X.env.cells.lookup x=↥c->c≠b)/\∀p∈X.pn++pins,p.1≠b
def Inv.Kw{pins:au}{H H':Hp}{s:ap}{b:Addr}(I:Inv X pins σ H s)(a:s.heap.objs.size<=b)(hn:H' b=none):qE X pins H' b:=by
 refine⟨hn,aaT (aao I.lt a),I.OG a,.inr (aav I.sz a),λx c e z=>?_,λp d z=>?_⟩
 ·ext(⟨v,q⟩:I.cell x c e);exact absurd (aao q.lt ([z]\a)) (aa8 _)
 ·exact absurd (aao (aas (I.pin p d).1) ([z]\a)) (aa8 _)
structure Turn(P:aG)(w:World)(K:av)(tg:Expr)(J:It)(fp:aX)(it:Addr)(tn:Nat->Heap->Prop):Prop where
 mem:it∈fp
 obj:∀i h,tn i h->∀b∈fp,∃o,h.get? b=↥o/\∀v,o.data≠.cell v
 keep:∀i h h',tn i h->(∀b∈fp,∀o,h.get? b=↥o->h'.get? b=↥o)->tn i h'
 item:∀(X:Cx),X.prog=P->X.w=w->X.K=K->X.calm=true->∀(i:Nat) (pins:au) (s:ap) (σ:St) (H:Hp) (E:aB),Inv X pins σ H s->(∀b∈fp,qE X pins H b)->tn i s.heap->J.go i H ->
  wpAny (model P w) X.A (om (.ref it)) (λr s1=>∃u,r=↥u /\
   wpAny (model P w) X.A (vj tg (.ref it) u) (λ_ s2=>∃x H',Inv X pins σ H' s2/\RelV x u/\J.zd i H x H'/\tn (i+1) s2.heap/\∀b∈fp,H' b=none) E s1) E s
 done:∀(X:Cx),X.prog=P->X.w=w->X.K=K->X.calm=true->∀(i:Nat) (pins:au) (s:ap) (σ:St) (H:Hp) (E:aB),Inv X pins σ H s->(∀b∈fp,qE X pins H b)->tn i s.heap->J.stop i H ->
  wpAny (model P w) X.A (om (.ref it)) (λr s1=>r=none/\Inv X pins σ H s1) E s
 self:∀(A:aF) (i:Nat) (s:ap) (Q:aB) (E:aB),tn i s.heap->Q (.ref it) s->wpAny (model P w) A (re (.ref it)) Q E s
abbrev TI:=St->Hp->(It->Hp->Prop)->Prop
def HY(X:Cx)(pins:au)(σ:St)(tg:Expr)(R:It->Hp->Prop)(c:Value)(s2:ap):Prop :=
 ∃(it:Addr) (fp:aX) (a:Nat->Heap->Prop) (J:It) (H':Hp),c=.ref it/\Inv X pins σ H' s2/\Turn X.prog X.w X.K tg J fp it a/\a 0 s2.heap/\(∀b∈fp,qE X pins H' b)/\R J H'
def PI(X:Cx)(tg iter:Expr)(a:TI):Prop :=
 ∀(pins:au) (s:ap) (σ:St) (H:Hp) (R:It->Hp->Prop),Inv X pins σ H s->a σ H R ->
  ⇑0 (eval iter X.env) (λv b=>⇑0 (re v) (HY X pins σ tg R) X.xe b) X.xe s
def Gf{M:Model}{A:aF}{s:ap}{it:Addr}{u:Value}{o:Obj}{n:String}{vs:bq}{Q:Unit->ap->Prop}(b:s.heap.get? it=↥o)(c:o.cls=.type n)(hd:o.data=.fields vs)
    (hn:["enumerate","zip","dict_itemiterator","dict_reverseitemiterator","odict_iterator","itertools.zip_longest","itertools.pairwise"].contains n=false) (a:Q () s):wpAny M A (vj tg (.ref it) u) Q E s:=by
  unfold vj;cases tg<;>first
    |exact aak a
    | (cases u<;>first
        |exact aak a
        | (refine aaf (wpAny_load b ?_)
           rw[c,hd];show wpAny M A (if (["enumerate","zip","dict_itemiterator","dict_reverseitemiterator","odict_iterator","itertools.zip_longest","itertools.pairwise"].contains n&&vs[0]?==↥(vi _))=true then _ else _) Q E s;rw[zab (by intro h;rw[hn,zaJ]at h;cases h)];exact aak a))
meta def Su(S:Hp->Addr->ah->Prop)(a:Addr):It :=
 ⟨λi H=>∃b x,S H a b/\b[i]?=↥x,λi H x c=>c=H/\∀b,S H a b->b[i]?=↥x,λi H=>∃b,S H a b/\b.length<=i⟩
abbrev Itl(K:av)(a:Addr):It:=Su (eG K) a
abbrev Itt(K:av)(a:Addr):It:=Su (aY K) a
meta def CP(lo:Int)(n:Nat):It:=⟨λi _=>i<n,λi H x a=>a=H/\x=.int (lo+i),λi _=>n<=i⟩
variable {P:aG}{w:World}
def Bm(a it:Addr):Turn P w K tg (Itl K a) [it] it (λi h=>h.IsListIter it a i) where
 mem:=by simp
 obj:=λi h f b g=>by
  have e:b=it:=⇑g
  subst e;ext(⟨o,e,c,d⟩:f);exact⟨o,e,λv z=>by rw[d]at z;cases z⟩
 keep:=λi h l f k=>f.at λo e=>k it ⇑5 o e
 item:=by
  intro X r hw t F i pins s σ H E I hf f q;subst r hw t;ext(⟨J,x,j,n⟩:q)(⟨T,m,p,N⟩:I.list j)(⟨u,Q,M⟩:m.get n)(⟨D,C,R,B,A,y⟩:hf it ⇑5);refine wpAny_pyNext_list_item f p.isList (x:=u) ⇑Q λl G L=>?_;have U:Inv X pins σ H { s with heap:=l }:=I.turned (t':=s.toks) (λb o g e=>(L.2 b g).trans e) D C B A y;ext(⟨o,e,c,d⟩:id G);exact⟨u,rfl,Gf (s:={ s with heap:=l }) e c d ⇑4 ⟨x,H,U,M,⟨rfl,λV O=>[I.lU O j]\n⟩,G,λb g=>(hf b g).1⟩⟩
 done:=by
  intro X r hw t F i pins s σ H E I hf f q;subst r hw t;ext(⟨J,j,n⟩:q)(⟨T,m,p,N⟩:I.list j)(⟨D,C,R,B,A,y⟩:hf it ⇑5);have W:=m.length;exact wpAny_pyNext_list_end (I.ok.hd F) f p.isList (by simp;left) λl S=>⟨rfl,I.turned (t':=s.toks) (λb o g e=>S b o g e) D C B A y⟩
 self:=λ_ _ _ _ _ f h=>wpAny_pyIter_listiter f h
def xN(a it:Addr):Turn P w K tg (Itt K a) [it] it (λi h=>h.IsTupleIter it a i) where
 mem:=by simp
 obj:=λi h f b g=>by
  have e:b=it:=⇑g
  subst e;ext(⟨o,e,c,d⟩:f);exact⟨o,e,λv z=>by rw[d]at z;cases z⟩
 keep:=λi h l f k=>f.at λo e=>k it ⇑5 o e
 item:=by
  intro X r hw t G i pins s σ H E I hf f q;subst r hw t;ext(⟨L,x,j,n⟩:q)(⟨F,m,p,O⟩:I.tuple j)(⟨u,R,N⟩:m.get n)(⟨D,C,S,B,A,y⟩:hf it ⇑5);refine wpAny_pyNext_tuple_item f (show s.heap.IsTuple a F.toArray from p) (x:=u) ⇑R λl J M=>?_;have U:Inv X pins σ H { s with heap:=l }:=I.turned (t':=s.toks) (λb o g e=>(M.2 b g).trans e) D C B A y;ext(⟨o,e,c,d⟩:id J);exact⟨u,rfl,Gf (s:={ s with heap:=l }) e c d ⇑4 ⟨x,H,U,N,⟨rfl,λV Q=>[I.rF Q j]\n⟩,J,λb g=>(hf b g).1⟩⟩
 done:=by
  intro X r hw t G i pins s σ H E I hf f q;subst r hw t;ext(⟨L,j,n⟩:q)(⟨F,m,p,O⟩:I.tuple j)(⟨D,C,S,B,A,y⟩:hf it ⇑5);have W:=m.length;exact wpAny_pyNext_tuple_end (I.ok.hd G) f (show s.heap.IsTuple a F.toArray from p) (by simp;left) λl T=>⟨rfl,I.turned (t':=s.toks) (λb o g e=>T b o g e) D C B A y⟩
 self:=λ_ _ _ _ _ f h=>wpAny_pyIter_tupleiter f h
def xO(it:Addr)(lo:Int)(n:Nat):Turn P w K tg (CP lo n) [it] it (λi h=>IsRangeIter h it (lo+(i:Nat)*1) ((n:Int) - (i:Nat)) 1) where
 mem:=by simp
 obj:=λi h a b c=>by
  have e:b=it:=⇑c
  subst e;exact⟨_,a,λv z=>by
   have y:Data.fields _=Data.cell v:=z;cases y⟩
 keep:=λi h d a k=>k it ⇑5 _ a
 item:=by
  intro X j hw l g i pins s σ H E I hf a f;subst j hw l;ext(⟨u,r,C,q,p,m⟩:hf it ⇑5)(W:Walks.range (prog:=X.prog) (w:=X.w) (I.ok.hd g) it lo 1 n);refine W.item i s _ _ f a λv d tk B x A=>?_;ext(⟨t,rfl⟩:B);have F:Inv X pins σ H { s with heap:=d,toks:=tk }:=I.turned (λb o c e=>A b o ⇑c e) u r q p m;refine⟨_,rfl,Gf (s:={ s with heap:=d,toks:=tk }) (n:="range_iterator") x rfl rfl ⇑4 ⟨.int (lo+i),H,F,⟨t,?_⟩,⟨rfl,rfl⟩,x,λb c=>(hf b c).1⟩⟩;rw[Int.mul_one]
 done:=by
  intro X j hw l g i pins s σ H E I hf a f;subst j hw l;ext(⟨u,r,C,q,p,m⟩:hf it ⇑5);exact wpAny_pyNext_range_end (I.ok.hd g) a (by have:n<=i:=f;left) λd D=>⟨rfl,I.turned (t':=s.toks) (λb o c e=>D b o c e) u r q p m⟩
 self:=λ_ _ _ _ _ a h=>wpAny_pyIter_rangeiter a h
end L2
namespace L2
open PySem PySem.Spec PyProof.Rows
variable {fp:aX}{h:Heap}{lo:Int}{pos:Pos}{ta:TA}{σ:L2.St}
section
variable {X:Cx}{tg:Expr}
def U0(K:av)(tl:TE):TI:=λσ H R=>tl σ H λx b=>∃a,x=.ref a/\(∃c,eG K b a c)/\R (Itl K a) b
def aan(K:av)(tl:TE):TI:=λσ H R=>tl σ H λx b=>∃a,x=.ref a/\(∃c,aY K b a c)/\R (Itt K a) b
def tM{l:Expr}{tl:TE}(g:PE X l tl):PI X tg l (U0 X.K tl):=by
 intro pins s σ H R I h;refine dO (g pins s σ H _ I h) λv c j=>?_;ext(⟨x,k,d,r1,q1⟩:j)(⟨a,e,⟨m,f⟩,q⟩:q1);subst e;cases r1;ext(⟨t,n,p,r⟩:d.list f);refine yax p.isList ?_;refine⟨c.heap.objs.size,[c.heap.objs.size],_,_,k,rfl,d.kept (t':=c.toks) λb o e=>aaq _ e,Bm a _,⟨_,aaC _ rfl,rfl,rfl⟩,λb i=>?_,q⟩;have e:b=c.heap.objs.size:=⇑i
 subst e;exact d.Kw (aat _) (d.cJ.fresh (aat _))
def x9{l:Expr}{tl:TE}(g:PE X l tl):PI X tg l (aan X.K tl):=by
 intro pins s σ H R I h;refine dO (g pins s σ H _ I h) λv c j=>?_;ext(⟨x,m,d,r1,q1⟩:j)(⟨a,e,⟨n,f⟩,q⟩:q1);subst e;cases r1;ext(⟨k,r,p,t⟩:d.tuple f);refine yai (show c.heap.IsTuple a k.toArray from p) ?_;refine⟨c.heap.objs.size,[c.heap.objs.size],_,_,m,rfl,d.kept (t':=c.toks) λb o e=>aaq _ e,xN a _,⟨_,aaC _ rfl,rfl,rfl⟩,λb i=>?_,q⟩;have e:b=c.heap.objs.size:=⇑i
 subst e;exact d.Kw (aat _) (d.cJ.fresh (aat _))
def vO{pins:au}{H:Hp}{s:ap}{R:It->Hp->Prop}{E:aB}{a:Int}{t u v:Tok}{tk:Nat}(I:Inv X pins σ H s)(j:-(2 ^ 62)<=lo)(i:lo<2 ^ 62)(g:-(2 ^ 62)<=a)(f:a<2 ^ 62)
  (q:R (CP lo (a - lo).toNat) H):⇑0 (re (.ref s.heap.objs.size)) (HY X pins σ tg R) E { s with heap:=s.heap.push { cls:=.type "range",data:=.fields #[.int lo t,.int a u,.int 1 v] },toks:=tk }:=by
 refine wpAny_pyIter_range (IsRange.new ..) (small_one j i g f) ?_;have c:Inv X pins σ H { s with heap:=s.heap.push { cls:=.type "range",data:=.fields #[.int lo t,.int a u,.int 1 v] },toks:=tk }:=I.kept λb o e=>aaq _ e;refine⟨(s.heap.push { cls:=.type "range",data:=.fields #[.int lo t,.int a u,.int 1 v] }).objs.size,[(s.heap.push { cls:=.type "range",data:=.fields #[.int lo t,.int a u,.int 1 v] }).objs.size],_,_,H,rfl,
  c.kept (t':=tk) λb o e=>aaq _ e,xO _ lo (a - lo).toNat,?_,λb d=>?_,q⟩
 ·have e1:lo+((0:Nat):Int)*1=lo:=by simp
  have e2:(((a - lo).toNat:Nat):Int) - ((0:Nat):Int)=yaT lo a 1:=by rw[rangeSize_one];split<;>left
  show IsRangeIter _ _ (lo+((0:Nat):Int)*1) ((((a - lo).toNat:Nat):Int) - ((0:Nat):Int)) 1;exact[e1,e2]\aaC _ rfl
 ·have e:b=(s.heap.push { cls:=.type "range",data:=.fields #[.int lo t,.int a u,.int 1 v] }).objs.size:=⇑d
  subst e;exact c.Kw (aat _) (c.cJ.fresh (aat _))
def UZ(ta:TA):TI:=λσ H R=>ta σ H λa b=>∃j:Int,a=[.int j] /\ -(2 ^ 62)<=j/\j<2 ^ 62/\R (CP 0 j.toNat) b
def UY(ta:TA):TI:=λσ H R=>ta σ H λa b=>∃i j:Int,a=[.int i,.int j]/\(-(2 ^ 62)<=i/\i<2 ^ 62 /\ -(2 ^ 62)<=j/\j<2 ^ 62)/\R (CP i (j - i).toNat) b
def rO{a:Expr}{p:Pos}(f:Gl X "range")(d:X.mg "range" = none)(g:PA X [a] ta)(hs:cm [a] X.env=[(false,eval a X.env)]:=by rfl):PI X tg (.Call (.Name "range" p) [a] [] pos) (UZ ta):=by
 intro pins s σ H R I h;refine Call_ (gR I f d boot_range (abk (dO (g pos pins s σ H _ I h) λm n i=>?_) hs rfl));ext(⟨l,o,k,r1,q1⟩:i)(⟨j,e,q1,c,q⟩:q1);subst e;cases r1 with
 |cons r b =>
  cases b;ext(⟨t,rfl⟩:r);exact call_range_1 (vO k ⋯ ⋯ q1 c ⇑q)
def rN{a b:Expr}{p:Pos}(n:Gl X "range")(m:X.mg "range" = none)(o:PA X [a,b] ta)(hs:cm [a,b] X.env=[(false,eval a X.env),(false,eval b X.env)]:=by rfl)(d:cm [b] X.env=[(false,eval b X.env)]:=by rfl):
  PI X tg (.Call (.Name "range" p) [a,b] [] pos) (UY ta):=by
 intro pins s σ H R I h;refine Call_ (gR I n m boot_range (abk (dO (o pos pins s σ H _ I h) λx z u=>?_) ⇑[hs,d] (by rw[d];rfl)));ext(⟨w,A,v,r1,q1⟩:u)(⟨i,j,e,⟨q1,l,k,g⟩,q⟩:q1);subst e;cases r1 with
 |cons r c =>
  cases c with
  |cons f c =>
   cases c;ext(⟨t,rfl⟩:r)(⟨y,rfl⟩:f);exact call_range_2 (vO v q1 l k g q)
def Y0(e:TI)(g:TG)(tb:TS):TS:=λD σ H=>e σ H λJ j=>∃W:Nat->Nat->St->Hp->Prop,(∃m,W 0 m σ j)/\∀i m σ H,W i m σ H ->
 (J.stop i H/\D.nx σ H)\/(J.go i H/\∃N:St->Hp->Prop,(∀a b,N a b->∃d,d<m/\W (i+1) d a b)/\∀x b,J.zd i H x b->g x σ b λc f=>tb { D with nx:=N,ct:=N,bk:=D.nx } c f)
meta def jx(fp:aX)(h:Heap):au:=fp.filterMap λb=>(h.get? b).map λo=>(b,o)
def iP{b:Addr}{o:Obj}(a:b∈fp)(e:h.get? b=↥o):(b,o)∈jx fp h:=wi.mpr ⟨b,a,by rw[e];rfl⟩
def rQ{p:Addr×Obj}(a:p∈jx fp h):p.1∈fp/\h.get? p.1=↥p.2:=by
 ext(⟨b,c,e⟩:wi.mp a);cases q:h.get? b with
 |none=>rw[q]at e;cases e
 |some o =>
  rw[q]at e;have d:(b,o)=p:=aaV e;subst d;exact⟨c,q⟩
def Inv.pinned{pins:au}{H:Hp}{s:ap}(I:Inv X pins σ H s)(hf:∀b∈fp,qE X pins H b)(g:∀b∈fp,∃o,s.heap.get? b=↥o/\∀v,o.data≠.cell v):Inv X (pins++jx fp s.heap) σ H s :=
 I.j5 λp f=>(c0.mp f).elim (λz=>I.pin p (aay _ z)) λz=>by
  ext(⟨a,e⟩:rQ z)(⟨k,j,i,_⟩:hf p.1 a)(⟨o,c,d⟩:g p.1 a);rw[e]at c;cases c;exact⟨e,k,j,i,d⟩
def Inv.lJ{pins a:au}{H:Hp}{s:ap}(I:Inv X (pins++a) σ H s):Inv X pins σ H s:=I.j5 λp b=>I.pin p (aay _ (aa0 _ b))
def kP{iter:Expr}{body:aP}{Q:TI}{g:TG}{tb:TS}(z:PassesOwn (model X.prog X.w) X.A X.env X.xe)(Y:X.calm=true)(hi:PI X tg iter Q)(hg:PG X tg g)(k:gO X body tb)
  (hs:∀x,m8 iter X.env x=pure x:=by intro _;rfl):PS X (.For tg iter body [] pos) (Y0 Q g tb):=by
 intro pins s σ H D I h;refine wpAny_For (dO (hi pins s σ H _ I h) λv s1 h1=>dO h1 λZ_ s2 h2=>?_) hs;ext(⟨it,fp,R,J,H2,e,I2,T,jX,Z,W,⟨m0,w0⟩,turn⟩:h2);subst e;have L:∀{H':Hp},(∀b∈fp,H' b=none)->∀b∈fp,qE X pins H' b:=λhn b k=>⟨hn b k,(Z b k).2⟩
 refine codeAny_forLoop_any (λn V=>∃i j H',Inv X pins j H' V/\R i V.heap/\(∀b∈fp,H' b=none)/\W i n j H') ?_ m0 ⟨0,σ,H2,I2,jX,λb k=>(Z b k).1,w0⟩;rintro n U ⟨i,c,C,I3,P,B,w3⟩;ext((⟨stop,qn⟩|⟨go,N,hN,step⟩):turn i n c C w3)
 ·refine acP z (dO (T.done X rfl rfl rfl Y i pins U c C X.xe I3 (L B) P stop) λr s4 t=>?_);ext(⟨G,I4⟩:t);subst G;exact adA ⟨c,C,I4,qn⟩
 ·refine acP z (dO (T.item X rfl rfl rfl Y i pins U c C X.xe I3 (L B) P go) λr s4 t=>?_);ext(⟨u,G,h4⟩:t);subst G;refine acP z (dO h4 λ_ S t=>?_);ext(⟨x,H5,I5,r5,y5,M,K⟩:t)(O:I5.pinned (L K) (T.obj _ _ M));refine acP z (dO (hg _ S c H5 x u _ O r5 (step x H5 y5)) λ_ s6 t=>?_);ext(⟨E,H6,I6,q6⟩:t);refine acP z (dO (k _ s6 E H6 _ I6 q6) λf F q=>?_);have again:∀{a:St} {p:Hp},Inv X (pins++jx fp S.heap) a p F->N a p->∃m,m<n/\∃i j H',Inv X pins j H' F/\R i F.heap/\(∀b∈fp,H' b=none)/\W i m j H':=λ{a p} l y=>by
   ext(⟨m',hm,w7⟩:hN a p y);refine⟨m',hm,i+1,a,p,l.lJ,T.keep _ _ _ M λb k o e=>(l.pin (b,o) (aay _ (aay _ (iP k e)))).1,λb k=>?_,w7⟩;ext(⟨o,e,d⟩:T.obj _ _ M b k);exact(l.pin (b,o) (aay _ (aay _ (iP k e)))).2.1
  cases f with
  |next=>ext(⟨a,p,l,y⟩:q);exact again l y
  |cont=>ext(⟨a,p,l,y⟩:q);exact again l y
  |brk=>ext(⟨a,p,l,q⟩:q);exact⟨a,p,l.lJ,q⟩
  |ret v=>ext(⟨x7,a,p,l,r7,q⟩:q);exact⟨x7,a,p,l.lJ,r7,q⟩
end
def oF{S:Hp->Addr->ah->Prop}{a:Addr}{xs:ah}{g:TG}{tb:TS}{D:Ends}{H:Hp}(b:Nat->St->Hp->Prop)(s:b 0 σ H)(o:∀i σ H,i<=xs.length->b i σ H->S H a xs)
  (hs:∀i x σ H,xs[i]?=↥x->b i σ H->g x σ H λc j=>tb { D with nx:=b (i+1),ct:=b (i+1),bk:=D.nx } c j) (hd:∀σ H,b xs.length σ H->D.nx σ H) :
  ∃W:Nat->Nat->St->Hp->Prop,(∃m,W 0 m σ H)/\∀i m σ H,W i m σ H ->
   ((Su S a).stop i H/\D.nx σ H)\/((Su S a).go i H/\∃N:St->Hp->Prop,(∀d f,N d f->∃k,k<m/\W (i+1) k d f)/\∀x f,(Su S a).zd i H x f->g x σ f λc j=>tb { D with nx:=N,ct:=N,bk:=D.nx } c j):=by
 refine⟨λi m σ H=>m=xs.length - i/\i<=xs.length/\b i σ H,⟨xs.length,by simp,aa6 _,s⟩,?_⟩;rintro i m σ H ⟨rfl,r,p⟩;ext(q:o i σ H r p);by_cases l:i<xs.length
 ·refine .inr ⟨⟨xs,xs[i],q,by simp[l]⟩,b (i+1),λd f n=>⟨xs.length - (i+1),by left,rfl,l,n⟩,λx f y=>?_⟩;ext(⟨e,y⟩:y);subst e;exact hs i x σ _ (y xs q) p
 ·have e:i=xs.length:=by left
  subst e;exact .inl ⟨⟨xs,q,aat _⟩,hd σ H p⟩
def Cn{n:Nat}{g:TG}{tb:TS}{D:Ends}{H:Hp}(c:Nat->St->Hp->Prop)(o:c 0 σ H)
  (hs:∀i σ H,i<n->c i σ H->g ↑(lo+i) σ H λa j=>tb { D with nx:=c (i+1),ct:=c (i+1),bk:=D.nx } a j) (hd:∀σ H,c n σ H->D.nx σ H) :
  ∃W:Nat->Nat->St->Hp->Prop,(∃m,W 0 m σ H)/\∀i m σ H,W i m σ H ->
   ((CP lo n).stop i H/\D.nx σ H)\/((CP lo n).go i H/\∃N:St->Hp->Prop,(∀b d,N b d->∃k,k<m/\W (i+1) k b d)/\∀x d,(CP lo n).zd i H x d->g x σ d λa j=>tb { D with nx:=N,ct:=N,bk:=D.nx } a j):=by
 refine⟨λi m σ H=>m=n - i/\i<=n/\c i σ H,⟨n,by simp,aa6 _,o⟩,?_⟩;rintro i m σ H ⟨rfl,q,p⟩;by_cases f:i<n
 ·refine .inr ⟨f,c (i+1),λb d l=>⟨n - (i+1),by left,rfl,f,l⟩,λx d y=>?_⟩;ext(⟨e,y⟩:y);subst e y;exact hs i σ _ f p
 ·have e:i=n:=by left
  subst e;exact .inl ⟨aat _,hd σ H p⟩
end L2
namespace L2
open PySem PySem.Spec PyProof.Rows
abbrev R2:=V->V->Hp->VK->Prop
def oV(X:Cx)(f:Value->Value->Sem Value)(r:R2):Prop :=
 ∀(pins:au) (s:ap) (a:St) (H:Hp) (x y:V) (v u:Value) (Q:VK),Inv X pins a H s->RelV x v->RelV y u->r x y H Q ->
  ⇑0 (f v u) (EP X pins a Q) X.xe s
def UnR(X:Cx)(f:Value->Sem Value)(r:V->Hp->VK->Prop):Prop :=
 ∀(pins:au) (s:ap) (a:St) (H:Hp) (x:V) (v:Value) (Q:VK),Inv X pins a H s->RelV x v->r x H Q ->
  ⇑0 (f v) (EP X pins a Q) X.xe s
def fJ(X:Cx)(f:Value)(r:ah->Hp->VK->Prop):Prop :=
 ∀(pins:au) (s:ap) (a:St) (H:Hp) (xs:ah) (b:aw) (Q:VK),Inv X pins a H s->Vals xs b->r xs H Q ->
  ⇑0 (call f b) (EP X pins a Q) X.xe s
def NG(r:R2)(b tb:TE):TE:=λa H Q=>b a H λx d=>tb a d λy c=>r x y c Q
def tUn(r:V->Hp->VK->Prop)(b:TE):TE:=λa H Q=>b a H λx c=>r x c Q
def rI(C:Int->Int->Prop)(g:Int->Int->V):R2:=λx y H Q=>∃i j,x=.int i/\y=.int j/\C i j/\Q (g i j) H
def HL(g:Int->Int->V):R2:=λx y H Q=>∃i j,x=.int i/\y=.int j/\Q (g i j) H
def rU(g:Int->V):V->Hp->VK->Prop:=λx H Q=>∃i,x=.int i/\Q (g i) H
section
variable {X:Cx}{a b c:Expr}{ta tb tc:TE}{pos:Pos}
def Rp(q:PE X a ta)(p:PE X b tb){pins:au}{s:ap}{d:St}{H:Hp}{R:V->V->Hp->Prop}(I:Inv X pins d H s)
  (h:ta d H λx l=>tb d l λy e=>R x y e) {Q:aB} {f:Value->Value->Sem Value}
  (hf:∀v u j x y e,Inv X pins d e j->RelV x v->RelV y u->R x y e->⇑0 (f v u) Q X.xe j) :
  ⇑0 (eval a X.env) (λv i=>⇑0 (eval b X.env) (λu g=>⇑0 (f v u) Q X.xe g) X.xe i) X.xe s:=by
 refine dO (q pins s d H _ I h) λv m k=>?_;ext(⟨x,l,t,r1,q1⟩:k);refine dO (p pins m d l _ t q1) λu j k=>?_;ext(⟨y,e,r,n,o⟩:k);exact hf v u j x y e r r1 n o
def Mm{op:nl}{r:R2}(i:oV X (v6 op) r)(k:PE X a ta)(j:PE X b tb):PE X (.BinOp a op b pos) (NG r ta tb):=by
 intro pins s d H Q I h;exact wpAny_BinOp (Rp k j I h λv u e x y m l g f q=>i pins e d m x y v u Q l g f q)
def T7{op:Zg}{r:V->Hp->VK->Prop}(f:UnR X (unaryOp op) r)(g:PE X a ta):PE X (.UnaryOp op a pos) (tUn r ta):=by
 intro pins s d H Q I h;exact UnaryOp_ (dO (g pins s d H _ I h) λv e ⟨x,j,i,r1,q1⟩=>f pins e d j x v Q i r1 q1)
def OB{f:Value->Value->Sem Value}{C:Int->Int->Prop}{g:Int->Int->Int}
  (rule:∀(i j:Int) (t u:Tok) (s:ap) (Q:aB) (E:aB),C i j->Q (.int (g i j) s.toks) { s with toks:=s.toks+1 }->⇑0 (f (.int i t) (.int j u)) Q E s) :
  oV X f (rI C λi j=>.int (g i j)):=by
 intro pins s m H x y v u Q I k e h;ext(⟨i,j,rfl,rfl,l,q⟩:h)(⟨t,rfl⟩:k)(⟨d,rfl⟩:e);exact rule i j t d s _ _ l ⟨.int (g i j),H,I.tok _,⟨_,rfl⟩,q⟩
def JF{f:Value->Value->Sem Value}{g:Int->Int->Bool}
  (rule:∀(i j:Int) (t u:Tok) (s:ap) (Q:aB) (E:aB),Q (.bool (g i j)) s->⇑0 (f (.int i t) (.int j u)) Q E s) :
  oV X f (HL λi j=>.bl (g i j)):=by
 intro pins s l H x y v u Q I k e h;ext(⟨i,j,rfl,rfl,q⟩:h)(⟨t,rfl⟩:k)(⟨d,rfl⟩:e);exact rule i j t d s _ _ ⟨.bl (g i j),H,I,rfl,q⟩
def unI{f:Value->Sem Value}{g:Int->Int}
  (rule:∀(i:Int) (t:Tok) (s:ap) (Q:aB) (E:aB),Q (.int (g i) s.toks) { s with toks:=s.toks+1 }->⇑0 (f (.int i t)) Q E s) :
  UnR X f (rU λi=>.int (g i)):=by
 intro pins s e H x v Q I d h;ext(⟨i,rfl,q⟩:h)(⟨t,rfl⟩:d);exact rule i t s _ _ ⟨.int (g i),H,I.tok _,⟨_,rfl⟩,q⟩
def Nz:UnR X (unaryOp .USub) (rU λi=>.int (-i)):=unI λ_ _ _ _ _ q=>neg_int q
end
variable {us:aw}
section
variable {X:Cx}{a b c:Expr}{ta tb tc:TE}{pos:Pos}
def T_:oV X (j_ .Lt) (HL λi j=>.bl (decide (i<j))):=JF λ_ _ _ _ _ _ _ q=>lt_int q
def Ua:oV X (j_ .LtE) (HL λi j=>.bl (decide (i<=j))):=JF λ_ _ _ _ _ _ _ q=>le_int q
def Ub:oV X (j_ .Gt) (HL λi j=>.bl (decide (j<i))):=JF λ_ _ _ _ _ _ _ q=>gt_int q
def Uc:oV X (j_ .GtE) (HL λi j=>.bl (decide (j<=i))):=JF λ_ _ _ _ _ _ _ q=>ge_int q
def oV.or{f:Value->Value->Sem Value}{r i:R2}(h:oV X f r)(h':oV X f i):oV X f (λx y H Q=>r x y H Q\/i x y H Q):=by
 intro pins s d H x y v u Q I g e q;ext((q|q):q)
 ·exact h pins s d H x y v u Q I g e q
 ·exact h' pins s d H x y v u Q I g e q
def ET(b:Expr){op:CmpOp}(h:op≠.In:=by decide)(d:op≠.NotIn:=by decide):lf op b=false:=by
 have e1:(op==CmpOp.In)=false:=by cases op<;>first|rfl|exact absurd rfl h
 have e2:(op==yaQ)=false:=by cases op<;>first|rfl|exact absurd rfl d
 cases b<;>simp[lf,e1,e2]
def zX{op:CmpOp}{r:R2}(i:oV X (j_ op) r)(l:PE X a ta)(k:PE X b tb)(j:lf op b=false):PE X (.Compare a [op] [b] pos) (NG r ta tb):=by
 intro pins s d H Q I h;exact wpAny_Compare1 (Rp l k I h λv u e x y n m g f q=>i pins e d n x y v u Q m g f q) j
def LQ(t:TE):TT:=λd H Q=>t d H λx e=>∃k,x=.bl k/\Q k e
def zQ{op:CmpOp}{r:R2}(n:oV X (j_ op) r)(q:PE X a ta)(p:PE X b tb)(o:lf op b=false):PT X (.Compare a [op] [b] pos) (LQ (NG r ta tb)):=by
 intro pins s d H Q I h;refine Vm (dO (q pins s d H _ I h) λv g ⟨x,D,A,r1,q1⟩=>dO (p pins g d D _ A q1) λu f ⟨y,C,w,j,m⟩ =>
  dO (n pins f d C x y v u _ w r1 j m) λc E ⟨z,B,t,i,k,e,l⟩=>?_) o
 subst e;cases i;exact abV ⟨B,t,l⟩
def yi:(sizeLine:Nat)<2 ^ 63:=by rw[kD];decide
def vals1{x:V}(r:Vals [x] us):∃u,us=[u]/\RelV x u:=by
 cases r with
 |cons r1 d=>cases d;exact⟨_,rfl,r1⟩
def vals2{x y:V}(r:Vals [x,y] us):∃u d,us=[u,d]/\RelV x u/\RelV y d:=by
 cases r with
 |cons r1 g =>
  cases g with
  |cons f e=>cases e;exact⟨_,_,rfl,r1,f⟩
def He:fJ X (.builtin "abs") (λd H Q=>∃i,d=[.int i]/\Q ↑(if i<0 then -i else i) H):=by
 intro pins s e H d us Q I r h;ext(⟨i,rfl,q⟩:h)(⟨u,rfl,t,rfl⟩:vals1 r);exact call_abs_int λu tk=>⟨.int (if i<0 then -i else i),H,I.tok _,⟨_,rfl⟩,q⟩
def CJ(f:X.calm=true):fJ X (.builtin "max") (λe H Q=>∃i j,e=[.int i,.int j]/\Q ↑(if j>i then j else i) H):=by
 intro pins s g H e us Q I r h;ext(⟨i,j,rfl,q⟩:h)(⟨u,l,rfl,⟨t,rfl⟩,⟨m,rfl⟩⟩:vals2 r);refine max_two_ints (I.ok.hd f) λn tk k=>⟨_,H,I.kept k,?_,q⟩
 by_cases d:j>i
 ·exact[zac d,zac d]\⟨_,rfl⟩
 ·exact[zab d,zab d]\⟨_,rfl⟩
def CH(f:X.calm=true):fJ X (.builtin "min") (λe H Q=>∃i j,e=[.int i,.int j]/\Q ↑(if j<i then j else i) H):=by
 intro pins s g H e us Q I r h;ext(⟨i,j,rfl,q⟩:h)(⟨u,l,rfl,⟨t,rfl⟩,⟨m,rfl⟩⟩:vals2 r);refine min_two_ints (I.ok.hd f) λn tk k=>⟨_,H,I.kept k,?_,q⟩
 by_cases d:j<i
 ·exact[zac d,zac d]\⟨_,rfl⟩
 ·exact[zab d,zab d]\⟨_,rfl⟩
end
end L2
namespace L2
open PySem PySem.Spec PyProof.Rows
def CO.some_of{v:V}{o:Option Value}(r:CO ↥v o):∃u,o=↥u/\RelV v u:=by
 cases o with
 |none=>exact(show False from r).elim
 |some u=>exact⟨u,rfl,r⟩
structure Sv(K:av)(C:Addr):Prop where
 pg:PySem.W.plainGet K C Str.empty=true
 hd:PySem.W.hasDictIn K C=true
 po:PySem.W.plainOver K C=true
 sa:hY K (.ref C) "__setattr__" = ↥↥(.builtin "object.__setattr__")
end L2
namespace L2
open PySem PySem.Spec PyProof.Rows
structure gu(k:Nat)(A:aF):Prop where
 hd:A.handled=none
 dp:A.depth+3*k+5<recursionLimit
 un:A.units+16*k+200<cLine
variable {A:aF}
def gu.mono{j k:Nat}(r:gu k A)(h:j<=k):gu j A:=⟨r.hd,by have:=r.dp;left,by have:=r.un;left⟩
theorem gu.deeper{k:Nat}{A:aF}(r:gu (k+1) A)(env:Env):gu k (A.deeper env) :=
 ⟨r.hd,by have:=r.dp;show A.depth+1+3*k+5<_;left,by have:=r.un;show A.units+3+16*k+200<_;left⟩
theorem gu.depth{k:Nat}{A:aF}(r:gu k A):A.depth<recursionLimit:=by have:=r.dp;left
theorem gu.units{k:Nat}{A:aF}(r:gu k A):A.units+64<cLine:=by have:=r.un;left
def NH:TA:=λ_ H Q=>Q [] H
def DJ(d:TE)(c:TA):TA:=λa H Q=>d a H λx f=>c a f λb e=>Q (x::b) e
section
variable {X:Cx}{e:Expr}{es:aj}{te:TE}{t:TA}{pos:Pos}
def dt:PA X [] NH:=λ_ _ _ _ H Q I h=>aew ⟨[],H,I,.nil,h⟩
def cc(i:PE X e te)(g:PA X es t)(hs:cm (e::es) X.env=(false,eval e X.env)::cm es X.env:=by rfl):PA X (e::es) (DJ te t):=by
 intro pos pins s a H Q I h;rw[hs];show wpAny _ _ (spliced ((false,eval e X.env)::nw pos (cm es X.env))) _ _ s;refine aeh (dO (i pins s a H _ I h) λu c j=>?_);ext(⟨x,n,l,r1,q1⟩:j);exact dO (g pos pins c a n _ l q1) λo p ⟨b,m,k,d,f⟩=>⟨x::b,m,k,.cons r1 d,f⟩
def YS(t:TA):TE:=λc H Q=>t c H λa b=>a.length<=sizeLine/\∀p,b p=none->Q (.ref p) (upd b p (.tup a))
def YX(t:TA):TE:=λc H Q=>t c H λa b=>a.length<=sizeLine/\∀p,b p=none->Q (.ref p) (upd b p (.lst a))
def Oj{x1}(h:PA X es t):PE X (.Tuple es x1 pos) (YS t):=by
 intro pins s f H Q I j;refine wpAny_Tuple_spliced (dO (h pos pins s f H _ I j) λi a ⟨g,d,c,r,z,q⟩=>⟨[-r.length]\z,?_⟩);have hf:d a.heap.objs.size=none:=c.cJ.fresh (aat _);refine⟨.ref a.heap.objs.size,upd d a.heap.objs.size (.tup g),c.laid (t':=a.toks) (λb u e=>aaq _ e) (aat _) ?_,rfl,q _ hf⟩;exact⟨z,i,r,⟨_,aaC _ rfl,rfl,_,rfl⟩⟩
def tO(h:PA X es t):PE X (.List es pos) (YX t):=by
 intro pins s f H Q I j;refine wpAny_List_spliced (dO (h pos pins s f H _ I j) λi a ⟨g,d,c,r,z,q⟩=>⟨[-r.length]\z,?_⟩);have hf:d a.heap.objs.size=none:=c.cJ.fresh (aat _);refine⟨.ref a.heap.objs.size,upd d a.heap.objs.size (.lst g),c.laid (t':=a.toks) (λb u e=>aaq _ e) (aat _) ?_,rfl,q _ hf⟩;exact⟨z,i,0,r,aaC _ rfl⟩
end
abbrev Sp:=ah->Hp->VK->XK->Prop
abbrev CU:=List Env->Hp->ap->XK->aB
structure LC(P:aG)(w:World)(K:av)(mg:aT)(base:Heap)(A:aF)(outer:List Env)(s:ap)(H:Hp):Prop where
 frames:A.frames=↥outer
 mod:Mod K mg base
 bs:∀b o,base.get? b=↥o->s.heap.get? b=↥o/\H b=none
 Hj:base.objs.size<=s.heap.objs.size
 kT:s.heap.FunFrames base outer
 C8:∀b∈m6 outer,H b=none
 cJ:kj H s.heap
 bare:sB s.gens
def CE(outer:List Env)(P:aG)(w:World)(H:Hp)(s:ap)(Q:VK)(u:Value)(s':ap):Prop :=
 ∃v a,s'.os=s.os/\sB s'.gens/\Un (m6 outer) [] H a s.heap s'.heap/\kj a s'.heap/\RelV v u/\Q v a
def CR(CX:CU)(outer:List Env)(P:aG)(w:World)(H:Hp)(s:ap)(Q:VK)(E:XK)(r:Result)(s':ap):Prop :=
 match r with
 |.ok (.ret u)=>CE outer P w H s Q u s'
 |.ok _=>False
 |.error e=>CX outer H s E e s'
structure fP(P:aG)(w:World)(K:av)(mg:aT)(base:Heap)(CX:CU)(k:Nat)(f:Addr)(fd:hD)(ps:ao)(sp:Sp):Prop where
 len:∀vs H Q E,sp vs H Q E->vs.length=ps.length
 run:∀(A:aF) (outer:List Env) (s:ap) (H:Hp) (args:Args) (us:aw) (vs:ah) (Q:VK) (E:XK),gu k A->LC P w K mg base A outer s H->Tk s fd args (ps.zip us)->Vals vs us->sp vs H Q E ->
  qS (model P w) A (.call (.ref f) args) (CR CX outer P w H s Q E) s
theorem fP.mono{P:aG}{w:World}{K:av}{mg:aT}{base:Heap}{CX:CU}{j k:Nat}{f:Addr}{b:hD}{a:ao}{sp:Sp}(F:fP P w K mg base CX j f b a sp)(h:j<=k):
  fP P w K mg base CX k f b a sp:=⟨F.len,λA outer s H args d c Q E e=>F.run A outer s H args d c Q E (e.mono h)⟩
variable {Q:VK}
section
variable {X:Cx}{pins:au}{σ:St}{H:Hp}{s s':ap}
def Inv.abS(I:Inv X pins σ H s):LC X.prog X.w X.K X.mg X.base X.A X.stack s H :=
 ⟨I.ok.frames,I.ok.mod,I.bs,aav I.ok.Hj I.sz,I.stack,I.lN,I.cJ,I.bare⟩
def Inv.after{u:Value}(I:Inv X pins σ H s)(h:CE X.stack X.prog X.w H s Q u s'):EP X pins σ Q u s':=by
 ext(⟨v,i,a,bare,un,e,r,q⟩:h)(⟨c,g,d,t,f⟩:s');obtain rfl:f=s.os:=a;exact⟨v,i,I.call (h':=c) (g':=g) (d':=d) (t':=t) (ch:=[]) un e bare (λb z=>absurd z ⇑5),r,q⟩
end
def Tc(sp:Sp)(gd:ah)(E:XK)(t:TA):TE:=λa H Q=>t a H λb c=>sp (b++gd) c Q E
def Binds(K:av)(c:hD)(b:ao)(ds:aw):Prop :=
 ∀(s:ap) (a:aw),K.In s.heap->(a++ds).length=b.length->Tk s c ⟨a,[]⟩ (b.zip (a++ds))
variable {K:av}{N ps:ao}
def Binds.all{c:hD}(h:∀a:aw,a.length=ps.length->y2 c ⟨a,[]⟩=pure (ps.zip a)):Binds K c ps []:=λs a _ b=>by
 rw[zav]at b ⊢;exact .of_eq (h a b)
def Passes(CX:CU)(X:Cx)(E:XK):Prop:=∀(pins:au) (a:St) (H:Hp) (s:ap) (e:Value) (s':ap),Inv X pins a H s->CX X.stack H s E e s'->X.xe e s'
variable {us:aw}{vs:ah}
section
variable {X:Cx}{CX:CU}{k:Nat}{f C:Addr}{fd:hD}{ps:ao}{sp:Sp}{gd:ah}{ds:aw}{E:XK}{x m:Str}{p pos apos:Pos}{e o:Expr}{es:aj}{ta:TE}{t:TA}
def N8{pins:au}{b:St}{H:Hp}{s:ap}(F:fP X.prog X.w X.K X.mg X.base CX k f fd ps sp)(i:gu k X.A)(l:Binds X.K fd ps ds)(hd:Vals gd ds)(g:Passes CX X E)
  (I:Inv X pins b H s) (r:Vals vs us) (h:sp (vs++gd) H Q E):⇑0 (call (.ref f) us) (EP X pins b Q) X.xe s:=by
 have c:Vals (vs++gd) (us++ds):=r.append hd;have j:(us++ds).length=ps.length:=[-c.length]\F.len _ _ _ _ h
 refine wpAny_call (ad9 (F.run X.A X.stack s H ⟨us,[]⟩ (us++ds) (vs++gd) Q E i I.abS (l s us I.CW j) c h) λr d a=>?_);cases r with
 |error e=>exact g pins b H s e d I a
 |ok n =>
  cases n with
  |ret u=>exact I.after a
  |next=>exact lv a
  |brk=>exact lv a
  |cont=>exact lv a
def tP(F:fP X.prog X.w X.K X.mg X.base CX k f fd ps sp)(d:gu k X.A)(j:Gl X x)(g:X.mg x=↥(.ref f))(i:hP X.K (.ref f)=true)(l:Binds X.K fd ps ds)(hd:Vals gd ds)(c:Passes CX X E)
  (n:PA X (e::es) t) (u:(x==⇑9)=false:=by decide) (he:cm (e::es) X.env=(false,eval e X.env)::cm es X.env:=by rfl) (hpl:(nw pos (cm es X.env)).any (·.1)=false:=by rfl) :
  PE X (.Call (.Name x p) (e::es) [] pos) (Tc sp gd E t):=by
 intro pins s b H Q I h;refine acK (t_ I j g ?_ u);refine PySem.W.callWith_K (h₀:=X.base) I.ok.mod.Z4 i (dO (n pos pins s b H _ I h) λus v ⟨vs,y,a,r,q⟩=>⟨a.CW,?_⟩) he hpl;exact N8 F d l hd c a r q
end
structure e_(N P:ao)(sc:Scope):Prop where
 kind:sc.kind=.function
 co:sc.isCoroutine=false
 gen:sc.isGenerator=false
 nd:N.Nodup
 pre:N.take P.length=P
 par:∀x∈P,sc.names.lookup x=↥.local\/sc.names.lookup x=↥.cell
 OH:∀y∈sc.names,y.2≠.free
theorem sG{kindOf:Str->Option nt}{x:Str}:∀{binds:List (Str×Value)} {m:aT},(∀v,(x,v)∉binds)->bindL kindOf binds m x=m x
 |[],_,_=>rfl
 | (n,v)::r,m,h=>by
  unfold bindL;rw[sG λw hw=>h w (zaS _ hw)];split
  ·have:x≠n:=by rintro rfl;exact h v aam
   simp[this]
  ·rfl
theorem sI{kindOf:Str->Option nt}{x:Str}:∀{binds:List (Str×Value)} {m:aT},(∀v,(x,v)∉binds)->bindC kindOf binds m x=m x
 |[],_,_=>rfl
 | (n,v)::r,m,h=>by
  unfold bindC;rw[sI λw hw=>h w (zaS _ hw)];split
  ·rfl
  ·have:x≠n:=by rintro rfl;exact h v aam
   simp[this]
theorem sH{kindOf:Str->Option nt}{x:Str}{v:Value}:∀{P:ao} {vs:aw} {i:Nat} {m:aT},P.Nodup->P[i]?=↥x->vs[i]?=↥v->kindOf x=↥.local ->
  bindL kindOf (P.zip vs) m x=↥v
 |[],_,_,_,_,h,_,_=>by simp at h
 |_::_,[],_,_,_,_,h,_=>by simp at h
 |p::P,w::vs,0,m,nd,h1,h2,hk=>by
  simp at h1 h2;subst h1;subst h2;show bindL kindOf ((p,w)::P.zip vs) m p=_;unfold bindL;rw[sG λv a=>(gc.mp nd).1 (Bn a).1,zac hk];simp
 |p::P,w::vs,i+1,m,nd,h1,h2,hk=>by
  show bindL kindOf ((p,w)::P.zip vs) m x=_;unfold bindL;exact sH (i:=i) (gc.mp nd).2 ⇑h1 ⇑h2 hk
theorem sJ{kindOf:Str->Option nt}{x:Str}{v:Value}:∀{P:ao} {vs:aw} {i:Nat} {m:aT},P.Nodup->P[i]?=↥x->vs[i]?=↥v->kindOf x≠↥.local ->
  bindC kindOf (P.zip vs) m x=↥v
 |[],_,_,_,_,h,_,_=>by simp at h
 |_::_,[],_,_,_,_,h,_=>by simp at h
 |p::P,w::vs,0,m,nd,h1,h2,hk=>by
  simp at h1 h2;subst h1;subst h2;show bindC kindOf ((p,w)::P.zip vs) m p=_;unfold bindC;rw[sI λv a=>(gc.mp nd).1 (Bn a).1,zab hk];simp
 |p::P,w::vs,i+1,m,nd,h1,h2,hk=>by
  show bindC kindOf ((p,w)::P.zip vs) m x=_;unfold bindC;exact sJ (i:=i) (gc.mp nd).2 ⇑h1 ⇑h2 hk
meta def start(N:ao)(vs:ah):St:=vs.map some++cj (N.length - vs.length) none
meta def js(CX:CU)(P:aG)(w:World)(K:av)(mg:aT)(base:Heap)(N:ao)(qual:Str)(scope:Scope)(f:Addr)(a:Value)(A:aF)(outer:List Env)(s:ap)(H:Hp)(E:XK):Cx where
 prog:=P
 w:=w
 K:=K
 mg:=mg
 base:=base
 A:=A.deeper (D0 qual scope s.heap.objs.size f a)
 N:=N
 s₀:=s
 H₀:=H
 env:=D0 qual scope s.heap.objs.size f a
 outer:=outer
 stack:=D0 qual scope s.heap.objs.size f a::outer
 ex:=[]
 calm:=true
 fn:=λ_=>true
 pn:=[]
 xe:=λe c=>wpAny (model P w) (A.deeper (D0 qual scope s.heap.objs.size f a)) (leaving (D0 qual scope s.heap.objs.size f a) e) (λ_ b=>CX outer H s E e b) (λd b=>CX outer H s E d b) c
def xg{sc:Scope}{n:Nat}{x:Str}(h:sc.names.lookup x=↥.cell):∃c,(cellsFrom n sc.names []).lookup x=↥c:=by
 ext(q:Ev sc.names n [] (.inl h));exact oe.mp q
variable {P:aG}{base:Heap}{f:Addr}{mg:Str->Option Value}{qual:Str}{scope:Scope}{w:World}
def B7{CX:CU}{t:Value}{outer:List Env}{s C:ap}{H:Hp}{E:XK}  
  (S:e_ N ps scope) (hd:A.handled=none) (e0:LC P w K mg base A outer s H) (L:vs.length=ps.length) (r:Vals vs us)
  (x:InCallC s s.heap.objs.size (bindL (D0 qual scope s.heap.objs.size f t).kindOf (ps.zip us) λ_=>none) (cellsFrom (s.heap.objs.size+1) scope.names []) (bindC (D0 qual scope s.heap.objs.size f t).kindOf (ps.zip us) λ_=>none) C) :
  Inv (js CX P w K mg base N qual scope f t A outer s H E) [] (start N vs) H C:=by
 have I:ps.length<=N.length:=by have:=aa2 mo S.pre;rw[zar]at this;left
 ext(⟨o,tk,rfl,F⟩:x.done);have B:∀b:Addr,b∉(js CX P w K mg base N qual scope f t A outer s H E).ex:=λb z=>absurd (show b∈([]:aX) from z) ⇑5;refine⟨⟨e0.mod,S.kind,rfl,rfl,aat _,λy z c o d=>?_,λy g=>?_,λy c _ h=>?_,λ_=>hd,Around.frames_deeper e0.frames,.inr ⟨rfl,rfl⟩,λb z=>absurd z (B b),e0.bs,e0.Hj,λb _ _=>B b,λb z=>absurd z (B b),e0.kT,e0.C8⟩,
  rfl,e0.bare,Un.kept F,⟨_,x.toInCall.ns,λi y v o d M=>?_⟩,λy c h=>⟨_,x.cell y c h⟩,e0.cJ.fresh (aat _),λy c h=>?_,λp l=>absurd (show p∈([]:au) from l) ⇑5,e0.cJ.kept F,?_⟩
 ·exact name_of_addr x.apart (acF o) (acF d)
 ·have g:scope.names.lookup y=↥.cell\/scope.names.lookup y=↥.free:=g;ext((g|g):g)
  ·exact xg g
  ·exact absurd rfl (S.OH _ (acF g))
 ·exact abh (x.above y c (acF h))
 ·have m:i<vs.length:=by
   unfold start at d;by_cases m:i<vs.length
   ·exact m
   ·rw[d6 ⇑m]at d;rw[h9]at d;split at d<;>cases d
  have J:vs[i]?=↥v:=by
   unfold start at d;rw[d7 ⇑m,bv]at d;cases e:vs[i]? with
   |none=>rw[e]at d;cases d
   |some a=>rw[e]at d;cases d;rfl
  ext(⟨u,D,G⟩:r.get J);have l:ps[i]?=↥y:=by
   exact[-S.pre,List.getElem?_take_of_lt ⋯]\o
  have j:ps.Nodup:=[-S.pre]\S.nd.sublist (aex _ _)
  refine⟨u,G,?_⟩;rcases S.par y (aa3 l)with k|k
  ·exact .inl ⟨k,sH j l D k⟩
  ·ext(⟨c,e⟩:xg (n:=s.heap.objs.size+1) k);refine .inr ⟨.inl k,c,e,?_⟩;ext(q:x.cell y c e);rw[sJ j l D (by show scope.names.lookup y≠_;rw[k];decide)]at q;exact q
 ·exact e0.cJ.fresh (abh (x.above y c (acF h)))
 ·unfold start;show _=N.length;rw[zaf,zaa,zaO];left
def MQ{CX:CU}{k:Nat}{name:Str}{params:Arguments}{body:aP}{B kV g z c ct L:Value}{C G:Option Addr}
  {EG:Array (Option Value)} {sp:Sp} (M:K.lookup f=↥⟨L,G,.func (hV name qual params body scope B kV g z C c ct),EG⟩) (D:rA K c qual=true) (S:e_ N ps scope)
  (len:∀vs H Q E,sp vs H Q E->vs.length=ps.length)
  (F:∀(A:aF) (outer:List Env) (s:ap) (H:Hp) (vs:ah) (Q:VK) (E:XK),gu k (A.deeper (D0 qual scope s.heap.objs.size f c))->sp vs H Q E ->
   ∃t,gO (js CX P w K mg base N qual scope f c A outer s H E) body t/\t { nx:=λ_ H'=>Q .b0 H',rt:=Q } (start N vs) H) :
  fP P w K mg base CX (k+1) f (hV name qual params body scope B kV g z C c ct) ps sp:=by
 refine⟨len,λA outer s H args us vs Q E l e0 Y r m=>?_⟩;ext(U:len _ _ _ _ m);have KX:K.In s.heap:=e0.mod.Z4.keeps λb o e=>(e0.bs b o e).1;have j:s.heap.NoLimit:=e0.mod.nolimit.keeps λb o e=>(e0.bs b o e).1;have Vj:∀y∈ps.zip us,scope.names.lookup y.1=↥.local\/(scope.names.lookup y.1=↥.cell/\((cellsFrom (s.heap.objs.size+1) scope.names []).lookup y.1).isSome=true):=λ⟨n,v⟩ O=>by
  ext((q|q):S.par n (Bn O).1)
  ·exact .inl q
  ·exact .inr ⟨q,Ev _ _ _ (.inl q)⟩
 refine codeAny_call_function l.depth (KX _ _ M) rfl S.co S.gen rfl (PySem.W.codeRec_of KX D) (Y _ _ _ _ ?_);refine wpAny_newFunctionEnv_cells S.kind Vj λenv X p x=>?_;subst X;refine⟨j.keeps x.toInCall.keep,codeAny_func ?_⟩;ext(⟨t,R,T⟩:F A outer s H vs Q E (l.deeper _) m);have I:Inv (js CX P w K mg base N qual scope f c A outer s H E) [] (start N vs) H p:=B7 S l.hd e0 U r x;refine aa1 (R [] p (start N vs) H _ I T) (λZ h d=>?_) λe h d=>d;have fin:∀{a:St} {H':Hp} {v:V} {u:Value},Inv (js CX P w K mg base N qual scope f c A outer s H E) [] a H' h->RelV v u->Q v H'->CE outer P w H s Q u h :=
  λ{a H' v u} J i q=>⟨v,H',J.os,J.bare,J.base,J.cJ,i,q⟩
 cases Z with
 |ret u =>
  ext(⟨v,a,H',J,i,q⟩:d);exact fin J i q
 |next =>
  ext(⟨a,H',J,q⟩:d);exact fin (v:=V.b0) (u:=ft) J rfl q
 |brk =>
  ext(⟨_,_,_,q⟩:d);exact lv q
 |cont =>
  ext(⟨_,_,_,q⟩:d);exact lv q
end L2
namespace L2
open PySem PySem.Spec PyProof.Rows
section
variable {X:Cx}{x:Str}{p pos:Pos}{e:Expr}{es:aj}{t:TA}{id T:String}{r:ah->Hp->VK->Prop}
def Td(r:ah->Hp->VK->Prop)(t:TA):TE:=λa H Q=>t a H λb c=>r b c Q
def cZ(j:fJ X (.builtin id) r)(i:Gl X x)(g:X.mg x=none)(f:kE x=↥(.builtin id))(k:PA X (e::es) t)(hn:x ≠ "__name__":=by decide)(l:(x==⇑9)=false:=by decide)
  (he:cm (e::es) X.env=(false,eval e X.env)::cm es X.env:=by rfl) (hpl:(nw pos (cm es X.env)).any (·.1)=false:=by rfl):PE X (.Call (.Name x p) (e::es) [] pos) (Td r t):=by
 intro pins s a H Q I h;refine acK (gR I i g f ?_ hn l);exact sw (dO (k pos pins s a H _ I h) λc d ⟨b,n,m,r1,q1⟩=>j pins d a n b c Q m r1 q1) he hpl
def rP(j:fJ X (.type T) r)(i:Gl X x)(g:X.mg x=none)(f:kE x=↥(.type T))(k:PA X (e::es) t)(hn:x ≠ "__name__":=by decide)(l:(x==⇑9)=false:=by decide)
  (he:cm (e::es) X.env=(false,eval e X.env)::cm es X.env:=by rfl) (hpl:(nw pos (cm es X.env)).any (·.1)=false:=by rfl):PE X (.Call (.Name x p) (e::es) [] pos) (Td r t):=by
 intro pins s a H Q I h;refine acK (gR I i g f ?_ hn l);exact abk (dO (k pos pins s a H _ I h) λc d ⟨b,n,m,r1,q1⟩=>j pins d a n b c Q m r1 q1) he hpl
end
end L2
namespace HT
open PySem PyProof.Rows
meta def lexLt:ae->ae->Bool
 |[],[]=>false
 |[],_::_=>true
 |_::_,[]=>false
 |x::xs,y::ys=>if x=y then lexLt xs ys else decide (x<y)
def dY(x y:Int)(xs a:ae):lexLt (x::xs) (y::a)=if x=y then lexLt xs a else decide (x<y):=rfl
def kB:lexLt [] []=false:=rfl
def cN(x:Int)(xs:ae):lexLt (x::xs) []=false:=rfl
def GC(A:aF)(s:ap)(a:Int)(t:Tok)(c:Int)(u:Tok):∃e,Re A s (.int a t) (.int c u) e/\(e=true ↔ a=c) :=
 ⟨(a==c),F7 a t c u,by simp⟩
section
variable {prog:aG}{w:World}{A:aF}{E:aB}{s:ap}
def K_{t b:Addr}{vs ws:aw}{Q:aB}(p:IsTup s.heap t vs.toArray)(q:IsTup s.heap b ws.toArray)(k:vs≠[])
  (u:ws=[]->Q (.ref t) s) (r:ws≠[]->Q (.ref s.heap.objs.size) { s with heap:=s.heap.push { cls:=.type "tuple",data:=.seq (vs++ws).toArray } })
  (hsz:vs.length+ws.length<=sizeLine):⇑1 (v6 .Add (.ref t) (.ref b)) Q E s:=by
 ext(⟨⟨g,m,data,i⟩,f,l,n,hd⟩:id p)(⟨⟨v,o,data2,h⟩,d,c,j,a⟩:id q);simp only at l hd c a;subst l hd c a;have e:vs.toArray++ws.toArray=(vs++ws).toArray:=by simp
 by_cases hw:ws=[]
 ·exact VH ⟨_,f,rfl⟩ ⟨_,d,rfl⟩ F0 P7 adT adN (adE _ _)
   (tuple_addW1 t b vs.toArray ws.toArray n j m o i h ⇑k (by simp[hw])) ⟨f,d,u hw⟩
 ·refine VH ⟨_,f,rfl⟩ ⟨_,d,rfl⟩ F0 P7 adT adN (adE _ _)
   (tuple_addW2 t b vs.toArray ws.toArray n j m o i h ⇑k ⇑hw ([zad,zad]\hsz)) ⟨f,d,?_⟩
  exact[e]\r hw
meta def uW(n d:Nat):Option Int->Nat
 |none=>d
 |some v=>if v<0 then(v+(n:Int)).toNat else min v.toNat n
def D3(n d:Nat):uW n d none=d:=rfl
end
end HT
namespace L2
open PySem PySem.Spec PyProof.Rows
abbrev TO:=St->Hp->(Option Int->Hp->Prop)->Prop
def PO(X:Cx)(e:Option Expr)(t:TO):Prop :=
 ∀(pins:au) (s:ap) (a:St) (H:Hp) (Q:Option Int->Hp->Prop),Inv X pins a H s->t a H Q ->
  ⇑0 (evalPart e X.env) (λu c=>∃o b,Inv X pins a b c/\IsPart u o/\Q o b) X.xe s
def IM:TO:=λ_ H Q=>Q none H
def S0(t:TE):TO:=λa H Q=>t a H λx b=>∃i,x=.int i/\Q ↥i b
def intsAre_of{ns:ae}:∀{a:aw},Vals (ns.map V.int) a->im a ns:=by
 induction ns with
 |nil=>intro a r;rw[zbH]at r;cases r;exact .nil
 |cons n ns c =>
  intro a r;rw[zal]at r;cases r with
  |cons r1 b =>
   ext(⟨t,e⟩:r1);subst e;exact .cons n t (c b)
section
variable {X:Cx}{e:Expr}{te:TE}{lo hi:Option Expr}{tl th:TO}{pos p2:Pos}
def tL:PO X none IM:=by
 intro pins s a H Q I h;exact[evalPart_none]\aak ⟨none,H,I,.none,h⟩
def tJ(h:PE X e te):PO X ↥e (S0 te):=by
 intro pins s a H Q I hw;rw[evalPart_some];refine dO (h pins s a H _ I hw) λu f b=>?_;ext(⟨x,d,c,r1,q1⟩:b)(⟨i,rfl,q⟩:q1)(⟨t,rfl⟩:r1);exact⟨↥i,d,c,.int i t,q⟩
def SlR(X:Cx)(r:V->Option Int->Option Int->Hp->VK->Prop):Prop :=
 ∀(pins:au) (s:ap) (a:St) (H:Hp) (x:V) (v c b:Value) (lo hi:Option Int) (d:Addr) (Q:VK),Inv X pins a H s->RelV x v->s.heap.IsSliceOf d c b .none->IsPart c lo->IsPart b hi->r x lo hi H Q ->
  ∃T id,yaB (.type T) "__getitem__" = pure ↥(.builtin id)/\s.TypeIs v T/\⇑0 (getItem v (.ref d)) (EP X pins a Q) X.xe s
def tSl(r:V->Option Int->Option Int->Hp->VK->Prop)(te:TE)(tl th:TO):TE:=λa H Q=>te a H λx d=>tl a d λl c=>th a c λu b=>r x l u b Q
def vU{r:V->Option Int->Option Int->Hp->VK->Prop}(z:SlR X r)(he:PE X e te)(B:PO X lo tl)(t:PO X hi th):PE X (.Subscript e (.Slice lo hi none p2) pos) (tSl r te tl th):=by
 intro pins s c H Q I h;refine Subscript_ (dO (he pins s c H _ I h) λv k g=>?_);ext(⟨x,L,J,r1,q1⟩:g);refine wpAny_Slice (dO (B pins k c L _ J q1) λf j ⟨l,K,G,p,n⟩=>dO (t pins j c K _ G n) λd a g=>?_);ext(⟨u,i,F,o,m⟩:g);rw[evalPart_none];refine aak ?_;have E:Inv X pins c i { a with heap:=a.heap.push { cls:=.type "slice",data:=.fields #[f,d,.none] } }:=F.kept (t':=a.toks) λb M q=>aaq _ q;ext(⟨T,id,D,y,C⟩:z pins { a with heap:=a.heap.push { cls:=.type "slice",data:=.fields #[f,d,.none] } } c i x v f d l u a.heap.objs.size Q E r1 (yaq ..) p o m);show ⇑0 (subscriptTail e (.Slice lo hi none p2) v (.ref a.heap.objs.size)) (EP X pins c Q) X.xe { a with heap:=a.heap.push { cls:=.type "slice",data:=.fields #[f,d,.none] } };exact tail_any (ops:=[.ref a.heap.objs.size,v]) y D C (by with_unfolding_all rfl)
def Cz(xs:ah)(lo hi:Option Int):ah:=(xs.drop (HT.uW xs.length 0 lo)).take (HT.uW xs.length xs.length hi - HT.uW xs.length 0 lo)
def wV(xs:ah)(lo hi:Option Int):(Cz xs lo hi).length<=xs.length:=by
 unfold Cz;rw[zar,zbo];left
def TR(K:av):R2:=λx y H Q=>∃a b d c,x=.ref a/\y=.ref b/\aY K H a d/\aY K H b c/\d≠[]/\d.length+c.length<=sizeLine /\
 (c=[]->Q (.ref a) H)/\(c≠[]->∀p,H p=none->Q (.ref p) (upd H p (.tup (d++c))))
def Vals.tV{xs:ah}{a:aw}(r:Vals xs a):a=[] ↔ xs=[]:=by
 cases r with
 |nil=>simp
 |cons _ _=>simp
def JD:oV X (v6 .Add) (TR X.K):=by
 intro pins s r H x y v u Q I j i h;ext(⟨a,b,g,f,rfl,rfl,p,n,m,d,q1,k⟩:h);cases j;cases i;ext(⟨B,r1,l,_⟩:I.tuple p)(⟨A,c,p2,_⟩:I.tuple n);refine HT.K_ l p2 (λz=>m (r1.tV.mp z)) (λz=>⟨.ref a,H,I,rfl,q1 (c.tV.mp z)⟩) (λz=>?_) ([-r1.length,-c.length]\d);refine⟨.ref s.heap.objs.size,_,I.laid (t':=s.toks) (o:=.tup (g++f)) (λb t q=>aaq _ q) (aat _) ?_,rfl,k (λw=>z (c.tV.mpr w)) _ (I.cJ.fresh (aat _))⟩;exact⟨[zaf]\d,_,r1.append c,Xe _ _⟩
end
end L2
namespace L2
open PySem PySem.Spec PyProof.Rows
meta def FE(n:Nat)(i:Int):Option Nat:=if 0<=i then(if i<n then ↥i.toNat else none)else if -(n:Int)<=i then ↥(i+n).toNat else none
def Sq{a:Type}(xs:List a)(i:Int):Option a:=(FE xs.length i).bind λj=>xs[j]?
def JZ{n:Nat}{i:Int}{j:Nat}(h:FE n i=↥j):seqIndex? i n=↥j/\j<n /\ -(n:Int)<=i/\i<n:=by
 unfold FE at h;by_cases b:0<=i
 ·rw[zac b]at h;by_cases a:i<n
  ·rw[zac a]at h;have e:i.toNat=j:=aaV h;exact⟨by rw[seqIndex_of b a,e],by left,by left,a⟩
  ·rw[zab a]at h;cases h
 ·rw[zab b]at h;by_cases a:-(n:Int)<=i
  ·rw[zac a]at h;have e:(i+n).toNat=j:=aaV h;exact⟨by rw[seqIndex_neg ⋯ a,e],by left,a,by left⟩
  ·rw[zab a]at h;cases h
def A5{a:Type}{xs:List a}{i:Int}{v:a}(h:Sq xs i=↥v):∃j,seqIndex? i xs.length=↥j/\xs[j]?=↥v/\j<xs.length /\ -(xs.length:Int)<=i/\i<xs.length:=by
 unfold Sq at h;cases e:FE xs.length i with
 |none=>rw[e]at h;cases h
 |some j =>
  rw[e]at h;ext(⟨f,d,c,b⟩:JZ e);exact⟨j,f,h,d,c,b⟩
def oU(b:Expr):Prop:=∀o i,subscripted b false o i=operate [o,i] (getItem o i)
def LA(X:Cx)(r:R2):Prop :=
 ∀(value slice:Expr) (pins:au) (s:ap) (a:St) (H:Hp) (x y:V) (v u:Value) (Q:VK),Inv X pins a H s->RelV x v->RelV y u->r x y H Q ->
  subscripted slice false v u=operate [v,u] (getItem v u)->⇑0 (subscriptTail value slice v u) (EP X pins a Q) X.xe s
def MtR(X:Cx)(id:String)(r:V->ah->Hp->VK->Prop):Prop :=
 ∀(pins:au) (s:ap) (a:St) (H:Hp) (x:V) (xs:ah) (v:Value) (b:aw) (Q:VK),Inv X pins a H s->RelV x v->Vals xs b->r x xs H Q ->
  ⇑0 (call (.builtin id) (v::b)) (EP X pins a Q) X.xe s
section
variable {X:Cx}{a b:Expr}{ta tb:TE}{pos:Pos}
def LA.or{r f:R2}(h:LA X r)(h':LA X f):LA X (λx y H Q=>r x y H Q\/f x y H Q):=by
 intro value slice pins s c H x y v u Q I e d q g;ext((q|q):q)
 ·exact h value slice pins s c H x y v u Q I e d q g
 ·exact h' value slice pins s c H x y v u Q I e d q g
def EB{r:R2}(g:LA X r)(j:PE X a ta)(i:PE X b tb)(hs:oU b):PE X (.Subscript a b pos) (NG r ta tb):=by
 intro pins s c H Q I h;exact Subscript_ (Rp j i I h λv u d x y l k f e q=>g a b pins d c l x y v u Q k f e q (hs _ _))
def ZC(K:av):R2:=λx y H Q=>∃p c i v,x=.ref p/\y=.int i/\eG K H p c/\Sq c i=↥v/\Q v H
def Oc(K:av):R2:=λx y H Q=>∃p c i v,x=.ref p/\y=.int i/\aY K H p c/\Sq c i=↥v/\Q v H
def JX:LA X (ZC X.K):=by
 intro value slice pins s f H x y v u Q I o n h g;ext(⟨p,L,i,z,rfl,rfl,B,D,q⟩:h);cases o;ext(⟨t,rfl⟩:n)(⟨J,r,d,M⟩:I.list B)(⟨j,c,G,O,F,E⟩:A5 D)(⟨w,l,A⟩:r.get G);have C:=r.length;have N:=yi;have fin:EP X pins f Q w s:=⟨z,H,I,A,q⟩
 by_cases k:0<=i
 ·have e:i.toNat=j:=by
   rw[seqIndex_of k E]at c;exact aaV c
  exact item_listR d.isList k ⋯ (by rw[e];simpa using l) fin g
 ·have e:(i+(J.toArray.size:Int)).toNat=j:=by
   rw[seqIndex_neg ⋯ F]at c;exact[zad,-C]\aaV c
  exact ac1 (x:=w) d.isList.typeIs C3.lookup
   (wpAny_getItem_list_neg (Q:=λr m=>r=w/\EP X pins f Q r m) d.isList ⋯ (by rw[zad]<;>omega) ⋯ (by rw[e];simpa using l) ⟨rfl,fin⟩) g
def O6:LA X (Oc X.K):=by
 intro value slice pins s c H x y v u Q I g f h l;ext(⟨p,D,i,z,rfl,rfl,m,o,q⟩:h);cases g;ext(⟨t,rfl⟩:f)(⟨M,r,d,E⟩:I.tuple m)(⟨j,B,A,L,J,G⟩:A5 o)(⟨w,C,k⟩:r.get A);have n:=r.length;have F:=yi;have fin:EP X pins c Q w s:=⟨z,H,I,k,q⟩
 exact ac1 (x:=w) d.typeIs slot_tuple_getitem.lookup
  (getItem_tuple (j:=j) (Q:=λr e=>r=w/\EP X pins c Q r e) d ⋯ ⋯ ([zad,-n]\B) ⇑C ⟨rfl,fin⟩) l
theorem Inv.lst{pins:au}{d:St}{H:Hp}{s:ap}{p:Addr}{xs:ah}(I:Inv X pins d H s)(h:H p=↥(.lst xs)):
  ∃(c:aw) (n:Nat),Vals xs c/\s.heap.get? p=some { cls:=.type "list",data:=.seq c.toArray n }/\xs.length<=sizeLine:=by
 ext(⟨z,c,n,r,e⟩:I.cJ p _ h);exact⟨c,n,r,e,z⟩
def tf(lo c:Option Int)(n:Nat):(ol lo c none n).1=((HT.uW n 0 lo:Nat):Int)/\(ol lo c none n).2.1=((HT.uW n n c:Nat):Int)/\(ol lo c none n).2.2=1:=by
 refine⟨?_,?_,rfl⟩
 ·cases lo with
  |none=>simp[ol,HT.uW]
  |some i =>
   simp only[ol,HT.uW,R4,show(1:Int)>0 by decide,if_true];by_cases h:i<0
   ·simp only[h,if_true]<;>left
   ·simp only[h,if_false]<;>left
 ·cases c with
  |none=>simp[ol,HT.uW]
  |some i =>
   simp only[ol,HT.uW,R4,show(1:Int)>0 by decide,if_true];by_cases h:i<0
   ·simp only[h,if_true]<;>left
   ·simp only[h,if_false]<;>left
def qL(c:aw)(lo d:Option Int):slicePick c.toArray lo d none=((c.drop (HT.uW c.length 0 lo)).take (HT.uW c.length c.length d - HT.uW c.length 0 lo)).toArray:=by
 ext(⟨g,f,e⟩:tf lo d c.toArray.size);unfold slicePick;rw[g,f,e];simp only[sliceRange_one,pick_run,zad]<;>rfl
def Zz(K:av):V->Option Int->Option Int->Hp->VK->Prop:=λx d e H Q=>∃a c,x=.ref a/\eG K H a c/\∀p,H p=none->Q (.ref p) (upd H p (.lst (Cz c d e)))
def tj:SlR X (Zz X.K):=by
 intro pins s n H x v t p d e u Q I g m j i h;ext(⟨a,c,rfl,l,q⟩:h);cases g;ext(⟨y,r,f,k⟩:I.list l);have hlen:=r.length;refine⟨"list",_,C3.lookup,f.isList.typeIs,?_⟩;refine Pv f.isList m j i .none ⇑5 ?_ (by rw[zad]<;>omega);rw[qL,<- hlen];refine⟨.ref s.heap.objs.size,_,I.laid (t':=s.toks) (o:=.lst (Cz c d e)) (λb w q=>aaq _ q) (aat _) ?_,rfl,q _ (I.cJ.fresh (aat _))⟩;exact⟨aav (wV c d e) k,_,0,(r.drop (HT.uW c.length 0 d)).take (HT.uW c.length c.length e - HT.uW c.length 0 d),aaC _ rfl⟩
meta def sj:V->Bool
 |.b0=>true
 |.bl _=>true
 |.int _=>true
 |.str _=>true
 |_=>false
meta def eqV:V->V->Bool
 |.b0,.b0=>true
 |.bl a,.bl b=>a==b
 |.bl a,.int b=>(if a then 1 else 0)==b
 |.int a,.bl b=>a==(if b then 1 else 0)
 |.int a,.int b=>a==b
 |.str a,.str b=>a==b
 |_,_=>false
def UW(x:V)(xs:ah):Bool:=xs.any λy=>eqV y x
def rIn(K:av)(neg:Bool):R2:=λx y H Q=>∃p c,y=.ref p/\(eG K H p c\/aY K H p c)/\sj x=true/\c.all sj=true/\Q (.bl (if neg then !UW x c else UW x c)) H
def uJ:fJ X (.builtin "len") (λg H Q=>∃p c,g=[.ref p]/\(eG X.K H p c\/aY X.K H p c)/\Q ↑c.length H):=by
 intro pins s l H g m Q I r h;ext(⟨p,c,rfl,d,q⟩:h)(⟨u,rfl,i⟩:vals1 r);cases i;have n:=yi;ext((d|d):d)
 ·ext(⟨k,e,f,j⟩:I.list d);have hlen:=e.length;exact Calls.call_len_list f.isList (by simp only[zad]<;>omega) ⟨.int c.length,H,I.tok _,⟨s.toks+1,by rw[zad,hlen]⟩,q⟩
 ·ext(⟨k,e,f,j⟩:I.tuple d);have hlen:=e.length;exact len_tuple f (by simp only[zad]<;>omega) ⟨.int c.length,H,I.tok _,⟨s.toks+1,by rw[zad,hlen]⟩,q⟩
def uI:fJ X (.type "list") (λw H Q=>∃p d,w=[.ref p]/\(eG X.K H p d\/aY X.K H p d)/\∀l,H l=none->Q (.ref l) (upd H l (.lst d))):=by
 intro pins s y H w A Q I r h;ext(⟨p,d,rfl,k,q⟩:h)(⟨u,rfl,z⟩:vals1 r);cases z;have fin:∀(c:aw),Vals d c->d.length<=sizeLine->∀(h':Heap) (g:Nat),(∀b x,s.heap.get? b=↥x->h'.get? b=↥x) ->
   h'.get? s.heap.objs.size=some { cls:=.type "list",dict:=none,data:=.seq c.toArray g,slots:=#[] }->EP X pins y Q (.ref s.heap.objs.size) { s with heap:=h' }:=λc f j h' g i e =>
  ⟨.ref s.heap.objs.size,_,I.laid (t':=s.toks) i (aat _) (show cQ _ h' _ (.lst d) from⟨j,c,g,f,e⟩),rfl,q _ (I.cJ.fresh (aat _))⟩
 ext((k|k):k)
 ·ext(⟨c,f,m,j⟩:I.list k);have hlen:=f.length;ext(⟨o,t,v,n,hd⟩:m.isList);exact call_list_seq p (.inl rfl) t v hd (λh' g i e=>fin c f j h' g i e) (by simp only[zad]<;>omega)
 ·ext(⟨c,f,m,j⟩:I.tuple k);have hlen:=f.length;ext(⟨o,t,v,n,hd⟩:m);exact call_list_seq p (.inr rfl) t v hd (λh' g i e=>fin c f j h' g i e) (by simp only[zad]<;>omega)
def rb:fJ X (.type "tuple") (λm H Q=>∃p c,m=[.ref p]/\((eG X.K H p c/\∀l,H l=none->Q (.ref l) (upd H l (.tup c)))\/(aY X.K H p c/\Q (.ref p) H))):=by
 intro pins s k H m y Q I r h;ext(⟨p,c,rfl,h⟩:h)(⟨u,rfl,v⟩:vals1 r);cases v;ext((⟨i,q⟩|⟨i,q⟩):h)
 ·ext(⟨j,f,g,n⟩:I.list i);have hlen:=f.length;refine call_tuple_list g.isList (λd w=>?_) (by simp only[zad]<;>omega);have t:Inv X pins k H { s with heap:=d }:=I.kept (t':=s.toks) w;have x:Inv X pins k (upd H d.objs.size (.tup c)) { s with heap:=d.push { cls:=.type "tuple",data:=.seq j.toArray } } :=
   t.laid (t':=s.toks) (λb o e=>aaq _ e) (aat _) (show cQ _ _ _ (.tup c) from⟨n,j,f,Xe _ _⟩)
  exact⟨.ref d.objs.size,_,x,rfl,q _ (t.cJ.fresh (aat _))⟩
 ·ext(⟨j,f,g,n⟩:I.tuple i);exact call_tuple_same g ⟨.ref p,H,I,rfl,q⟩
def YQ(K:av)(T:String)(x:V)(H:Hp):Prop:=match x with
 |.ref p=>T = "list" /\ ∃c,eG K H p c
 |_=>False
def NA{pins:au}{h:St}{H:Hp}{s:ap}{T:String}{x:V}{v:Value}(I:Inv X pins h H s)(r:RelV x v)(d:YQ X.K T x H):
  s.TypeIs v T/\∀a,v=.ref a->∃g,s.heap.get? a=↥g/\g.dict=none:=by
 cases x with
 |ref p =>
  cases r;ext(⟨rfl,j,i⟩:d)(⟨k,_,f,_⟩:I.list i);refine⟨f.isList.typeIs,λa e=>?_⟩;cases e;ext(⟨o,n,e,c,hd,_⟩:f);exact⟨o,e,hd⟩
 |_=>exact lv d
def tBM(K:av)(T:String)(r:V->ah->Hp->VK->Prop)(to:TE)(t:TA):TE:=λc H Q=>to c H λx d=>YQ K T x d/\t c d λe f=>r x e f Q
variable {o e:Expr}{es:aj}{to:TE}{t:TA}{name:Str}{apos cpos:Pos}{T id:String}{r:V->ah->Hp->VK->Prop}
def EC(q:PlainAttrs T)(slot:Slot T name id)(d:typeOf (.builtin id)=pure (.type "method_descriptor"))(w:MtR X id r)(u:PE X o to)(y:PA X (e::es) t)
  (G:attributeBase o name X.env (eval o X.env)=eval o X.env:=by rfl)
  (hfew:((nw cpos (cm (e::es) X.env)).all (λx=>!x.1)&&(backToKw cpos (keywordEach [] X.env)).all (λx=>x.1.isSome)
   && decide ((e::es).length+([]:List vv).length+(if ([]:List vv).isEmpty then 0 else 1)<30))=true:=by rfl)
  (hline:(apos.endLine==cpos.line)=true:=by rfl) (hs:cm (e::es) X.env=(false,eval e X.env)::cm es X.env:=by rfl) (C:(nw cpos (cm es X.env)).any (·.1)=false:=by rfl) :
  PE X (.Call (.Attribute o name apos) (e::es) [] cpos) (tBM X.K T r to t):=by
 intro pins s c H Q I h;refine wpAny_Call_method_late G hfew hline rfl (dO (u pins s c H _ I h) λv m B=>?_);ext(⟨x,F,g,r1,k,q1⟩:B)(⟨A,z⟩:NA g r1 k);refine⟨T,id,q,slot,d,A,z,?_⟩;ext(f:y cpos pins m c F _ g q1);rw[hs]at f ⊢;refine Kf (by show(false||(nw cpos (cm es X.env)).any (·.1))=false;rw[C]<;>rfl) (ad_ ?_);exact dO f λj l ⟨i,E,D,n,p⟩=>w pins l c E x i v j Q D r1 n p
/- xs.append(e),list.index on a module's tuple .. are MtR facts of 06m -/
end
end L2
namespace L2
open PySem PySem.Spec PyProof.Rows
def MtM(X:Cx)(id:String)(r:V->ah->Hp->VK->Prop):Prop :=
 ∀(pins:au) (s:ap) (a:St) (H:Hp) (x:V) (xs:ah) (v:Value) (b:aw) (Q:VK),Inv X pins a H s->RelV x v->Vals xs b->r x xs H Q ->
  ⇑0 (call (.builtin id) (v::b)) (EP X pins a Q) X.xe s
def Vals.one:∀{x:V} {a:aw},Vals [x] a->∃u,a=[u]/\RelV x u
 |_,_,.cons r .nil=>⟨_,rfl,r⟩
def Vals.zero:∀{a:aw},Vals [] a->a=[]
 |_,.nil=>rfl
theorem Vals.rep{xs:ah}{a:aw}(h:Vals xs a):∀k:Nat,Vals (cj k xs).flatten (cj k a).flatten
 |0=>.nil
 |k+1=>by
  exact[zaA,zaA,zaQ,zaQ]\Vals.append h (Vals.rep h k)
theorem foldl_rep(b:aw):∀(k:Nat) (a:aw),
  Uo (λd c=>d++c) a.toArray (cj k b.toArray)=(a++(cj k b).flatten).toArray
 |0,a=>by simp
 |k+1,a=>by
  have e:a.toArray++b.toArray=(a++b).toArray:=by simp
  have e2:(a++b)++(cj k b).flatten=a++(cj (k+1) b).flatten:=by
   rw[zaA,zaQ,zai]
  rw[<- e2,<- foldl_rep b k (a++b),<- e,zaA,X3]
variable {aO:aw}{t':Nat}
section
variable {X:Cx}{pins:au}{σ:St}{H:Hp}{s:ap}{l b:Addr}{xs ys zs:ah}
def Inv.mW{its':aw}{n:Nat}{f:bq->bq}(I:Inv X pins σ H s)(g:H l=↥(.lst xs))
  (e:s.heap.get? l=some { cls:=.type "list",data:=.seq aO.toArray n }) (hf:f aO.toArray=its'.toArray) (a:Vals ys its') (hz:ys.length<=sizeLine) :
  Inv X pins σ (upd H l (.lst ys)) { s with heap:=s.heap.update l (ej f),toks:=t' }:=by
 ext(q:Mk e f);rw[hf]at q;refine I.write (x:=l) ([g]\trivial) (λh u d c=>(acd s.heap (ej f) (ada d)).trans c) ⟨_,q⟩ ?_;exact⟨hz,its',_,a,q⟩
def Inv.OT(I:Inv X pins σ H s)(a:Vals ys aO)(hz:ys.length<=sizeLine):
  Inv X pins σ (upd H s.heap.objs.size (.lst ys)) { s with heap:=s.heap.push { cls:=.type "list",data:=.seq aO.toArray },toks:=t' } :=
 I.laid (λ_ _ q=>aaq _ q) (aat _) ⟨hz,aO,0,a,aaC _ rfl⟩
theorem Inv.fresh(I:Inv X pins σ H s):H s.heap.objs.size=none:=I.cJ.fresh (aat _)
def Inv.BO(I:Inv X pins σ H s)(a:H l=↥(.lst xs)):xs.length<=sizeLine/\∃(aO:aw) (n:Nat),Vals xs aO/\xs.length=aO.length/\s.heap.get? l=some { cls:=.type "list",data:=.seq aO.toArray n }:=by
 ext(⟨z,aO,n,r,e⟩:I.cJ l _ a);exact⟨z,aO,n,r,r.length,e⟩
def vZ{n:Nat}(h:n<=sizeLine):kw n=false:=by
 unfold kw;exact aea ⋯
end
section
variable {X:Cx}
def zN:V->ah->Hp->VK->Prop:=λx b H Q=>∃l a y,x=.ref l/\b=[y]/\H l=↥(.lst a)/\a.length<sizeLine/\Q .b0 (upd H l (.lst (a++[y])))
def rS:MtM X "list.append" zN:=by
 intro pins s f H x i v j Q I b c h;ext(⟨l,g,y,rfl,rfl,a,k,q⟩:h);cases b;ext(⟨u,rfl,d⟩:c.one)(⟨z,aO,n,r,m,e⟩:I.BO a);refine aeb F.slot_list_append ⟨_,e,rfl⟩ F.entry_list_append (F.args_list_append_2 _ _) (Rn l aO.toArray n u (by rw[zad];left)) ⟨e,?_⟩;refine⟨.b0,_,I.mW (its':=aO++[u]) a e ⇑5 (r.append (.cons d .nil)) ?_,rfl,q⟩;rw[zaf,zaC];left
def Jm:V->ah->Hp->VK->Prop:=λx d H Q=>∃l b c a,x=.ref l/\d=[.ref b]/\H l=↥(.lst c)/\H b=↥(.lst a)/\c.length+a.length<=sizeLine/\Q .b0 (upd H l (.lst (c++a)))
def BK:MtM X "list.extend" Jm:=by
 intro pins s p H x A v B Q I f g h;ext(⟨l,b,y,t,rfl,rfl,d,m,C,q⟩:h);cases f;ext(⟨u,rfl,i⟩:g.one);cases i;ext(⟨z,aO,n,r,D,e⟩:I.BO d)(⟨w,a,k,j,E,e2⟩:I.BO m);have c:aO.toArray.size+a.toArray.size<=sizeLine:=by rw[zad,zad];left
 have o:¬ (!aO.toArray.isEmpty&&kw (aO.toArray.size+a.toArray.size))=true:=by
  exact[vZ c,zat]\aaj
 refine aeb F.slot_list_extend ⟨_,e,rfl⟩ F.entry_list_extend (F.args_list_extend_2 _ _)
  (AutoSeq1.list_extend_list_list_0 l aO.toArray n b a.toArray k o (by rw[zad];left) ⋯) ⟨e,e2,?_⟩
 refine⟨.b0,_,I.mW (its':=aO++a) d e ⇑5 (r.append j) ?_,rfl,q⟩;rw[zaf];left
def ZE:R2:=λx y H Q=>∃l b c a,x=.ref l/\y=.ref b/\H l=↥(.lst c)/\H b=↥(.lst a)/\c.length+a.length<=sizeLine/\∀p,H p=none->Q (.ref p) (upd H p (.lst (c++a)))
def EK:oV X (v6 .Add) ZE:=by
 intro pins s k H x y v u Q I d c h;ext(⟨l,b,p,m,rfl,rfl,g,i,w,q⟩:h);cases d;cases c;ext(⟨z,aO,n,r,A,e⟩:I.BO g)(⟨o,a,t,f,B,e2⟩:I.BO i);refine PySem.P.add_list e e2 ?_ (by rw[zad,zad];left);have j:aO.toArray++a.toArray=(aO++a).toArray:=by simp
 exact[j]\⟨.ref _,_,I.OT (t':=s.toks) (r.append f) (by rw[zaf];left),rfl,q _ I.fresh⟩
def ZA:R2:=λx y H Q=>∃l k a,x=.ref l/\y=.int k/\H l=↥(.lst a) /\ -(2 ^ 63)<=k/\k<2 ^ 63/\a.length*k.toNat<=sizeLine /\
 ∀p,H p=none->Q (.ref p) (upd H p (.lst (cj k.toNat a).flatten))
def len_rep{a:Type}(xs:List a)(k:Nat):(cj k xs).flatten.length=k*xs.length:=by
 induction k with
 |zero=>simp
 |succ k b=>rw[zaA,zaQ,zaf,b,Nat.succ_mul,zbq]
def Oy:oV X (v6 .Mult) ZA:=by
 intro pins s G H x y v u Q I j i h;ext(⟨l,k,J,rfl,rfl,w,B,A,f,q⟩:h);cases j;ext(⟨t,rfl⟩:i)(⟨z,aO,n,r,p,e⟩:I.BO w);have hlen:aO.toArray.size*k.toNat<=sizeLine:=[zad,-p]\f
 have o:¬ aO.toArray.size*k.toNat>(2 ^ 63 - 1) / 8:=by
  have:(sizeLine:Nat)<=(2 ^ 63 - 1) / 8:=by decide
  left
 have d:¬ (!Builtin.List.listFitsIndex k)=true:=by
  exact[fitsIndex_both B A]\aaj
 have E:¬ kw (aO.toArray.size*k.toNat)=true:=by
  exact[vZ hlen]\aaj
 have D:Uo (λc b=>c++b) #[] (cj (if aO.toArray.isEmpty=true then 0 else k.toNat) aO.toArray)=(cj k.toNat aO).flatten.toArray:=by
  have C:∀m:Nat,Uo (λc b=>c++b) #[] (cj m aO.toArray)=(cj m aO).flatten.toArray:=λm=>by
   have:=foldl_rep aO m [];rw[zay]at this;exact this
  rw[C];cases aO with
  |nil=>simp
  |cons a K=>rw[zab ⇑5]
 refine wpAny_binaryOp_repeat_ref (T:="list") (U:="int") ⇑4 ⟨_,e,rfl⟩ (λg=>typeIs_int g k t) noFill_list_mul F.fills_int_mul yaO repeat_list F.slot_int_index.lookup
  (aeb yaO (typeIs_int s k t) F.entry_int_rmul (F.args_int_rmul_2 _ _) (int___rmul___int_list k t l aO.toArray n)
   ⟨e,rfl,⟨_,e,rfl⟩,aeb F.slot_list_mul ⟨_,e,rfl⟩ F.entry_list_mul (F.args_list_mul_2 _ _) (AutoListH.list___mul___list_int_3 l aO.toArray n k t d o E) ⟨e,?_⟩⟩)
 exact[D]\⟨.ref _,_,I.OT (t':=s.toks) (r.rep k.toNat) ([len_rep,zca]\f),rfl,q _ I.fresh⟩
end
end L2
namespace Att
open PySem PySem.W PySem.Calls PyProof.Rows
variable {h:Heap}
def n6{P:Params}:∀(ns:ae) (vs:aw),WellAll P h vs (ns.map WData.int)->im vs ns:=by
 intro ns;induction ns with
 |nil =>
  intro vs w;rw[zbH]at w;cases w;exact .nil
 |cons n ns c =>
  intro vs w;rw[zal]at w;cases w with
  |cons a b =>
   cases a;exact .cons _ _ (c _ b)
def Bz{l:OpenLaw}{n:Nat}(hn:l.most=↥n){P:Params}{args:List WData}{vals:aw}
  (j:l.row.toRowW.claim.pre args=true) (f:WellAll P h vals args) :
  ∃a g b,vals=[em a]/\args=[WData.list (b.map WData.int)]/\h.get? a=some { cls:=.type "list",data:=.seq g.toArray }/\im g b/\b.length<=n:=by
 have t:WShape.hasAll [] args [.list .int]=true:=(pre_splitW j).1;have i:l.pre.holds [] { args:=args }=true:=(pre_splitW j).2;ext(⟨d,r,rfl,s,p⟩:hasAllW_cons t)(rfl:hasAllW_nil p)(⟨v,rfl,o⟩:hasW_list s)(⟨b,rfl⟩:items_int o);have hlen:b.length<=n:=by
  unfold OpenLaw.pre at i;have e:(WTm.not (.lt (.lit ↑(n:Int)) (.len (.arg 0)))).holds [] { args:=[.list (b.map .int)] }=true:=by
   ext(e:(holds_andW i).1);rw[hn]at e;exact e
  ext(c:condW_of e (w_not (w_lt w_lit (w_len_list (w_arg rfl)))));rw[zaa]at c;refine Aj λq=>?_;have k:(n:Int)<((b.length:Nat):Int):=by left
  first
   | (rw[zaK k]at c;exact absurd c ⇑4)
   | (simp at c;left)
 cases f with
 |cons w1 w2 =>
  cases w2;cases w1 with
  |list m u=>exact⟨_,_,b,rfl,rfl,m,n6 b _ u,hlen⟩
def BH(l:OpenLaw)(args:List WData):l.row.toRowW.claim.post args (.bool true) args=true :=
 postW_of (r:=l.row.toRowW) (X:=(true==true))
  (show yaG [] (.bool true) .bool=true by first|rfl|decide|simp[yaG,WShape.arms,WShape.armsAll])
  (show(WTm.eq .res (.lit (.bool true))).value [] { args:=args,res:=↥(.bool true),after:=args }=↥(.bool (true==true)) from w_eq_bool (w_res rfl) w_lit) rfl
def xl{l:OpenLaw}{n:Nat}{q:aG}{loose:ao}{s:(aT)->Heap->Prop}{p:World->Heap->Prop}{d:DefRec}
  (hn:l.most=↥n) (H:d.params.defaults=[])
  (call:∀(w:World) (s₀ b:ap) (mg j:aT) (fa:Addr) (o:Obj) (i g c:Value) (a:Addr) (vs:aw) (ns:ae),
   Ground q loose [] s w s₀ mg j b.heap->p w b.heap ->
   b.heap.get? fa=↥o->o.data=.func (docDef d.name d.params d.body d.scope i g c)->b.heap.CodeRec g d.name->mg d.name=↥(.ref fa) ->
   b.heap.get? a=some { cls:=.type "list",data:=.seq vs.toArray }->im vs ns->ns.length<=n->b.gens = #[] ->
   qS (model l.prog w) Kn (.call (.ref fa) ⟨[.ref a],[]⟩) (λr e=>r=.ok (.ret (.bool true))/\OldK b.heap e.heap/\e.os=b.os/\sB e.gens) b) :
  WalkO q loose s p l.row.toRowW d [] (λf vs=>Rs f vs):=by
 intro w s₀ b mg j G Y fa o i g c E kV x hd t m hmg A args vals as J F u k z;obtain rfl:E=.none:=Dflts.none m H;obtain rfl:kV=.none:=Dflts.noKw m;ext(⟨a,vs,ns,rfl,rfl,I,hints,hlen⟩:Bz hn J k);refine enter_call (ad9 (call w s₀ b mg j fa o i g c a vs ns G Y x (fd_plain hd) t hmg I hints hlen A) λr e v=>?_);ext(⟨rfl,D,C,B⟩:v);exact⟨.inl ⟨.bool true,.bool true,[],rfl,λ_=>rfl,.bool true,BH l _,λ_=>⟨Da,λ_ y=>(nomatch y)⟩⟩,D,C,B⟩
end Att
namespace L2
open PySem PySem.Spec PyProof.Rows
theorem mD:∀{vs:aw} {ns:ae},im vs ns->Vals (ns.map V.int) vs
 |_,_,.nil=>.nil
 |_,_,.cons n t h=>.cons ⟨t,rfl⟩ (mD h)
def Ly(H:Hp):Prop:=∀b,H b=none\/∃o a,H b=↥(.iF o (.lst a))
def Fv{P:aG}{w:World}{K:av}{mg t:aT}{CX:CU}{k:Nat}{fa a:Addr}{N:hD}{x:Str}{sp:Sp}{c:ap}{vs:aw}{ns:ae}
  (KX:K.In c.heap) (Q:c.heap.Ns cr mg) (f:c.heap.Ns yaE t) (A:∀x:Str,x ≠ "__name__" -> t x=kE x) (D:c.heap.NoLimit) (hg:c.gens = #[])
  (l:c.heap.get? a=some { cls:=.type "list",data:=.seq vs.toArray }) (J:im vs ns) (I:ns.length<=sizeLine) (Z:gu k Kn)
  (F:∀base:Heap,K.In base->base.Ns cr mg->fP P w K mg base CX k fa N [x] sp) (Vz:∀(s:ap) (u:Value),Tk s N ⟨[u],[]⟩ [(x,u)])
  (T:∀H:Hp,Ly H->eG K H a (ns.map V.int)->sp [.ref a] H (λv _=>v=.bl true) λ_ _ _=>False)
  (B:∀H e g,CX [] H c (λ_ _ _=>False) e g->False) :
  qS (model P w) Kn (.call (.ref fa) ⟨[.ref a],[]⟩) (λr g=>r=.ok (.ret (.bool true))/\OldK c.heap g.heap/\g.os=c.os/\sB g.gens) c:=by
 ext(G:mD J);have Z1:=J.length;have core:∀H:Hp,Ly H->eG K H a (ns.map V.int)->kj H c.heap->(∀b,H b≠none->b=a)->(H a≠none->K.lookup a=none) ->
   qS (model P w) Kn (.call (.ref fa) ⟨[.ref a],[]⟩) (λr g=>r=.ok (.ret (.bool true))/\OldK c.heap g.heap/\g.os=c.os/\sB g.gens) c:=by
  intro H L hS O M hK;have R:∀{b:Addr} {o:Obj},c.heap.get? b=↥o->H b=none->(uh c.heap H).get? b=↥o:=λe n=>FY e n;have Uk:∀{b:Addr} {o:Obj} {es:Array mB} {ep:Nat},c.heap.get? b=↥o->o.data=.dict es ep->H b=none:=λ{b o es ep} e d=>by
   cases q:H b with
   |none=>rfl
   |some u =>
    have C:b=a:=M b (by rw[q];simp);subst C;rw[l]at e;cases e;have d':Data.seq vs.toArray _=Data.dict es ep:=d;cases d'
  have p:∀{b:Addr} {m:aT},c.heap.Ns b m->(uh c.heap H).Ns b m:=λ{b m} ⟨o,es,ep,e,d,r⟩=>⟨o,es,ep,R e (Uk e d),d,r⟩
  have j:K.In (uh c.heap H):=λb o e=>R (KX b o e) (by
   cases q:H b with
   |none=>rfl
   |some u =>
    have C:b=a:=M b (by rw[q];simp);subst C;rw[hK (by rw[q];simp)]at e;cases e)
  have hM:Mod K mg (uh c.heap H):=⟨j,p Q,⟨t,p f,A⟩,let ⟨mc,h1,h2⟩:=D;⟨mc,p h1,h2⟩⟩
  have e0:LC P w K mg (uh c.heap H) Kn [] c H:=⟨rfl,hM,λb o e=>JG e,adb (Cc _ _),trivial,λb f=>absurd (show b∈([]:aX) from f) ⇑5,O,.of_eq hg⟩
  refine ad9 ((F _ j (p Q)).run Kn [] c H ⟨[.ref a],[]⟩ [.ref a] [.ref a] _ _ Z e0 (Vz c (.ref a)) (.cons rfl .nil) (T H L hS)) λr g h=>?_;cases r with
  |error e=>exact(B H e g h).elim
  |ok fl =>
   cases fl with
   |next=>exact lv h
   |brk=>exact lv h
   |cont=>exact lv h
   |ret u =>
    ext(⟨v,H',X,bare,un,E,U,q⟩:h);have W:v=.bl true:=q;subst W;obtain rfl:u=lp true:=U;refine⟨rfl,OldK.of_keep λb o e=>?_,X,bare⟩;cases q:H b with
    |none=>exact un.keep b o e q (by intro z;exact absurd (show b∈([]:aX) from z) ⇑5) ⇑5
    |some u =>
     ext((z|⟨Y,xs,z⟩):L b)
     ·rw[q]at z;cases z
     ·ext(S:un.m5 b Y _ z)(⟨e1,_⟩:O b _ z)(⟨e2,_⟩:E b _ S);rw[e]at e1;cases e1;exact e2
 cases y:K.lookup a with
 |some o =>
  ext(e:KX a o y);rw[l]at e;cases e;refine core ⇑8 (λ_=>.inl rfl) (.inr ⟨_,vs.toArray,_,y,rfl,rfl,rfl,[zad,Z1]\I,⇑G⟩) (λb u z=>by have i:(none:Option HO)=↥u:=z;cases i) (λb z=>absurd rfl z) λz=>absurd rfl z
 |none =>
  refine core (λb=>if b=a then ↥(.iF { cls:=.type "list",data:=.seq vs.toArray } (.lst (ns.map V.int))) else none) (λb=>?_) (.inl (.inr ⟨{ cls:=.type "list",data:=.seq vs.toArray },abi rfl⟩)) (λb u z=>?_) (λb z=>?_) λ_=>y
  ·by_cases f:b=a
   ·exact .inr ⟨_,_,abi f⟩
   ·exact .inl (aec f)
  ·by_cases f:b=a
   ·ext(i:(abi f).symm.trans z);cases i;subst f;exact⟨l,[zaa]\I,vs,_,G,l⟩
   ·ext(i:(aec f).symm.trans z);cases i
  ·by_cases f:b=a
   ·exact f
   ·exact absurd (aec f) z
end L2
namespace L2
open PySem PySem.Spec PyProof.Rows
def Iq{l:wP}{n k:Nat}{q:aG}{loose:ao}{J:(aT)->Heap->Prop}{r:World->Heap->Prop}{d:DefRec}{K:Params->av}{CX:World->CU}{sp:World->Sp}{x:Str}
  (hn:l.most=↥n) (M:n<=sizeLine) (L:d.params.defaults=[]) (y:gu k Kn)
  (B:∀(w:World) (h:Heap),r w h->(K w.params).In h)
  (F:∀(w:World) (mg:aT) (fa:Addr) (h:Heap),(K w.params).In h->h.Ns cr mg->mg d.name=↥(.ref fa) ->
   ∃j:hD,(∀(s:ap) (u:Value),Tk s j ⟨[u],[]⟩ [(x,u)]) /\
    ∀base:Heap,(K w.params).In base->base.Ns cr mg->fP l.prog w (K w.params) mg base (CX w) k fa j [x] (sp w))
  (t:∀(w:World) (H:Hp) (a:Addr) (ns:ae),ns.length<=n->Ly H->eG (K w.params) H a (ns.map V.int)->sp w [.ref a] H (λv _=>v=.bl true) λ_ _ _=>False)
  (i:∀(w:World) (H:Hp) (s:ap) (e:Value) (s':ap),CX w [] H s (λ_ _ _=>False) e s'->False) :
  VQ q loose J r l.row.toRowW d [] (λf m=>Rs f m):=by
 refine Att.xl hn L λw p c mg Q fa o P S I a m ns G Y R hd O hmg N hints hlen z=>?_;ext(KX:B w _ Y)(⟨j,A,E⟩:F w mg fa _ KX G.T.g hmg);exact Fv KX G.T.g G.T.b G.T.builtins G.T.nolimit z N hints (aav hlen M) y E A (λH D C=>t w H a ns hlen D C) λH e s'=>i w H c e s'
end L2
namespace L2
open PySem PySem.Spec PyProof.Rows
meta def eK(s:Stmt):Arguments:=match s with
 |.FunctionDef _ a _ _ _ _ _ _ _ _=>a
 |_=>{ posonlyargs:=[],args:=[],vararg:=none,kwonlyargs:=[],kw_defaults:=[],kwarg:=none,defaults:=[] }
meta def bB(s:Stmt):aP:=match s with
 |.FunctionDef _ _ b _ _ _ _ _ _ _=>b
 |_=>[]
meta def aD(s:Stmt):Scope:=match s with
 |.FunctionDef _ _ _ _ _ _ a _ _ _=>a
 |_=>{ kind:=.function,names:=[],isGenerator:=false,isCoroutine:=false }
abbrev u_:CU:=λ_ _ _ _ _ _=>False
abbrev E0:XK:=λ_ _ _=>False
def Mr{X:Cx}:Passes u_ X E0:=λ_ _ _ _ _ _ _ h=>h.elim
structure CQ(K:av)(x qual:Str)(st:Stmt)(f:Addr)(fd:hD):Prop where
 ex:∃(oc:Value) (od:Option Addr) (kV doc pm:Value) (an:Option Addr) (fM ct:Value) (EG:Array (Option Value)),
  fd=hV x qual (eK st) (bB st) (aD st) .none kV doc pm an fM ct/\K.lookup f=↥⟨oc,od,.func fd,EG⟩/\rA K fM qual=true
 kp:hP K (.ref f)=true
variable {f:Addr}{ps:ao}{qual:Str}{st:Stmt}
section
variable {P:aG}{w:World}{K:av}{mg:aT}{base:Heap}
def CQ.ok{x:Str}{b:hD}{N:ao}{k:Nat}{sp:Sp}(F:CQ K x qual st f b)(S:e_ N ps (aD st))(len:∀vs H Q E,sp vs H Q E->vs.length=ps.length)
  (d:∀(a:Value) (A:aF) (outer:List Env) (s:ap) (H:Hp) (vs:ah) (Q:VK) (E:XK),gu k (A.deeper (D0 qual (aD st) s.heap.objs.size f a))->sp vs H Q E ->
   ∃t,gO (js u_ P w K mg base N qual (aD st) f a A outer s H E).yd (bB st) t/\t { nx:=λ_ l=>Q .b0 l,rt:=Q } (start N vs) H):fP P w K mg base u_ (k+1) f b ps sp:=by
 ext(⟨o,n,kV,j,m,r,a,p,u,rfl,g,c⟩:F.ex);refine MQ g c S len λA outer s H vs Q E i e=>?_;ext(⟨t,h,q⟩:d a A outer s H vs Q E i e);exact⟨t,h.yd,q⟩
def CQ.binds{x:Str}{g:hD}(F:CQ K x qual st f g)
  (h:∀(kV a c:Value) (e:Option Addr) (d ct:Value) (b:aw),b.length=ps.length->y2 (hV x qual (eK st) (bB st) (aD st) .none kV a c e d ct) ⟨b,[]⟩=pure (ps.zip b)):Binds K g ps []:=by
 ext(⟨k,j,kV,a,c,e,d,ct,m,rfl,l,i⟩:F.ex);exact .all (h kV a c e d ct)
def Qg{x:Str}{h:Value}{g e:Option Addr}{i:Array (Option Value)}{kV a d b ct:Value}(l:K.lookup f=↥⟨h,g,.func (hV x qual (eK st) (bB st) (aD st) .none kV a d e b ct),i⟩)
  (c:rA K b qual=true) (k:hP K (.ref f)=true):CQ K x qual st f (hV x qual (eK st) (bB st) (aD st) .none kV a d e b ct):=⟨⟨h,g,kV,a,d,e,b,ct,i,rfl,l,c⟩,k⟩
end
def ME{A:aF}{k:Nat}(a:gu k A):A.units+1<cLine:=aaZ (aaP (by decide:1<=64) _) a.units
def J6{A B:Prop}(h:B):if false=true then A else B:=by
 exact[zab zaj]\h
def UO{A B:Prop}(h:A):if true=true then A else B:=by
 exact[zac rfl]\h
def aL(H H':Hp):Prop:=∀b o,H b=↥o->H' b=↥o
def aL.refl(H:Hp):aL H H:=λ_ _ h=>h
def aL.trans{H H1 H2:Hp}(a:aL H H1)(b:aL H1 H2):aL H H2:=λc o h=>b c o (a c o h)
variable {H':Hp}
def aL.free{H:Hp}(e:aL H H'){l:Addr}(h:H' l=yan):H l=yan:=by
 cases q:H l with
 |none=>rfl
 |some o =>
  rw[e l o q]at h;cases h
def aL.seq{K:av}{H:Hp}{a:Addr}{xs:ah}(e:aL H H')(h:eG K H a xs):eG K H' a xs:=by
 ext(((h|⟨o,h⟩)|h):h)
 ·exact .inl (.inl (e _ _ h))
 ·exact .inl (.inr ⟨o,e _ _ h⟩)
 ·exact .inr h
end L2
set_option autoImplicit false
set_option linter.all false
set_option Elab.async false
set_option maxRecDepth 100000
set_option maxHeartbeats 4000000
section
namespace DI
open PySem (Str Expr Stmt Scope NameKind)
inductive Fl where|ow|fz|al|sc
 deriving DecidableEq
inductive D where
 |b0|bl (b:Bool)|int (i:Int)|str (s:Str)
 |tup (ds:List D)
 |lst (f:Fl) (ds:List D)
 |cF (f:Fl) (ks:az) (vs:List D)
abbrev aM:=Option D
abbrev aa:=List D
mutual
meta def aI(g:Fl->Fl):D->D
 |.tup a=>.tup (ak g a)
 |.lst f a=>.lst (g f) (ak g a)
 |.cF f e c=>.cF (g f) e (ak g c)
 |.b0=>.b0
 |.bl b=>.bl b
 |.int i=>.int i
 |.str s=>.str s
meta def ak(g:Fl->Fl):aa->aa
 |[]=>[]
 |d::a=>aI g d::ak g a
end
theorem aN(g:Fl->Fl):∀a:aa,ak g a=a.map (aI g)
 |[]=>rfl
 |d::a=>by rw[ak,aN g a];rfl
meta def bp:Fl->Fl|.ow=>.al|f=>f
meta def fC:Fl->Fl|.fz=>.al|f=>f
meta def aK:Fl->Fl|.sc=>.sc|_=>.fz
meta def ub:Fl->Bool|.sc=>true|_=>false
mutual
meta def aW(p:Fl->Bool):D->Bool
 |.tup a=>aQ p a
 |.lst f a=>p f||aQ p a
 |.cF f c b=>p f||aQ p b
 |_=>false
meta def aQ(p:Fl->Bool):aa->Bool
 |[]=>false
 |d::a=>aW p d||aQ p a
end
meta def bW:Fl->Bool|.al=>true|_=>false
meta def cy:Fl->Bool|.ow=>true|_=>false
meta def anyF:Fl->Bool:=λ_=>true
mutual
meta def lA:D->D->Bool
 |.b0,.b0=>true
 |.bl a,.bl b=>a==b
 |.bl a,.int b=>(if a then 1 else 0)==b
 |.int a,.bl b=>a==(if b then 1 else 0)
 |.int a,.int b=>a==b
 |.str a,.str b=>a==b
 |.tup a,.tup b=>fL a b
 |.lst _ a,.lst _ b=>fL a b
 |_,_=>false
meta def fL:aa->aa->Bool
 |[],[]=>true
 |a::as,b::bs=>lA a b&&fL as bs
 |_,_=>false
end
meta def cq:Nat->D->Bool
 |_,.b0=>true
 |_,.bl _=>true
 |_,.int _=>true
 |_,.str _=>true
 |n+1,.tup ds=>ds.all (cq n)
 |n+1,.lst _ ds=>ds.all (cq n)
 |_,_=>false
abbrev O(a:Type):=Option (Except Nat a)
abbrev aE:=aa->O D
meta def ok{b:Type}(a:b):O b:=↥(.ok a)
meta def bd{d b:Type}(x:O d)(f:d->O b):O b:=match x with
 |some (.ok a)=>f a
 |some (.error c)=>↥(.error c)
 |none=>none
nonrec def XI{b:Type}{a:b}:((none:O b)=ok a)=False:=by simp[ok]
nonrec def ZQ{c:Type}{a b:c}:(ok a=ok b)=(a=b):=by simp[ok]
nonrec def abQ{b:Type}{a:b}{c:Nat}:((↥(.error c):O b)=ok a)=False:=by simp[ok]
nonrec def MB{c:Type}{p:Prop}[Decidable p]{a b:c}:((if p then ok a else none)=ok b)=(p/\a=b):=by
 by_cases h:p<;>simp[h]
nonrec def aah{c:Type}{p:Prop}[Decidable p]{a b:c}:((if p then none else ok a)=ok b)=(¬ p/\a=b):=by
 by_cases h:p<;>simp[h]
def nL{b c:Type}(a:b)(f:b->O c):bd (ok a) f=f a:=rfl
def nk{b:Type}{a:b}{P:Prop}(h:(none:Option b)=↥a):P:=nomatch h
inductive Bd{α β:Type}(x:O α)(f:α->O β)(b:β):Prop where|mk (a:α) (h1:x=ok a) (h2:f a=ok b)
def aJ{e d:Type}{x:O e}{f:e->O d}{b:d}(h:bd x f=ok b):Bd x f b:=by
 unfold bd at h
 match x,h with
 |some (.ok a),h=>exact⟨a,rfl,h⟩
 |some (.error c),h=>cases h
 |none,h=>cases h
inductive Bb where|add|sub|mul|fdiv|mod|pow|shl
 deriving DecidableEq
inductive C_ where|eq|ne|lt|le|gt|ge
 deriving DecidableEq
inductive Ty where|int|bool|str|list|tuple
 deriving DecidableEq
inductive Bf where|len|abs|min2|max2|list1|tuple1|ju|all1|iL
 deriving DecidableEq
inductive Tg where|nm(i:Nat)|tp(is:aR)
 deriving DecidableEq
inductive IK where|nC|mM|seq|cM(p:Nat)
 deriving DecidableEq
inductive GK where|i(z:Int)
 deriving DecidableEq
inductive CE where
 |b0|bl (b:Bool)|int (i:Int)|str (s:Str)|glo (x:Str) (i:Int)
 |v (i:Nat)
 |bin (op:Bb) (a b:CE)
 |neg (a:CE)|not (a:CE)|and (es:List CE)|or (es:List CE)
 |cmp (op:C_) (a b:CE)
 |qV (a:CE) (t:Ty)
 |call (f:Nat) (es:List CE)
 |bf (f:Bf) (es:List CE)
 |ix (a b:CE)
 |mW (a:CE)
 |tup (es:List CE)|lst (es:List CE)
 |cM (p:Nat) (es:List CE)
 |comp (n:Nat) (t:Tg) (caps:aR) (ik:IK) (es bU:List CE) (elt:CE)
abbrev aA:=List CE
inductive CI where|nC(a:CE)|mM(a b:CE)|seq(a:CE)|Ml(p:Nat)(es:aA)
inductive CS where
 |asg (t:Tg) (e:CE)|par (i j:Nat) (a b:CE)|ret (e:CE)|rs (c:Nat)|ex (e:CE)
 |mut (p i:Nat) (es:aA)|mu2 (p i:Nat) (k e:CE)|unp (is:aR) (e:CE)|app (i:Nat) (e:CE)|aug (i:Nat) (op:Bool) (e:CE)
 |ifs (c:CE) (a b:List CS)
 |LI (c:CE) (b:List CS)
 |fr (t:Tg) (it:CI) (b:List CS)
abbrev ai:=List CS
abbrev aS:=List (aM)
abbrev aV:=Nat->aE
meta def big:Nat:=2 ^ 9000
def gE(i j:Int):Bool:=decide (i.natAbs<2 ^ 64)||decide (j.natAbs<2 ^ 64)||(decide (i.natAbs<big)&&decide (j.natAbs<big))
def AO(j:Int):Bool:=decide (j≠0)&&decide (j.natAbs<big)
meta def vR(i j:Int):Bool:=decide (0<=j)&&decide (j<=1000000)&&decide (i.natAbs<2 ^ 64)
meta def cU:Nat:=1000000
def rX{b:Type}{c:Prop}[inst:Decidable c]{v d:b}(h:(if c then ok v else none)=ok d):c/\v=d:=by
 cases inst with
 |isTrue a=>exact⟨a,Sz (aaV h)⟩
 |isFalse a=>cases h
def ZS:Bb->Int->Int->Bool
 |.mul,i,j=>gE i j
 |.fdiv,_,j=>AO j
 |.mod,_,j=>decide (j≠0)
 |.pow,i,j=>vR i j
 |.shl,i,j=>vR i j
 |_,_,_=>true
meta def resB:Bb->Int->Int->Int
 |.add,i,j=>i+j
 |.sub,i,j=>i - j
 |.mul,i,j=>i*j
 |.fdiv,i,j=>i.fdiv j
 |.mod,i,j=>i.fmod j
 |.pow,i,j=>i ^ j.toNat
 |.shl,i,j=>i*2 ^ j.toNat
def Ld:Bb->D->D->O D
 |.add,.lst f a,.lst g b=>if ub f=false/\ub g=false/\a.length+b.length<=cU then ok (.ow\(ak bp (a++b)))else none
 |.add,.tup a,.tup b=>if a.length+b.length<=cU then ok (.tup (ak bp (a++b)))else none
 |.mul,.lst f a,.int k=>if ub f=false/\a.length*k.toNat<=cU/\k<=cU /\ -cU<=k then ok (.ow\(ak bp (cj k.toNat a).flatten))else none
 |_,_,_=>none
def dk(op:Bb)(x y:D):O D:=match x with
 |.int i=>match y with
  |.int j=>if ZS op i j=true then ok ↑(resB op i j) else none
  |_=>Ld op x y
 |_=>Ld op x y
def inD(x:D):aa->Bool
 |[]=>false
 |y::ys=>lA y x||inD x ys
meta def f9:D->Bool
 |.b0=>true|.bl _=>true|.int _=>true|.str _=>true|_=>false
meta def ym:D->Option (aa)
 |.tup a=>↥a
 |.lst _ a=>↥a
 |_=>none
def alD(n:Bool)(a b:D):O D:=if cq 40 a&&cq 40 b then ok (.bl (bif n then !lA a b else lA a b))else none
meta def Sn(f:Int->Int->Bool)(a b:D):O D:=match a with
 |.int i=>match b with
  |.int j=>ok (.bl (f i j))
  |_=>none
 |_=>none
meta def ES:D->Bool
 |.b0=>true
 |_=>false
def nnD(n:Bool)(a b:D):O D:=match b with
 |.b0=>ok (.bl (bif n then !ES a else ES a))
 |_=>none
def inX(n:Bool)(a b:D):O D:=match ym b with
 |some c=>if f9 a&&c.all f9 then ok (.bl (bif n then !inD a c else inD a c))else none
 |none=>none
def jH:C_->D->D->O D
 |.eq,a,b=>alD false a b
 |.ne,a,b=>alD true a b
 |.lt,a,b=>Sn (λi j=>decide (i<j)) a b
 |.le,a,b=>Sn (λi j=>decide (i<=j)) a b
 |.gt,a,b=>Sn (λi j=>decide (j<i)) a b
 |.ge,a,b=>Sn (λi j=>decide (j<=i)) a b
meta def eC:Ty->D->Bool
 |.int,.int _=>true|.int,.bl _=>true
 |.bool,.bl _=>true
 |.str,.str _=>true
 |.list,.lst _ _=>true
 |.tuple,.tup _=>true
 |_,_=>false
meta def FE(n:Nat)(i:Int):Option Nat:=if 0<=i then(if i<n then ↥i.toNat else none)else if -(n:Int)<=i then ↥(i+n).toNat else none
def xn(ds:aa)(i:Int):O D:=match(FE ds.length i).bind λj=>ds[j]? with
 |some d=>ok (aI bp d)
 |none=>none
def HQ:D->D->O D
 |.tup ds,.int i=>xn ds i
 |.lst _ ds,.int i=>xn ds i
 |_,_=>none
meta def intsOf:aa->Option (ae)
 |[]=>↥[]
 |.int i::ds=>(intsOf ds).map (i :: ·)
 |_::_=>none
meta def jI:aa->Option (List Bool)
 |[]=>↥[]
 |.bl i::ds=>(jI ds).map (i :: ·)
 |_::_=>none
theorem eu:∀{ds:aa} {ns:ae},intsOf ds=↥ns->ds=ns.map D.int
 |[],ns,h=>by simp[intsOf]at h;subst h;rfl
 |d::ds,ns,h=>by
  cases d<;>simp[intsOf]at h;ext(⟨b,a,rfl⟩:h);rw[eu a];rfl
theorem xj:∀{ds:aa} {bs:List Bool},jI ds=↥bs->ds=bs.map D.bl
 |[],bs,h=>by simp[jI]at h;subst h;rfl
 |d::ds,bs,h=>by
  cases d<;>simp[jI]at h;ext(⟨b,a,rfl⟩:h);rw[xj a];rfl
theorem bX:∀a:ae,intsOf (a.map D.int)=↥a
 |[]=>rfl
 |n::a=>by simp[intsOf,bX a]
theorem nj:∀bs:List Bool,jI (bs.map D.bl)=↥bs
 |[]=>rfl
 |b::bs=>by simp[jI,nj bs]
meta def sortI(ns:ae):ae:=ns.mergeSort (λa b=>decide (a<=b))
def vz(ds:aa):O D:=match intsOf ds with
 |some a=>if a.length<64 then ok (.ow\((sortI a).map D.int))else none
 |none=>none
def rg:Bf->aE
 |.len,xs=>match xs with
  |[.tup ds]=>ok ↑ds.length
  |[.lst _ ds]=>ok ↑ds.length
  |_=>none
 |.abs,xs=>match xs with
  |[.int i]=>ok ↑(if i<0 then -i else i)
  |_=>none
 |.min2,xs=>match xs with
  |[.int i,.int j]=>ok ↑(if j<i then j else i)
  |_=>none
 |.max2,xs=>match xs with
  |[.int i,.int j]=>ok ↑(if j>i then j else i)
  |_=>none
 |.list1,xs=>match xs with
  |[.lst _ ds]=>ok (.ow\(ak bp ds))
  |[.tup ds]=>ok (.ow\(ak bp ds))
  |_=>none
 |.tuple1,xs=>match xs with
  |[.lst _ ds]=>ok (.tup (ak bp ds))
  |_=>none
 |.ju,xs=>match xs with
  |[.lst _ ds]=>(match intsOf ds with
   |some a=>ok ↑a.sum
   |none=>none)
  |_=>none
 |.all1,xs=>match xs with
  |[.lst _ ds]=>(match jI ds with
   |some bs=>ok (.bl (bs.all id))
   |none=>none)
  |_=>none
 |.iL,xs=>match xs with
  |[.tup ds]=>vz ds
  |_=>none
meta def uz(ns:ae):ae:=ns.foldl (λ(m:ae) (k:Int)=>if m.any (· == k)then m else m++[k]) []
def z7:D->O D
 |.tup b=>(match intsOf b with
  |some a=>if a.length<4000 then ok ↑(uz a).length else none
  |none=>none)
 |_=>none
meta def jq:D->O Bool
 |.bl b=>ok b
 |_=>none
meta def intD:D->O Int
 |.int i=>ok i
 |_=>none
meta def EE:Option (aM)->Option (aa)
 |some ↥(.ow\ds)=>↥ds
 |_=>none
def JA{o:Option (aM)}{ds:aa}(h:EE o=↥ds):o=↥↥(.ow\ds):=by
 unfold EE at h;split at h<;>cases h;rfl
def Ka{d:D}{i:Int}(h:intD d=ok i):d=.int i:=by
 cases d<;>simp[intD]at h;rw[h]
meta def JL:D->O D
 |.int i=>ok ↑(-i)
 |_=>none
meta def dH:aR->aa->aS->O aS
 |[],[],ρ=>ok ρ
 |i::is,d::ds,ρ=>if i<ρ.length then dH is ds (ρ.set i ↥d)else none
 |_,_,_=>none
def cw:Tg->D->aS->O aS
 |.nm i,d,ρ=>if i<ρ.length then ok (ρ.set i ↥d)else none
 |.tp is,.tup ds,ρ=>if aQ cy ds then none else dH is ds ρ
 |_,_,_=>none
def xZ:D->O (aa)
 |.lst _ a=>ok (ak aK a)
 |_=>none
def eQ(Φ:aV):IK->aa->O (aa)
 |.cM p,xs=>bd (Φ p xs) xZ
 |.nC,[.int n]=>if n<=cU /\ -cU<=n then ok ((eg n.toNat).map λ(k:Nat)=>D.int (k:Int))else none
 |.mM,[.int m,.int n]=>if n<=cU /\ -cU<=n/\m<=cU /\ -cU<=m then ok ((eg (n - m).toNat).map λ(k:Nat)=>D.int (m+(k:Int)))else none
 |.seq,[.tup ds]=>ok (ak aK ds)
 |.seq,[.lst _ ds]=>ok (ak aK ds)
 |_,_=>none
meta def jk(bind:D->O aS)(test:aS->O Bool)(el:aS->O D):aa->O (aa)
 |[]=>ok []
 |x::xs=>bd (bind x) λa=>bd (test a) λb=>if b then bd (el a) λy=>bd (jk bind test el xs) λc=>ok (y::c)else jk bind test el xs
def bK(n:Nat)(caps:aR)(ρ:aS):aS:=cj n none++caps.map λi=>(ρ[i]?.getD none).map (aI aK)
def zH(o:Option (aM)):O D:=match o with
 |some ↥d=>ok (aI bp d)
 |_=>none
def DR{o:Option (aM)}{d:D}(h:zH o=ok d):∃a,o=↥↥a/\d=aI bp a:=by
 cases o with
 |none=>cases h
 |some z=>cases z with
  |none=>cases h
  |some z=>cases h;exact⟨z,rfl,rfl⟩
mutual
meta def aZ(Φ:aV):CE->aS->O D
 |.b0,_=>ok .b0
 |.bl b,_=>ok (.bl b)
 |.int i,_=>ok ↑i
 |.str s,_=>ok (.str s)
 |.glo _ i,_=>ok ↑i
 |.v i,ρ=>zH ρ[i]?
 |.bin op a b,ρ=>bd (aZ Φ a ρ) λx=>bd (aZ Φ b ρ) λy=>dk op x y
 |.neg a,ρ=>bd (aZ Φ a ρ) JL
 |.not a,ρ=>bd (bd (aZ Φ a ρ) jq) λb=>ok (.bl (!b))
 |.and es,ρ=>sk Φ es ρ
 |.or es,ρ=>Cp Φ es ρ
 |.cmp op a b,ρ=>bd (aZ Φ a ρ) λx=>bd (aZ Φ b ρ) λy=>jH op x y
 |.qV a t,ρ=>bd (aZ Φ a ρ) λx=>ok (.bl (eC t x))
 |.call f es,ρ=>bd (bY Φ es ρ) λg=>bd (Φ f (ak aK g)) λr=>ok (aI fC r)
 |.bf f es,ρ=>bd (bY Φ es ρ) λg=>rg f g
 |.ix a b,ρ=>bd (aZ Φ a ρ) λx=>bd (aZ Φ b ρ) λy=>HQ x y
 |.mW a,ρ=>bd (aZ Φ a ρ) λx=>z7 x
 |.cM p es,ρ=>bd (bY Φ es ρ) λg=>Φ p g
 |.tup es,ρ=>bd (bY Φ es ρ) λg=>ok (.tup g)
 |.lst es,ρ=>bd (bY Φ es ρ) λg=>ok (.ow\g)
 |.comp n t caps ik es bU elt,ρ=>bd (bY Φ es ρ) λg=>bd (eQ Φ ik g) λitems =>
   bd (jk (λd=>cw t d (bK n caps ρ)) (λh=>ji Φ bU h) (λh=>aZ Φ elt h) items) λj=>if j.length<=cU then ok (.ow\(ak fC j))else none
meta def bY(Φ:aV):aA->aS->O (aa)
 |[],_=>ok []
 |e::es,ρ=>bd (aZ Φ e ρ) λx=>bd (bY Φ es ρ) λg=>ok (x::g)
meta def ji(Φ:aV):aA->aS->O Bool
 |[],_=>ok true
 |e::es,ρ=>bd (bd (aZ Φ e ρ) jq) λb=>if b then ji Φ es ρ else ok false
meta def sk(Φ:aV):aA->aS->O D
 |[],_=>none
 |e::es,ρ=>bd (bd (aZ Φ e ρ) jq) λc=>match es with
  |[]=>ok (.bl c)
  |_::_=>if c then sk Φ es ρ else ok (.bl false)
meta def Cp(Φ:aV):aA->aS->O D
 |[],_=>none
 |e::es,ρ=>bd (bd (aZ Φ e ρ) jq) λc=>match es with
  |[]=>ok (.bl c)
  |_::_=>if c then ok (.bl true)else Cp Φ es ρ
end
def wJ(Φ:aV)(e:CE)(ρ:aS):O Bool:=bd (aZ Φ e ρ) jq
inductive Fo where|nx|rt(d:D)
meta def du{c d:Type}(n:Nat)(step:c->O (c ⊕ d))(a:c):O d:=match n with
 |0=>none
 |n+1=>bd (step a) λr=>match r with
  |.inl e=>du n step e
  |.inr b=>ok b
open Classical in
meta def fU{b c:Type}(step:b->O (b ⊕ c))(a:b):O c :=
 if h:∃n,du n step a≠none then du (No h) step a else none
theorem jB{d f:Type}(step:d->O (d ⊕ f)):∀(n m:Nat) (a:d),n<=m->du n step a≠none->du m step a=du n step a
 |0,_,_,_,h=>absurd rfl h
 |n+1,0,_,hl,_=>by left
 |n+1,m+1,a,hl,h=>by
  unfold du at h ⊢
  match e:step a with
  |none=>rw[e]at h;exact absurd rfl h
  |some (.error c)=>rfl
  |some (.ok (.inr b))=>rfl
  |some (.ok (.inl a')) =>
   rw[e]at h;exact jB step n m a' ⋯ h
def mC{b d:Type}{step:b->O (b ⊕ d)}{a:b}{n:Nat}{r:Except Nat d}(h:du n step a=↥r):fU step a=↥r:=by
 have c:∃n,du n step a≠none:=⟨n,by rw[h];simp⟩
 unfold fU;rw[dif_pos c];ext(e:Classical.choose_spec c);rcases ybQ n (No c)with hl|hl
 ·rw[jB step _ _ a hl (by rw[h];simp),h]
 ·rw[<- jB step _ _ a hl e,h]
def mU{b c:Type}{step:b->O (b ⊕ c)}{a:b}{r:Except Nat c}(h:fU step a=↥r):∃n,du n step a=↥r:=by
 unfold fU at h;split at h
 ·exact⟨_,h⟩
 ·cases h
def o4{c f:Type}{step:c->O (c ⊕ f)}{a e:c}(h:step a=ok (.inl e)):fU step a=fU step e:=by
 match d:fU step e with
 |some r =>
  ext(⟨n,b⟩:mU d);refine mC (n:=n+1) ?_;unfold du;exact[h]\b
 |none =>
  match g:fU step a with
  |none=>rfl
  |some r =>
   ext(⟨n,b⟩:mU g)
   match n,b with
   |n+1,b =>
    unfold du at b;rw[h]at b;rw[mC (n:=n) b]at d;cases d
def iH{c d:Type}{step:c->O (c ⊕ d)}{a:c}{b:d}(h:step a=ok (.inr b)):fU step a=ok b :=
 mC (n:=1) (by unfold du;rw[h];rfl)
mutual
meta def gJ:CE->aR
 |.v i=>[i]
 |.bin _ a b=>gJ a++gJ b
 |.neg a=>gJ a
 |.not a=>gJ a
 |.and c=>eE c
 |.or c=>eE c
 |.cmp _ a b=>gJ a++gJ b
 |.qV a _=>gJ a
 |.call _ c=>eE c
 |.bf _ c=>eE c
 |.ix a b=>gJ a++gJ b
 |.mW a=>gJ a
 |.tup c=>eE c
 |.lst c=>eE c
 |.cM _ c=>eE c
 |.comp _ _ d _ c _ _=>d++eE c
 |_=>[]
meta def eE:aA->aR
 |[]=>[]
 |e::c=>gJ e++eE c
end
def iF(is:aR)(ρ:aS):aS:=ρ.mapIdx λi d=>if i∈is then d.map (aI aK)else d
def keep(e:CE)(d:D)(ρ:aS):D×aS:=if aW bW d then(aI aK d,iF (gJ e) ρ)else(d,ρ)
def kf(Φ:aV)(e:CE)(ρ:aS):O (D×aS):=match e with
 |.v i=>match ρ[i]? with
  |some ↥d=>if aW cy d then ok (d,ρ.set i none)else ok (d,ρ)
  |_=>none
 |_=>bd (aZ Φ e ρ) λd=>ok (keep e d ρ)
def cI(Φ:aV)(it:CI)(ρ:aS):O (aa×aS):=match it with
 |.Ml p g=>bd (bY Φ g ρ) λe=>bd (Φ p e) λd=>bd (xZ d) λitems=>ok (items,if aQ bW e then iF (eE g) ρ else ρ)
 |.nC a=>bd (aZ Φ a ρ) λx=>match x with
  |.int n=>if n<=cU /\ -cU<=n then ok ((eg n.toNat).map λ(k:Nat)=>D.int (k:Int),ρ)else none
  |_=>none
 |.mM a b=>bd (aZ Φ a ρ) λx=>bd (aZ Φ b ρ) λy=>match x,y with
  |.int m,.int n=>if n<=cU /\ -cU<=n/\m<=cU /\ -cU<=m then ok ((eg (n - m).toNat).map λ(k:Nat)=>D.int (m+(k:Int)),ρ)else none
  |_,_=>none
 |.seq a=>bd (aZ Φ a ρ) λx=>match x with
  |.tup c=>ok (ak aK c,if aW bW x then iF (gJ a) ρ else ρ)
  |.lst f c=>ok (ak aK c,if aW bW x then iF (gJ a) ρ else ρ)
  |_=>none
def lX(es:aA)(xs:aa)(ρ:aS):aa×aS:=if aQ bW xs then(ak aK xs,iF (eE es) ρ)else(xs,ρ)
meta def tW(Φ:aV)(p i:Nat)(r:aa×aS):O (Fo×aS):=match r.2[i]? with
 |some ↥d=>bd (Φ p (d::r.1)) λa=>ok (.nx,r.2.set i ↥a)
 |_=>none
def EZ(Φ:aV)(p i:Nat)(ρ:aS)(kd d:D):O (Fo×aS):=match ρ[i]? with
 |some ↥x=>if aW anyF kd=false/\aW anyF d=false then bd (Φ p [x,kd,d]) λa=>ok (.nx,ρ.set i ↥a)else none
 |_=>none
def Iy(is:aR)(d:D)(ρ:aS):O aS:=match d with
 |.tup a=>dH is a ρ
 |.lst _ a=>dH is a ρ
 |_=>none
meta def dD(bind:D->aS->O aS)(body:aS->O (Fo×aS)):aa->aS->O (Fo×aS)
 |[],ρ=>ok (.nx,ρ)
 |d::ds,ρ=>bd (bind d ρ) λa=>bd (body a) λr=>match r with
  | (.nx,ρ2)=>dD bind body ds ρ2
  | (.rt d,ρ2)=>ok (.rt d,ρ2)
mutual
meta def ir(Φ:aV):CS->aS->O (Fo×aS)
 |.asg t e,f=>bd (kf Φ e f) λr=>bd (cw t r.1 r.2) λg=>ok (.nx,g)
 |.par i j a b,f=>bd (aZ Φ a f) λx=>bd (aZ Φ b f) λy=>if aW anyF x=false/\aW anyF y=false/\i<f.length/\j<f.length then ok (.nx,(f.set i ↥x).set j ↥y)else none
 |.ret e,f=>bd (kf Φ e f) λr=>ok (.rt r.1,r.2)
 |.rs c,_=>↥(.error c)
 |.ex e,f=>bd (aZ Φ e f) λ_=>ok (.nx,f)
 |.mut p i es,f=>bd (bY Φ es f) λl=>tW Φ p i (lX es l f)
 |.mu2 p i k e,f=>bd (aZ Φ k f) λm=>bd (aZ Φ e (f.set i none)) λd=>EZ Φ p i f m d
 |.unp is e,f=>bd (kf Φ e f) λr=>bd (Iy is r.1 r.2) λg=>ok (.nx,g)
 |.app i e,f=>bd (kf Φ e f) λr=>match EE r.2[i]? with
  |some h=>if h.length<cU then ok (.nx,r.2.set i ↥(.ow\(h++[r.1])))else none
  |none=>none
 |.aug i op e,f=>bd (bd (aZ Φ e f) intD) λb=>match f[i]? with
  |some ↥↑a=>ok (.nx,f.set i ↥↑(if op then a+b else a - b))
  |_=>none
 |.ifs c a b,f=>bd (wJ Φ c f) λk=>if k then bE Φ a f else bE Φ b f
 |.LI c b,f=>fU (λf=>bd (wJ Φ c f) λk=>if k then bd (bE Φ b f) λr=>match r with
   | (.nx,g)=>ok (.inl g)
   | (.rt d,g)=>ok (.inr (.rt d,g))
  else ok (.inr (.nx,f))) f
 |.fr t it b,f=>bd (cI Φ it f) λr=>dD (λd f=>cw t d f) (λf=>bE Φ b f) r.1 r.2
meta def bE(Φ:aV):ai->aS->O (Fo×aS)
 |[],f=>ok (.nx,f)
 |s::ss,f=>bd (ir Φ s f) λr=>match r with
  | (.nx,g)=>bE Φ ss g
  |r=>ok r
end
meta def qQ(Φ:aV)(n:Nat)(b:ai)(ds:aa):O D:=bd (bE Φ b (ds.map some++cj (n - ds.length) none)) λr=>match r.1 with
 |.nx=>ok .b0
 |.rt d=>ok d
meta def Ii:aE
 |[.lst _ a,.lst _ b]=>ok (.ow\(f8 (λx y=>.tup [x,y]) a b))
 |_=>none
end DI
end
section
namespace DI
open PySem PySem.Spec PyProof.Rows L2
abbrev bw:=aR
abbrev St:=L2.St
abbrev qI:=Addr->ah->Prop
inductive Nd where|l(xs:ah)|d(cs:az)(as:aX)(xs:ah)(ep:Nat)
abbrev lB:=bw->Addr->Nd->Fl->Prop
structure dw(T:qI)(as:aX)(cs:az):Prop where
 len:as.length=cs.length
 tup:∀(j:Nat) (a:Addr) (c:ae),as[j]?=↥a->cs[j]?=↥c->T a (c.map V.int)
variable {T T':qI}{as ch fp:aX}
def dw.imp{cs:az}(h:dw T as cs)(d:∀p b,T p b->T' p b):dw T' as cs:=⟨h.len,λj a c f e=>d _ _ (h.tup j a c f e)⟩
mutual
inductive Rep(T:qI)(N:lB):bw->V->D->Prop where
 |b0 {q:bw}:Rep T N q .b0 .b0
 |bl {q:bw} (b:Bool):Rep T N q (.bl b) (.bl b)
 |int {q:bw} (i:Int):Rep T N q ↑i ↑i
 |str {q:bw} (s:Str):Rep T N q (.str s) (.str s)
 |tup {q:bw} {p:Addr} {xs:ah} {ds:aa} (h:T p xs) (r:aH T N q 0 xs ds):Rep T N q (.ref p) (.tup ds)
 |lst {q:bw} {p:Addr} {xs:ah} {f:Fl} {ds:aa} (h:N q p (.l xs) f) (r:aH T N q 0 xs ds):Rep T N q (.ref p) (.lst f ds)
 |cF {q:bw} {p:Addr} {cs:az} {as:aX} {xs:ah} {ep:Nat} {f:Fl} {ds:aa} (h:N q p (.d cs as xs ep) f) (k:dw T as cs) (r:aH T N q 0 xs ds):Rep T N q (.ref p) (.cF f cs ds)
inductive aH(T:qI)(N:lB):bw->Nat->ah->aa->Prop where
 |nil {q:bw} {n:Nat}:aH T N q n [] []
 |cons {q:bw} {n:Nat} {v:V} {d:D} {vs:ah} {ds:aa} (h:Rep T N (n::q) v d) (t:aH T N q (n+1) vs ds):aH T N q n (v::vs) (d::ds)
end
variable {N N':lB}{ds ds' items:aa}
def Rep.Dm{q:bw}{v:V}(h:Rep T N q v (.tup ds)):∃p c,v=.ref p/\T p c/\aH T N q 0 c ds:=by
 cases h with
 |tup a b=>exact⟨_,_,rfl,a,b⟩
variable {f:Fl}
def Rep.nN{q:bw}{v:V}(h:Rep T N q v (.lst f ds)):∃p c,v=.ref p/\N q p (.l c) f/\aH T N q 0 c ds:=by
 cases h with
 |lst a b=>exact⟨_,_,rfl,a,b⟩
mutual
theorem uk:∀d:D,aW (λ_=>false) d=false
 |.b0=>rfl
 |.bl _=>rfl
 |.int _=>rfl
 |.str _=>rfl
 |.tup ds=>ig ds
 |.lst _ ds=>ig ds
 |.cF _ _ ds=>ig ds
theorem ig:∀ds:aa,aQ (λ_=>false) ds=false
 |[]=>rfl
 |d::ds=>by show(aW _ d||aQ _ ds)=false;rw[uk d,ig ds];rfl
end
def Ox{a b:Bool}(h:(a||b)=false):a=false/\b=false:=by cases a<;>cases b<;>first|exact⟨rfl,rfl⟩|cases h
variable {k' q':bw}{vs xs xs' ys:ah}
section
variable {T T':qI}{N N':lB}{g:Fl->Fl}{P:Fl->Bool}{C:bw->bw->Prop}{I:Nat->Nat->Prop}
mutual
theorem Rep.gen(j:∀p xs,T p xs->T' p xs)(a:I 0 0)(m:∀n n',I n n'->I (n+1) (n'+1))(o:∀k k' n n',C k k'->I n n'->C (n::k) (n'::k'))(l:∀k k' p xs f,C k k'->P f=false->N k p xs f->N' k' p xs (g f)):
  ∀{k:bw} {v:V} {d:D},Rep T N k v d->∀{k':bw},C k k'->aW P d=false->Rep T' N' k' v (aI g d)
 |_,_,_,.b0,_,_,_=>.b0
 |_,_,_,.bl b,_,_,_=>.bl b
 |_,_,_,.int i,_,_,_=>.int i
 |_,_,_,.str s,_,_,_=>.str s
 |_,_,_,.tup h r,_,c,e=>.tup (j _ _ h) (aH.gen j a m o l r c a e)
 |_,_,_,.lst h r,_,c,e=>.lst (l _ _ _ _ _ c (Ox e).1 h) (aH.gen j a m o l r c a (Ox e).2)
 |_,_,_,.cF h k r,_,c,e=>.cF (l _ _ _ _ _ c (Ox e).1 h) (k.imp j) (aH.gen j a m o l r c a (Ox e).2)
theorem aH.gen(j:∀p xs,T p xs->T' p xs)(a:I 0 0)(m:∀n n',I n n'->I (n+1) (n'+1))(o:∀k k' n n',C k k'->I n n'->C (n::k) (n'::k'))(l:∀k k' p xs f,C k k'->P f=false->N k p xs f->N' k' p xs (g f)):
  ∀{k:bw} {n:Nat} {vs:ah} {ds:aa},aH T N k n vs ds->∀{k':bw} {n':Nat},C k k'->I n n'->aQ P ds=false->aH T' N' k' n' vs (ak g ds)
 |_,_,_,_,.nil,_,_,_,_,_=>.nil
 |_,_,_,_,.cons h t,_,_,c,i,e=>.cons (Rep.gen j a m o l h (o _ _ _ _ c i) (Ox e).1) (aH.gen j a m o l t c (m _ _ i) (Ox e).2)
end
def Rep.map{q:bw}(b:∀p xs,T p xs->T' p xs)(i:∀c p xs f,N (c++q) p xs f->N' (c++q') p xs (g f)){k:bw}{v:V}{d:D}(h:Rep T N k v d)(c:bw)(e:k=c++q):Rep T' N' (c++q') v (aI g d) :=
 Rep.gen (P:=λ_=>false) (C:=λk k'=>∃c,k=c++q/\k'=c++q') (I:=λn a=>n=a) b rfl (λ_ _ e=>by rw[e]) (λ_ _ n _ ⟨c,e1,e2⟩ e=>⟨n::c,by rw[e1];rfl,by rw[e2,<- e];rfl⟩) (λ_ _ p xs f ⟨c,e1,e2⟩ _ h=>by subst e1;subst e2;exact i c p xs f h) h ⟨c,e,rfl⟩ (uk d)
def aH.map{q:bw}(b:∀p xs,T p xs->T' p xs)(d:∀c p xs f,N (c++q) p xs f->N' (c++q') p xs (g f)){k:bw}{n:Nat}(h:aH T N k n vs ds)(c:bw)(e:k=c++q):aH T' N' (c++q') n vs (ak g ds) :=
 aH.gen (P:=λ_=>false) (C:=λk k'=>∃c,k=c++q/\k'=c++q') (I:=λn a=>n=a) b rfl (λ_ _ e=>by rw[e]) (λ_ _ n _ ⟨c,e1,e2⟩ e=>⟨n::c,by rw[e1];rfl,by rw[e2,<- e];rfl⟩) (λ_ _ p xs f ⟨c,e1,e2⟩ _ h=>by subst e1;subst e2;exact d c p xs f h) h ⟨c,e,rfl⟩ rfl (ig ds)
def Rep.jz(a:∀p xs,T p xs->T' p xs)(b:∀k k' p xs f,N k p xs f->N' k' p xs (g f)){k:bw}{v:V}{d:D}(h:Rep T N k v d)(k':bw):Rep T' N' k' v (aI g d) :=
 Rep.gen (P:=λ_=>false) (C:=λ_ _=>True) (I:=λ_ _=>True) a trivial (λ_ _ e=>e) (λ_ _ _ _ e _=>e) (λk k' p xs f _ _ h=>b k k' p xs f h) h trivial (uk d)
def aH.jz(a:∀p xs,T p xs->T' p xs)(b:∀k k' p xs f,N k p xs f->N' k' p xs (g f)){k:bw}{n:Nat}(h:aH T N k n vs ds)(k':bw)(n':Nat):aH T' N' k' n' vs (ak g ds) :=
 aH.gen (P:=λ_=>false) (C:=λ_ _=>True) (I:=λ_ _=>True) a trivial (λ_ _ e=>e) (λ_ _ _ _ e _=>e) (λk k' p xs f _ _ h=>b k k' p xs f h) h trivial trivial (ig ds)
end
mutual
theorem eX:∀d:D,aI id d=d
 |.b0=>rfl
 |.bl _=>rfl
 |.int _=>rfl
 |.str _=>rfl
 |.tup ds=>by rw[aI,fh ds]
 |.lst f ds=>by rw[aI,fh ds];rfl
 |.cF f a vs=>by rw[aI,fh vs];rfl
theorem fh:∀ds:aa,ak id ds=ds
 |[]=>rfl
 |d::ds=>by rw[ak,eX d,fh ds]
end
section
variable {T T':qI}{N N':lB}
def Rep.imp{q:bw}(a:∀p xs,T p xs->T' p xs)(b:∀c p xs f,N (c++q) p xs f->N' (c++q') p xs f){v:V}{d:D}(h:Rep T N q v d):Rep T' N' q' v d:=by
 have:=Rep.map (g:=id) a b h [] rfl;rw[eX]at this;exact this
def aH.imp{q:bw}{n:Nat}(a:∀p xs,T p xs->T' p xs)(b:∀c p xs f,N (c++q) p xs f->N' (c++q') p xs f)(h:aH T N q n vs ds):aH T' N' q' n vs ds:=by
 have:=aH.map (g:=id) a b h [] rfl;rw[fh]at this;exact this
theorem aH.ind{k:bw}{P:Nat->ah->aa->Prop}(b:∀n,P n [] [])(a:∀n v vs d ds,Rep T N (n::k) v d->aH T N k (n+1) vs ds->P (n+1) vs ds->P n (v::vs) (d::ds)):∀{n:Nat} {vs:ah} {ds:aa},aH T N k n vs ds->P n vs ds
 |_,[],[],_=>b _
 |_,_::_,_::_,.cons h t=>a _ _ _ _ _ h t (aH.ind b a t)
theorem aH.length{k:bw}{n:Nat}{vs:ah}{ds:aa}(h:aH T N k n vs ds):vs.length=ds.length :=
 h.ind (P:=λ_ vs ds=>vs.length=ds.length) (λ_=>rfl) λ_ _ _ _ _ _ _ e=>aa2 Nat.succ e
def zS(n j:Nat):n+(j+1)=n+1+j:=by left
def aH.get{k:bw}{n j:Nat}{d:D}(h:aH T N k n vs ds):ds[j]?=↥d->∃v,vs[j]?=↥v/\Rep T N ((n+j)::k) v d :=
 h.ind (P:=λn vs ds=>∀j,ds[j]?=↥d->∃v,vs[j]?=↥v/\Rep T N ((n+j)::k) v d) (λ_ _ e=>nomatch e) (λn v vs b ds h t a j e=>by
  cases j with
  |zero=>cases e;exact⟨v,rfl,h⟩
  |succ j=>rw[zS n j];exact a j e) j
def aH.Gh{k:bw}{n j:Nat}{v:V}(h:aH T N k n vs ds):vs[j]?=↥v->∃d,ds[j]?=↥d/\Rep T N ((n+j)::k) v d :=
 h.ind (P:=λn vs ds=>∀j,vs[j]?=↥v->∃d,ds[j]?=↥d/\Rep T N ((n+j)::k) v d) (λ_ _ e=>nomatch e) (λn b vs d ds h t a j e=>by
  cases j with
  |zero=>cases e;exact⟨d,rfl,h⟩
  |succ j=>rw[zS n j];exact a j e) j
def aH.uQ{k:bw}(a:∀k k' p xs f,N k p xs f->N k' p xs f){n m l:Nat}{ws:ah}{es:aa}(h:aH T N k n vs ds)(u:aH T N k m ws es):aH T N k l (vs++ws) (ds++es) :=
 h.ind (P:=λ_ vs ds=>∀l,aH T N k l (vs++ws) (ds++es)) (λ_ l=>by
  have:=aH.jz (T':=T) (N':=N) (g:=id) ⇑10 a u;rw[fh]at this;exact this _ _) (λ_ _ _ _ _ h _ b l=>.cons (by
  have:=Rep.jz (T':=T) (N':=N) (g:=id) ⇑10 a h;rw[eX]at this;exact this _) (b _)) l
def aH.snoc{k:bw}{n:Nat}{v:V}{d:D}(h:aH T N k n vs ds):Rep T N ((n+ds.length)::k) v d->aH T N k n (vs++[v]) (ds++[d]) :=
 h.ind (P:=λn vs ds=>Rep T N ((n+ds.length)::k) v d->aH T N k n (vs++[v]) (ds++[d])) (λ_ r=>.cons r .nil) λn _ _ _ ds h _ a r=>.cons h (a (by rw[zae,zS n]at r;exact r))
end
def KL(K:av)(a:Addr)(xs:ah):Prop :=
 ∃(o:Obj) (b:bq) (n:Nat),K.lookup a=↥o/\o.cls=.type "list" /\ o.dict=none/\o.data=.seq b n/\b.size<=sizeLine/\Vals xs b.toList
def DO(p:Addr)(cs:az)(as:aX)(xs:ah)(ep:Nat)(h:Heap):Prop :=
 ∃(zs:List (ae×Addr×Value)) (o:Obj) (es:Array mB),zs.map (·.1)=cs/\zs.map (·.2.1)=as/\Vals xs (zs.map (·.2.2))/\h.get? p=↥o/\o.ExactDict/\o.data=.dict es ep /\
  es.toList=zs.map (λz=>⟨reduceHash (yaR (z.1.map hashInt)),.ref z.2.1,z.2.2⟩)/\cs.Nodup/\cs.length<=sizeLine/\(p==kb)=false
abbrev eN(H:Hp)(p:Addr)(n:Nd):Prop:=match n with
 |.l xs=>H p=↥(.lst xs)
 |.d b as xs a=>H p=↥(.ext (DO p b as xs a))
def eN.ne{H:Hp}{p:Addr}{n:Nd}(h:eN H p n):H p≠none:=by
 cases n with
 |l xs=>intro z;rw[show H p=↥(.lst xs) from h]at z;cases z
 |d b as xs a=>intro z;rw[show H p=↥(.ext (DO p b as xs a)) from h]at z;cases z
variable {H' H1 H2:Hp}
def eN.at{H:Hp}{p:Addr}{n:Nd}(e:∀o,H p=↥o->H' p=↥o)(h:eN H p n):eN H' p n:=by
 cases n with
 |l xs=>exact e _ h
 |d b as xs a=>exact e _ h
def eN.same{H:Hp}{p:Addr}{n:Nd}(e:aL H H')(h:eN H p n):eN H' p n:=h.at (e p)
theorem eN.some{H:Hp}{p:Addr}{n:Nd}(h:eN H p n):∃o,H p=↥o/\(∀xs,o≠.tup xs)/\(∀a u,o≠.iF a u):=by
 cases n with
 |l xs=>exact⟨_,h,λ_ z=>(nomatch z),λ_ _ z=>(nomatch z)⟩
 |d c as xs b=>exact⟨_,h,λ_ z=>(nomatch z),λ_ _ z=>(nomatch z)⟩
def nd(K:av)(R A:ag)(a:Addr->Option bw)(H:Hp):lB:=λq p n f=>match f with
 |.ow=>eN H p n/\a p=↥q
 |.fz=>eN H p n/\R p
 |.al=>eN H p n/\A p
 |.sc=>match n with
  |.l xs=>(∃o,H p=↥(.iF o (.lst xs)))\/KL K p xs
  |.d _ _ _ _=>False
variable {A F G R':Addr->Prop}{K:av}{τ τ' τt:Addr->Option bw}
def nd.DX{R:Addr->Prop}{H:Hp}{q:bw}{p:Addr}{n:Nd}(h:nd K R A τ H q p n .sc):∃xs,n=.l xs/\((∃o,H p=↥(.iF o (.lst xs)))\/KL K p xs):=by
 cases n with
 |l xs=>exact⟨xs,rfl,h⟩
 |d _ _ _ _=>exact h.elim
def nd.sq{R:Addr->Prop}{H:Hp}{q:bw}{p:Addr}(h:nd K R A τ H q p (.l xs) f):eG K H p xs:=by
 cases f with
 |ow=>exact eG.of h.1
 |fz=>exact eG.of h.1
 |al=>exact eG.of h.1
 |sc=>exact h.elim (λh=>.inl (.inr h)) .inr
theorem nd.lst{K:av}{R A:ag}{τ:Addr->Option bw}{H:Hp}{q:bw}{p:Addr}{xs:ah}{f:Fl}(h:nd K R A τ H q p (.l xs) f)(hf:ub f=false):H p=↥(.lst xs):=by
 cases f with
 |ow=>exact h.1
 |fz=>exact h.1
 |al=>exact h.1
 |sc=>cases hf
variable {ep k1 k2 n1 t':Nat}
def nd.dat{R:Addr->Prop}{H:Hp}{q:bw}{p:Addr}{cs:az}(h:nd K R A τ H q p (.d cs as xs ep) f):H p=↥(.ext (DO p cs as xs ep)):=by
 cases f with
 |ow=>exact h.1
 |fz=>exact h.1
 |al=>exact h.1
 |sc=>exact h.elim
def Rd.same{H:Hp}{a:Addr}{u:HO}(e:aL H H')(h:Rd H a u):Rd H' a u:=h.elim (λh=>.inl (e _ _ h)) λ⟨o,h⟩=>.inr ⟨o,e _ _ h⟩
theorem aY.same{K:av}{H H':Hp}{a:Addr}{xs:ah}(e:aL H H')(h:aY K H a xs):aY K H' a xs:=h.elim (λh=>.inl (Rd.same e h)) .inr
theorem nd.same{K:av}{R A:ag}{τ:Addr->Option bw}{H H':Hp}{q:bw}{p:Addr}{n:Nd}{f:Fl}(e:aL H H')(h:nd K R A τ H q p n f):nd K R A τ H' q p n f:=by
 cases f with
 |ow=>exact⟨h.1.same e,h.2⟩
 |fz=>exact⟨h.1.same e,h.2⟩
 |al=>exact⟨h.1.same e,h.2⟩
 |sc=>cases n with
  |l xs=>exact h.elim (λ⟨o,h⟩=>.inl ⟨o,e _ _ h⟩) .inr
  |d _ _ _ _=>exact h.elim
def aL.ne{H:Hp}(e:aL H H'){a:Addr}(h:H a≠none):H' a≠none:=by
 cases q:H a with
 |none=>exact absurd q h
 |some o=>rw[e a o q];simp
structure SI(X:Cx)(F R:ag)(τ:Addr->Option bw)(ρ:aS)(σ:St)(H:Hp):Prop where
 len:ρ.length=σ.length
 rep:∀(i:Nat) (d:D),ρ[i]?=↥↥d->∃v,σ[i]?=↥↥v/\Rep (aY X.K H) (nd X.K R ⇑7 τ H) [i] v d
 rt:∀p,R p->τ p=none
 rh:∀p,R p->H p≠none
 rf:∀p,R p->F p\/X.H₀ p=none
 th:∀p q,τ p=↥q->H p≠none
 t0:∀p q,τ p=↥q->X.H₀ p=none
 same:aL X.H₀ H
variable {X:Cx}{ρ:aS}{σ:L2.St}
def SI.go{R:Addr->Prop}{H:Hp}(S:SI X F R τ ρ σ H)(e:aL H H'):SI X F R τ ρ σ H' :=
 ⟨S.len,λi d h=>let ⟨v,h1,h2⟩:=S.rep i d h;⟨v,h1,h2.imp (λ_ _ h=>aY.same e h) λ_ _ _ _ h=>nd.same e h⟩,S.rt,λp h=>aL.ne e (S.rh p h),S.rf,λp q h=>aL.ne e (S.th p q h),S.t0,S.same.trans e⟩
def lg(G:ag)(τ:Addr->Option bw)(fv:aR)(p:Addr):Prop:=G p/\∀c i,τ p=↥(c++[i])->i∈fv
variable {caps fv fv' is:aR}
def lg.mono{p:Addr}(h:lg G τ fv p)(hs:∀i∈fv,i∈fv'):lg G τ fv' p:=⟨h.1,λc i e=>hs i (h.2 c i e)⟩
def gP(X:Cx)(F:ag)(p:Addr):Prop:=F p\/X.H₀ p=none
inductive cz(K:av)(G R:ag)(τ:Addr->Option bw)(fv:aR)(H H':Hp)(v:V)(d:D):Prop where
 |mk (τt:Addr->Option bw) (h1:∀p q,τt p=↥q->H p=none) (h2:Rep (aY K H') (nd K R (lg G τ fv) τt H') [] v d)
inductive de(K:av)(G R:ag)(τ:Addr->Option bw)(fv:aR)(H H':Hp)(vs:ah)(ds:aa):Prop where
 |mk (τt:Addr->Option bw) (h1:∀p q,τt p=↥q->H p=none) (h2:aH (aY K H') (nd K R (lg G τ fv) τt H') [] 0 vs ds)
section
variable {K:av}{G R:ag}{τ:Addr->Option bw}{fv fv':aR}{H H1 H2:Hp}{v:V}{d:D}{vs:ah}{ds:aa}
def cz.go(h:cz K G R τ fv H H1 v d)(e:aL H1 H2):cz K G R τ fv H H2 v d :=
 let ⟨τt,h1,h2⟩:=h;⟨τt,h1,h2.imp (λ_ _ h=>aY.same e h) λ_ _ _ _ h=>nd.same e h⟩
def nd.mono{A':Addr->Prop}{τ:Addr->Option bw}{q:bw}{p:Addr}{xs:Nd}(h:nd K R A τ H q p xs f)(hR:R p->R' p)(b:A p->A' p)(a:τ p=↥q->τ' p=↥q'):nd K R' A' τ' H q' p xs f:=by
 cases f with
 |ow=>exact⟨h.1,a h.2⟩
 |fz=>exact⟨h.1,hR h.2⟩
 |al=>exact⟨h.1,b h.2⟩
 |sc=>exact h
theorem cz.mono(h:cz K G R τ fv H H1 v d)(hs:∀i∈fv,i∈fv'):cz K G R τ fv' H H1 v d :=
 let ⟨τt,h1,h2⟩:=h;⟨τt,h1,h2.imp ⇑10 λ_ _ _ _ h=>h.mono id (λh=>h.mono hs) id⟩
theorem de.mono(h:de K G R τ fv H H1 vs ds)(hs:∀i∈fv,i∈fv'):de K G R τ fv' H H1 vs ds :=
 let ⟨τt,h1,h2⟩:=h;⟨τt,h1,h2.imp ⇑10 λ_ _ _ _ h=>h.mono id (λh=>h.mono hs) id⟩
def cz.old{a:Hp}(h:cz K G R τ fv H H1 v d)(e:aL a H):cz K G R τ fv a H1 v d :=
 let ⟨τt,h1,h2⟩:=h;⟨τt,λp q z=>e.free (h1 p q z),h2⟩
theorem cz.int{i:Int}:cz K G R τ fv H H1 ↑i ↑i:=⟨λ_=>none,λ_ _ h=>by simp at h,.int i⟩
theorem cz.bl{b:Bool}:cz K G R τ fv H H1 (.bl b) (.bl b):=⟨λ_=>none,λ_ _ h=>by simp at h,.bl b⟩
theorem cz.str{s:Str}:cz K G R τ fv H H1 (.str s) (.str s):=⟨λ_=>none,λ_ _ h=>by simp at h,.str s⟩
theorem cz.b0:cz K G R τ fv H H1 .b0 .b0:=⟨λ_=>none,λ_ _ h=>by simp at h,.b0⟩
def cz.isInt{i:Int}(h:cz K G R τ fv H H1 v ↑i):v=.int i:=by ext(⟨_,_,h⟩:h);cases h;rfl
def cz.B4{i:Bool}(h:cz K G R τ fv H H1 v (.bl i)):v=.bl i:=by ext(⟨_,_,h⟩:h);cases h;rfl
meta def tm:bw->bw
 |[]=>[]
 |[n]=>[n+1]
 |a::b::r=>a::tm (b::r)
def vB(c:bw)(n:Nat):tm (c++[n])=c++[n+1]:=by
 induction c with
 |nil=>rfl
 |cons a c e =>
  cases c with
  |nil=>rfl
  |cons b c=>show a::tm (b::c++[n])=_;rw[e];rfl
def aH.shift(b:∀c n p xs f,N (c++[n]) p xs f->N' (c++[n+1]) p xs f){n:Nat}{vs:ah}{ds:aa}(h:aH T N [] n vs ds):aH T N' [] (n+1) vs ds :=
 h.ind (P:=λn vs ds=>aH T N' [] (n+1) vs ds) (λ_=>.nil) λn _ _ _ _ h _ a=>.cons (h.imp (q:=[n]) (q':=[n+1]) ⇑10 λc p xs f h=>b c n p xs f h) a
theorem de.nil:de K G R τ fv H H1 [] []:=⟨λ_=>none,λ_ _ h=>by simp at h,.nil⟩
open Classical in
theorem de.cons(e1:aL H H1)(e2:aL H1 H2)(h:cz K G R τ fv H H1 v d)(t:de K G R τ fv H1 H2 vs ds):de K G R τ fv H H2 (v::vs) (d::ds):=by
 ext(⟨a,o,l⟩:h)(⟨g,m,j⟩:t);refine⟨λp=>if H1 p=none then(g p).map tm else(a p).map (· ++ [0]),λp q i=>?_,.cons (l.imp (q':=[0]) (λ_ _ h=>aY.same e2 h) λc p xs f h=>?_) (aH.shift (λc n p xs f h=>?_) j)⟩
 ·by_cases b:H1 p=none
  ·exact e1.free b
  ·simp only[b,if_false]at i;cases q1:a p with
   |none=>rw[q1]at i;simp at i
   |some k=>exact o p k q1
 ·have e:nd K R (lg G τ fv) a H2 (c++[]) p xs f:=nd.same e2 h;cases f with
  |ow =>
   have b:H1 p≠none:=h.1.ne;refine⟨e.1,?_⟩;simp only[b,if_false];rw[h.2];simp
  |fz=>exact e
  |al=>exact e
  |sc=>exact e
 ·cases f with
  |ow =>
   have b:H1 p=none:=m p _ h.2;refine⟨h.1,?_⟩;simp only[b,if_true];rw[h.2];simp[vB]
  |fz=>exact h
  |al=>exact h
  |sc=>exact h
end
inductive tD(X:Cx)(F:ag)(Φ:aV)(c:CE)(σ:St)(H:Hp)(Q:VK):Prop where
 |mk (R:ag) (τ:Addr->Option bw) (ρ:aS) (d:D) (h1:SI X F R τ ρ σ H) (h2:aZ Φ c ρ=ok d) (h3:∀v H',aL H H'->cz X.K (gP X F) R τ (gJ c) H H' v d->Q v H')
inductive sW(X:Cx)(F:ag)(Φ:aV)(cs:aA)(σ:St)(H:Hp)(Q:ah->Hp->Prop):Prop where
 |mk (R:ag) (τ:Addr->Option bw) (ρ:aS) (ds:aa) (h1:SI X F R τ ρ σ H) (h2:bY Φ cs ρ=ok ds) (h3:∀vs H',aL H H'->de X.K (gP X F) R τ (eE cs) H H' vs ds->Q vs H')
inductive jW(X:Cx)(F:ag)(Φ:aV)(c:CE)(σ:St)(H:Hp)(Q:Bool->Hp->Prop):Prop where
 |mk (R:ag) (τ:Addr->Option bw) (ρ:aS) (b:Bool) (h1:SI X F R τ ρ σ H) (h2:wJ Φ c ρ=ok b) (h3:∀H',aL H H'->Q b H')
def PE.imp{e:Expr}{t t':TE}(h:PE X e t)(a:∀σ H Q,t' σ H Q->t σ H Q):PE X e t':=λpins s σ H Q I hw=>h pins s σ H Q I (a σ H Q hw)
def PT.imp{e:Expr}{t t':TT}(h:PT X e t)(a:∀σ H Q,t' σ H Q->t σ H Q):PT X e t':=λpins s σ H Q I hw=>h pins s σ H Q I (a σ H Q hw)
def PW.imp{e:Expr}{t t':TT}(h:PW X e t)(b:∀σ H Q,t' σ H Q->t σ H Q):PW X e t':=λa pins s σ H Q I hw=>h a pins s σ H Q I (b σ H Q hw)
def PA.imp{es:aj}{t t':TA}(h:PA X es t)(b:∀σ H Q,t' σ H Q->t σ H Q):PA X es t':=λa pins s σ H Q I hw=>h a pins s σ H Q I (b σ H Q hw)
variable {st:Stmt}
def PS.imp{t t':TS}(h:PS X st t)(a:∀D σ H,t' D σ H->t D σ H):PS X st t':=λpins s σ H D I hw=>h pins s σ H D I (a D σ H hw)
def gO.imp{st:aP}{t t':TS}(h:gO X st t)(a:∀D σ H,t' D σ H->t D σ H):gO X st t':=λpins s σ H D I hw=>h pins s σ H D I (a D σ H hw)
theorem qg:∀(as bs:aa),fL as bs=true ↔ as.length=bs.length/\∀(j:Nat) (a b:D),as[j]?=↥a->bs[j]?=↥b->lA a b=true
 |[],[]=>iff_of_true rfl ⟨rfl,λ_ _ _ h _=>nomatch h⟩
 |[],b::bs=>iff_of_false (λh=>iv (show false=true from h)) λh=>nomatch h.1
 |a::as,[]=>iff_of_false (λh=>iv (show false=true from h)) λh=>nomatch h.1
 |a::as,b::bs=>by
  show(lA a b&&fL as bs)=true ↔ _;rw[zah,qg as bs];constructor
  ·rintro ⟨i,g,e⟩;refine⟨by simp[g],λj x y d c=>?_⟩;cases j with
   |zero=>simp at d c;subst d c;exact i
   |succ j=>exact e j x y ⇑d ⇑c
  ·rintro ⟨g,e⟩;exact⟨e 0 a b rfl rfl,⇑g,λj x y d c=>e (j+1) x y ⇑d ⇑c⟩
def Wq(as bs:aa)(j:Nat):Bool:=match as[j]?,bs[j]? with
 |some a,↥b=>lA a b
 |_,_=>false
def kW(as bs:aa):((eg (min as.length bs.length)).all (Wq as bs)&&as.length==bs.length)=fL as bs:=by
 rw[zbR,qg,zah,zaL,beq_iff_eq];constructor
 ·rintro ⟨g,e⟩;refine⟨e,λj a b c d=>?_⟩;have i:j<as.length:=by
   by_cases h:j<as.length
   ·exact h
   ·rw[dV ⋯]at c;cases c
  have:=g j (by rw[zbW];left);unfold Wq at this;rw[c,d]at this;exact this
 ·rintro ⟨e,g⟩;refine⟨λj i=>?_,e⟩;rw[zbW]at i;unfold Wq;have c:as[j]?=↥as[j]:=aaE ⋯;have d:bs[j]?=↥bs[j]:=aaE ⋯;exact[c,d]\g j _ _ c d
variable {d' d0 d1:D}{v':V}
section
variable {X:Cx}{pins:au}{σ:St}{H:Hp}{s:ap}{N N':lB}
def lS{n:Nat}(h:cq n (.tup ds)=true):∃m,n=m+1/\∀d∈ds,cq m d=true:=by
 cases n with
 |zero=>cases h
 |succ m=>exact⟨m,rfl,fu.mp h⟩
def lT{n:Nat}(h:cq n (.lst f ds)=true):∃m,n=m+1/\∀d∈ds,cq m d=true:=by
 cases n with
 |zero=>cases h
 |succ m=>exact⟨m,rfl,fu.mp h⟩
def z8(I:Inv X pins σ H s){p:Addr}(h:eG X.K H p xs)(h':aY X.K H p ys):False:=by
 ext(⟨c,_,b,_⟩:I.list h)(⟨a,_,pt,_⟩:I.tuple h');exact SeqAt.ne_of_list_tuple b.isList pt rfl
def DT(I:Inv X pins σ H s)(z:∀q p xs f,N q p (.l xs) f->eG X.K H p xs)(C:∀q p xs f,N' q p (.l xs) f->eG X.K H p xs):
  ∀(n:Nat) {k k':bw} {v:V} {d d':D},Rep (aY X.K H) N k v d->Rep (aY X.K H) N' k' v d'->cq n d=true->cq n d'=true->lA d d'=true:=by
 intro n;induction n with
 |zero =>
  intro k k' v d d' h c e g;cases h with
  |b0=>cases c;rfl
  |bl b=>cases c;exact acn b
  |int i=>cases c;exact acn i
  |str t=>cases c;exact acn t
  |tup _ _=>ext(⟨m,w,_⟩:lS e);left
  |lst _ _=>ext(⟨m,w,_⟩:lT e);left
  |cF _ _=>cases e
 |succ n J =>
  have u:∀{q q':bw} {xs:ah} {ds ds':aa},aH (aY X.K H) N q 0 xs ds->aH (aY X.K H) N' q' 0 xs ds'->(∀d∈ds,cq n d=true)->(∀d∈ds',cq n d=true)->fL ds ds'=true:=by
   intro q q' xs ds ds' r o e g;rw[qg];refine⟨by rw[<- r.length,<- o.length],λj a b y x=>?_⟩;ext(⟨O,L,r1⟩:r.get y)(⟨M,B,E⟩:o.get x);rw[L]at B;cases B;exact J r1 E (e a (aa3 y)) (g b (aa3 x))
  intro k k' v d d' h c e g;cases h with
  |b0=>cases c;rfl
  |bl b=>cases c;exact acn b
  |int i=>cases c;exact acn i
  |str t=>cases c;exact acn t
  |tup h r =>
   ext(⟨m,w,e⟩:lS e);obtain rfl:n=m:=by left
   cases c with
   |tup c o =>
    ext(⟨m,w,g⟩:lS g);obtain rfl:n=m:=by left
    ext(rfl:I.rF h c);exact u r o e g
   |lst c o=>exact(z8 I (C _ _ _ _ c) h).elim
   |cF _ _=>cases g
  |lst h r =>
   ext(⟨m,w,e⟩:lT e);obtain rfl:n=m:=by left
   cases c with
   |tup c o=>exact(z8 I (z _ _ _ _ h) c).elim
   |lst c o =>
    ext(⟨m,w,g⟩:lT g);obtain rfl:n=m:=by left
    ext(rfl:I.lU (z _ _ _ _ h) (C _ _ _ _ c));exact u r o e g
   |cF _ _=>cases g
  |cF _ _=>cases e
structure Alike(A:aF)(s:ap)(u u':Value)(b:Bool):Prop where
 eq:Re A s u u' b
 rc:D6 A s u u' b
 ne:Kr A s u u' (!b)
def vX{d:D}(h:cq 0 d=true):f9 d=true:=by
 cases d<;>first|rfl|cases h
def Ht{A:aF}{k:bw}{v:V}{u g:Value}{d:D}(h:Rep T N k v d)(h':Rep T' N' k' v' d')(f:f9 d=true)(e:f9 d'=true)(r:RelV v u)(c:RelV v' g):Alike A s u g (lA d d'):=by
 cases h with
 |b0 =>
  cases r;cases h' with
  |b0=>cases c;exact⟨wh _,SeqAt.RcAt.none_none,ybb⟩
  |bl b=>cases c;exact⟨SeqAt.EqAt.none_bool b,SeqAt.RcAt.none_bool b,ybe b⟩
  |int b=>ext(⟨t,rfl⟩:c);exact⟨SeqAt.EqAt.none_int b t,SeqAt.RcAt.none_int b t,ybd b t⟩
  |str b=>ext(⟨t,rfl⟩:c);exact⟨SeqAt.EqAt.none_str b t,SeqAt.RcAt.none_str b t,yba b t⟩
  |_=>cases e
 |bl a =>
  cases r;cases h' with
  |b0=>cases c;exact⟨SeqAt.EqAt.bool_none a,SeqAt.RcAt.bool_none a,ybu a⟩
  |bl b=>cases c;exact⟨SeqAt.EqAt.bool_bool a b,SeqAt.RcAt.bool_bool a b,ybx a b⟩
  |int b=>ext(⟨t,rfl⟩:c);exact⟨SeqAt.EqAt.bool_int a b t,SeqAt.RcAt.bool_int a b t,ybw a b t⟩
  |str b=>ext(⟨t,rfl⟩:c);exact⟨SeqAt.EqAt.bool_str a b t,SeqAt.RcAt.bool_str a b t,ybt a b t⟩
  |_=>cases e
 |int a =>
  ext(⟨t',rfl⟩:r);cases h' with
  |b0=>cases c;exact⟨SeqAt.EqAt.int_none a t',SeqAt.RcAt.int_none a t',ybo a t'⟩
  |bl b=>cases c;exact⟨SeqAt.EqAt.int_bool a t' b,SeqAt.RcAt.int_bool a t' b,ybr a t' b⟩
  |int b=>ext(⟨t,rfl⟩:c);exact⟨F7 a t' b t,SeqAt.RcAt.int_int a t' b t,ybq a t' b t⟩
  |str b=>ext(⟨t,rfl⟩:c);exact⟨SeqAt.EqAt.int_str a t' b t,SeqAt.RcAt.int_str a t' b t,ybn a t' b t⟩
  |_=>cases e
 |str a =>
  ext(⟨t',rfl⟩:r);cases h' with
  |b0=>cases c;exact⟨SeqAt.EqAt.str_none a t',SeqAt.RcAt.str_none a t',ya6 a t'⟩
  |bl b=>cases c;exact⟨SeqAt.EqAt.str_bool a t' b,SeqAt.RcAt.str_bool a t' b,ya9 a t' b⟩
  |int b=>ext(⟨t,rfl⟩:c);exact⟨SeqAt.EqAt.str_int a t' b t,SeqAt.RcAt.str_int a t' b t,ya8 a t' b t⟩
  |str b=>ext(⟨t,rfl⟩:c);exact⟨SeqAt.EqAt.str_str a t' b t,SeqAt.RcAt.str_str a t' b t,ya5 a t' b t⟩
  |_=>cases e
 |_=>cases f
def alike(I:Inv X pins σ H s)(hN:∀q p xs f,N q p (.l xs) f->eG X.K H p xs)(U:∀q p xs f,N' q p (.l xs) f->eG X.K H p xs):
    ∀(n:Nat) (A:aF) {k k':bw} {v v':V} {u Y:Value} {d d':D},Rep (aY X.K H) N k v d->Rep (aY X.K H) N' k' v' d'->cq n d=true->cq n d'=true->RelV v u->RelV v' Y->A.units+n<cLine ->
      Alike A s u Y (lA d d'):=by
  intro n;induction n with
  |zero=>exact λA k k' v v' u Y d d' h g L B r i hu=>Ht h g (vX L) (vX B) r i
  |succ n ih =>
    intro A k k' v v' u Y d d' h g L B r i hu;have c:A.units<cLine:=by left
    have hu1:A.in1.units+n<cLine:=by show A.units+1+n<cLine;left
    have P:∀{q q':bw} {xs xs':ah} {ds ds':aa} {o its':aw},aH (aY X.K H) N q 0 xs ds->aH (aY X.K H) N' q' 0 xs' ds'->(∀d∈ds,cq n d=true)->(∀d∈ds',cq n d=true)->Vals xs o->Vals xs' its' ->
        ∀(j:Nat) (h1:j<o.toArray.size) (h2:j<its'.toArray.size),Re A.in1 s o.toArray[j] its'.toArray[j] (Wq ds ds' j):=by
      intro q q' xs xs' ds ds' o its' y x hd W C J j h1 h2;have E:ds.length=o.length:=by rw[<- y.length,C.length]
      have M:ds'.length=its'.length:=by rw[<- x.length,J.length]
      simp only[zad]at h1 h2;have ea:ds[j]?=↥ds[j]:=aaE ⋯;have eb:ds'[j]?=↥ds'[j]:=aaE ⋯;ext(⟨w1,g1,p1⟩:y.get ea)(⟨w2,g2,p2⟩:x.get eb)(⟨u1,k1,z1⟩:C.get g1)(⟨u2,k2,z2⟩:J.get g2);have:=(ih A.in1 p1 p2 (hd _ (aa5 _)) (W _ (aa5 _)) z1 z2 hu1).eq;unfold Wq;rw[ea,eb];rw[cb h1]at k1;rw[cb h2]at k2;cases k1;cases k2;simpa using this
    cases hd:f9 d with
    |true =>
      cases W:f9 d' with
      |true=>exact Ht h g hd W r i
      |false =>
        cases g with
        |tup g rr =>
          cases i;ext(⟨o,_,pt,_⟩:I.tuple g);cases h with
          |b0=>cases r;exact⟨SeqAt.EqAt.none_tuple pt c,SeqAt.RcAt.none_tuple pt c,ya_ pt c⟩
          |bl a=>cases r;exact⟨SeqAt.EqAt.bool_tuple a pt c,SeqAt.RcAt.bool_tuple a pt c,ybs a pt c⟩
          |int a=>ext(⟨t',rfl⟩:r);exact⟨SeqAt.EqAt.int_tuple a t' pt c,SeqAt.RcAt.int_tuple a t' pt c,ybm a t' pt c⟩
          |str a=>ext(⟨t',rfl⟩:r);exact⟨SeqAt.EqAt.str_tuple a t' pt c,SeqAt.RcAt.str_tuple a t' pt c,ya4 a t' pt c⟩
          |_=>cases hd
        |lst g rr =>
          cases i;ext(⟨o,_,pt,_⟩:I.list (U _ _ _ _ g));have pt:=pt.isList;cases h with
          |b0=>cases r;exact⟨SeqAt.EqAt.none_list pt c,SeqAt.RcAt.none_list pt c,ybc pt c⟩
          |bl a=>cases r;exact⟨SeqAt.EqAt.bool_list a pt c,SeqAt.RcAt.bool_list a pt c,ybv a pt c⟩
          |int a=>ext(⟨t',rfl⟩:r);exact⟨SeqAt.EqAt.int_list a t' pt c,SeqAt.RcAt.int_list a t' pt c,ybp a t' pt c⟩
          |str a=>ext(⟨t',rfl⟩:r);exact⟨SeqAt.EqAt.str_list a t' pt c,SeqAt.RcAt.str_list a t' pt c,ya7 a t' pt c⟩
          |_=>cases hd
        |_=>first | (cases W;done) | (cases B;done)
    |false =>
     cases h with
     | @tup _ p xs ds h y =>
      cases r;ext(⟨o,C,pt,_⟩:I.tuple h);have pt:s.heap.IsTuple p o.toArray:=pt;cases g with
      |cF _ _=>cases B
      |b0=>cases i;exact⟨SeqAt.EqAt.tuple_none pt c,SeqAt.RcAt.tuple_none pt c,ya0 pt c⟩
      |bl b=>cases i;exact⟨SeqAt.EqAt.tuple_bool b pt c,SeqAt.RcAt.tuple_bool b pt c,ya3 b pt c⟩
      |int b=>ext(⟨t,rfl⟩:i);exact⟨SeqAt.EqAt.tuple_int b t pt c,SeqAt.RcAt.tuple_int b t pt c,ya2 b t pt c⟩
      |str b=>ext(⟨t,rfl⟩:i);exact⟨SeqAt.EqAt.tuple_str b t pt c,SeqAt.RcAt.tuple_str b t pt c,yaZ b t pt c⟩
      |lst g rr=>cases i;ext(⟨its',_,e,_⟩:I.list (U _ _ _ _ g));exact⟨SeqAt.EqAt.tuple_list pt e.isList c,SeqAt.RcAt.tuple_list pt e.isList c,ya1 pt e.isList c⟩
      | @tup _ z xs' ds' g x =>
        cases i;ext(⟨m,hm,MG⟩:lS L);obtain rfl:n=m:=by left
        ext(⟨m,hm,ud⟩:lS B);obtain rfl:n=m:=by left
        ext(⟨its',J,Z,_⟩:I.tuple g);have Z:s.heap.IsTuple z its'.toArray:=Z;ext(w:P y x MG ud C J);have E:ds.length=o.toArray.size:=by rw[zad,<- y.length,C.length]
        have M:ds'.length=its'.toArray.size:=by rw[zad,<- x.length,J.length]
        have rc:D6 A s (.ref p) (.ref z) (lA (.tup ds) (.tup ds')):=by
          have:=SeqAt.RcAt.tuples pt Z c w;rw[<- E,<- M,kW]at this;exact this
        refine⟨?_,rc,?_⟩
        · by_cases R:p=z
          · subst R
            exact[DT I hN U (n+1) (Rep.tup h y) (Rep.tup g x) L B]\wh _
          · exact F6 R rc
        · have:=yaY pt Z c w
          rw[<- E,<- M,kW]at this;exact this
     | @lst _ p xs f ds h y =>
      cases r;ext(⟨o,C,e,_⟩:I.list (hN _ _ _ _ h));have e:=e.isList;cases g with
      |cF _ _=>cases B
      |b0=>cases i;exact⟨SeqAt.EqAt.list_none e c,SeqAt.RcAt.list_none e c,ybj e c⟩
      |bl b=>cases i;exact⟨SeqAt.EqAt.list_bool b e c,SeqAt.RcAt.list_bool b e c,ybl b e c⟩
      |int b=>ext(⟨t,rfl⟩:i);exact⟨SeqAt.EqAt.list_int b t e c,SeqAt.RcAt.list_int b t e c,ybk b t e c⟩
      |str b=>ext(⟨t,rfl⟩:i);exact⟨SeqAt.EqAt.list_str b t e c,SeqAt.RcAt.list_str b t e c,ybi b t e c⟩
      |tup g rr=>cases i;ext(⟨its',_,pt,_⟩:I.tuple g);exact⟨SeqAt.EqAt.list_tuple e pt c,SeqAt.RcAt.list_tuple e pt c,ybh e pt c⟩
      | @lst _ z xs' f' ds' g x =>
        cases i;ext(⟨m,hm,MG⟩:lT L);obtain rfl:n=m:=by left
        ext(⟨m,hm,ud⟩:lT B);obtain rfl:n=m:=by left
        ext(⟨its',J,O,_⟩:I.list (U _ _ _ _ g));have O:=O.isList;ext(w:P y x MG ud C J);have E:ds.length=o.toArray.size:=by rw[zad,<- y.length,C.length]
        have M:ds'.length=its'.toArray.size:=by rw[zad,<- x.length,J.length]
        have two:D6 A s (.ref p) (.ref z) (lA (.lst f ds) (.lst f' ds'))/\Kr A s (.ref p) (.ref z) (!lA (.lst f ds) (.lst f' ds')):=by
          show D6 A s (.ref p) (.ref z) (fL ds ds')/\Kr A s (.ref p) (.ref z) (!fL ds ds');rw[<- kW];by_cases S:ds.length=ds'.length
          · have e1:(ds.length==ds'.length)=true:=by simp[S]
            rw[e1,yat,<- S,zbI];have Q:o.toArray.size=its'.toArray.size:=by rw[<- E,<- M,S]
            refine⟨?_,?_⟩
            · have:=SeqAt.RcAt.lists e O Q c w
              rw[<- E]at this;exact this
            · have:=ybg e O Q c w
              rw[<- E]at this;exact this
          · have e1:(ds.length==ds'.length)=false:=by simp[S]
            rw[e1,zat];have Q:(o.toArray.size != its'.toArray.size)=true:=by rw[<- E,<- M];simp[S]
            exact⟨SeqAt.RcAt.lists_lengths e O Q c,ybf e O Q c⟩
        refine⟨?_,two.1,two.2⟩;by_cases R:p=z
        · subst R
          exact[DT I hN U (n+1) (Rep.lst h y) (Rep.lst g x) L B]\wh _
        · exact F6 R two.1
     |_=>first | (cases hd;done) | (cases L;done)
end
structure Px where
 pe:Nat->Scope->ao->Expr->Option (aj)
 pi:Nat->Scope->ao->Expr->Option (aj)
 pm:Nat->Scope->ao->Stmt->Option (Expr×aj)
 p2:Nat->Scope->ao->Stmt->Option (Expr×aj):=λ_ _ _ _=>none
structure Sx where
 sc:Scope
 N:ao
 fn:Nat->Option Str
 bl:ao
 cs:List (Str×GK)
 px:Px
meta def RS:Bb->nl
 |.add=>.Add|.sub=>.Sub|.mul=>.Mult|.fdiv=>.FloorDiv|.mod=>.Mod|.pow=>.Pow|.shl=>.LShift
meta def ZO:C_->CmpOp
 |.eq=>.Eq|.ne=>.NotEq|.lt=>.Lt|.le=>.LtE|.gt=>.Gt|.ge=>.GtE
meta def tyName:Ty->String
 |.int=>"int" |.bool=>"bool" |.str=>"str" |.list=>"list" |.tuple=>"tuple"
meta def uM:Bf->String
 |.len=>"len" |.abs=>"abs" |.min2=>"min" |.max2=>"max" |.list1=>"list" |.tuple1=>"tuple" |.ju=>"sum" |.all1=>"all" |.iL=>"sorted"
meta def Nn(sc:Scope)(x:Str):Bool:=decide (sc.names.lookup x=↥.local)||decide (sc.names.lookup x=↥.cell)||decide (sc.names.lookup x=↥.free)
meta def gq(sc:Scope)(x:Str):Bool:=decide (sc.names.lookup x=↥.globalImplicit)
meta def nY(x:Str):Bool:=!(x==⇑9)&&!(x==("__classdict__" : Str))&&decide (x≠("__name__" : Str))
meta def rR:Expr->Bool
 |.Set _ _ _=>false
 |_=>true
meta def vN(sc outer:Scope):Scope :=
 { sc with names:=sc.names.map λ(n,k)=>if (k==.free&&outer.kind==.function&&outer.names.lookup n==↥.cell)then(n,.cell)else(n,k) }
meta def cD:Expr->ao
 |.Name x _=>[x]
 |.Tuple a _ _=>a.filterMap λe=>match e with|.Name x _=>↥x|_=>none
 |_=>[]
meta def gV(S:Sx)(caps:aR):ao:=caps.filterMap λi=>S.N[i]?
def Sx.inner(S:Sx)(target:Expr)(caps:aR)(sc:Scope):Sx:=⟨vN sc S.sc,cD target++gV S caps,S.fn,S.bl,S.cs,S.px⟩
meta def jC:Expr->Bool
 |.Tuple _ _ _=>true
 |_=>false
meta def isNm(e:Expr):Bool:=decide (e.ctorIdx=23)
def oD{e:Expr}(h:isNm e=true):∃x p,e=.Name x p:=kq (motive_1:=λe=>∃x p,e=.Name x p) e (aag h) λx p=>⟨x,p,rfl⟩
meta def prE:Expr->Bool
 |.Call ..=>true
 |.BinOp ..=>true
 |.Subscript ..=>true
 |.Compare ..=>true
 |.Dict ..=>true
 |_=>false
meta def Xz:Expr->Bool
 |.Call ..=>true
 |.Name ..=>true
 |_=>false
def aC{a b:Bool}(h:(a&&b)=true):a=true/\b=true:=by
 cases a<;>cases b<;>first|exact⟨rfl,rfl⟩|cases h
meta def bz{b:Type}(o:Option b)(f:b->Bool):Bool:=match o with
 |some a=>f a
 |none=>false
def bu{b:Type}{o:Option b}{f:b->Bool}(h:bz o f=true):∃a,o=↥a/\f a=true:=by
 cases o with
 |some a=>exact⟨a,rfl,h⟩
 |none=>cases h
def dI{a:Type}{c:Prop}[Decidable c]{f:c->Option a}{x:a}(h:(if h:c then f h else none)=↥x):∃k:c,f k=↥x:=by
 by_cases k:c
 ·rw[dif_pos k]at h;exact⟨k,h⟩
 ·rw[dif_neg k]at h;cases h
def bT{d c:Type}{o:Option d}{f:d->Option c}{b:c}(h:o.bind f=↥b):∃a,o=↥a/\f a=↥b:=i8.mp h
def gT{a:Type}{c:Prop}[Decidable c]{o:Option a}{b:a}(h:(if c then o else none)=↥b):c/\o=↥b:=by
 by_cases k:c
 ·rw[zac k]at h;exact⟨k,h⟩
 ·rw[zab k]at h;cases h
meta def vC(e:Expr):Option Const:=if h:e.ctorIdx=19 then qY (motive_1:=λ_=>Option Const) e h (λc _ _=>↥c)else none
def vm{e:Expr}{c:Const}(h:vC e=↥c):∃j p,e=.Constant c j p:=by
 ext(⟨k,h⟩:dI h);exact qY (motive_1:=λe=>∀k:e.ctorIdx=19,qY (motive_1:=λ_=>Option Const) e k (λc _ _=>↥c)=↥c->∃j p,e=.Constant c j p) e k (λ_ _ _ _ h=>by cases h;exact⟨_,_,rfl⟩) k h
meta def FH:Const->Bool
 |.none=>true
 |_=>false
def BY{c:Const}(h:FH c=true):c=.none:=by cases c<;>first|rfl|cases h
meta def MA(b:Bool):Const->Bool
 |.bool c=>decide (b=c)
 |_=>false
def FJ{b:Bool}{c:Const}(h:MA b c=true):c=.bool b:=by cases c<;>first | (cases h;done)|rw[of_decide_eq_true h]
meta def FI(b:Int):Const->Bool
 |.int c=>decide (b=c)
 |_=>false
def BZ{b:Int}{c:Const}(h:FI b c=true):c=.int b:=by cases c<;>first | (cases h;done)|rw[of_decide_eq_true h]
meta def FG(b:Str):Const->Bool
 |.str c=>decide (b=c)
 |_=>false
def BX{b:Str}{c:Const}(h:FG b c=true):c=.str b:=by cases c<;>first | (cases h;done)|rw[of_decide_eq_true h]
meta def HJ(e:Expr):Option Str:=if h:e.ctorIdx=23 then kq (motive_1:=λ_=>Option Str) e h (λx _=>↥x)else none
def gQ{e:Expr}{x:Str}(h:HJ e=↥x):∃p,e=.Name x p:=by
 ext(⟨k,h⟩:dI h);exact kq (motive_1:=λe=>∀k:e.ctorIdx=23,kq (motive_1:=λ_=>Option Str) e k (λx _=>↥x)=↥x->∃p,e=.Name x p) e k (λ_ _ _ h=>by cases h;exact⟨_,rfl⟩) k h
meta def SR(e:Expr):Option (Expr×nl×Expr):=if h:e.ctorIdx=2 then wn (motive_1:=λ_=>Option (Expr×nl×Expr)) e h (λl o r _=>↥(l,o,r))else none
def Iv{e l r:Expr}{o:nl}(h:SR e=↥(l,o,r)):∃p,e=.BinOp l o r p:=by
 ext(⟨k,h⟩:dI h);exact wn (motive_1:=λe=>∀k:e.ctorIdx=2,wn (motive_1:=λ_=>Option (Expr×nl×Expr)) e k (λl o r _=>↥(l,o,r))=↥(l,o,r)->∃p,e=.BinOp l o r p) e k (λ_ _ _ _ _ h=>by cases h;exact⟨_,rfl⟩) k h
meta def YL(e:Expr):Option (Zg×Expr):=if h:e.ctorIdx=3 then r4 (motive_1:=λ_=>Option (Zg×Expr)) e h (λo e _=>↥(o,e))else none
def Dn{e x:Expr}{o:Zg}(h:YL e=↥(o,x)):∃p,e=.UnaryOp o x p:=by
 ext(⟨k,h⟩:dI h);exact r4 (motive_1:=λe=>∀k:e.ctorIdx=3,r4 (motive_1:=λ_=>Option (Zg×Expr)) e k (λo e _=>↥(o,e))=↥(o,x)->∃p,e=.UnaryOp o x p) e k (λ_ _ _ _ h=>by cases h;exact⟨_,rfl⟩) k h
meta def vBool(e:Expr):Option (BoolOp×aj):=if h:e.ctorIdx=0 then ut (motive_1:=λ_=>Option (BoolOp×aj)) e h (λo vs _=>↥(o,vs))else none
def vn{e:Expr}{o:BoolOp}{vs:aj}(h:vBool e=↥(o,vs)):∃p,e=.BoolOp o vs p:=by
 ext(⟨k,h⟩:dI h);exact ut (motive_1:=λe=>∀k:e.ctorIdx=0,ut (motive_1:=λ_=>Option (BoolOp×aj)) e k (λo vs _=>↥(o,vs))=↥(o,vs)->∃p,e=.BoolOp o vs p) e k (λ_ _ _ _ h=>by cases h;exact⟨_,rfl⟩) k h
meta def one{a:Type}:List a->Option a
 |[]=>none
 |x::xs=>match xs with
  |[]=>↥x
  |_::_=>none
def b8{a:Type}{l:List a}{x:a}(h:one l=↥x):l=[x]:=by
 cases l with
 |nil=>cases h
 |cons y ys=>cases ys with
  |nil=>cases h;rfl
  |cons _ _=>cases h
def two{a:Type}:List a->Option (a×a)
 |[]=>none
 |x::xs=>(one xs).map λy=>(x,y)
def fq{a:Type}{l:List a}{x y:a}(h:two l=↥(x,y)):l=[x,y]:=by
 cases l with
 |nil=>cases h
 |cons z b=>cases b with
  |nil=>cases h
  |cons w c=>cases c with
   |nil=>cases h;rfl
   |cons _ _=>cases h
meta def YN{a:Type}:List a->Option (a×List a)
 |[]=>none
 |x::xs=>↥(x,xs)
def xM{a:Type}{l xs:List a}{x:a}(h:YN l=↥(x,xs)):l=x::xs:=by
 cases l with
 |nil=>cases h
 |cons y ys=>cases h;rfl
meta def Nw(e:Expr):Option (Expr×List CmpOp×aj):=if h:e.ctorIdx=15 then r6 (motive_1:=λ_=>Option (Expr×List CmpOp×aj)) e h (λl b a _=>↥(l,b,a))else none
def zj{e l:Expr}{a:List CmpOp}{rs:aj}(h:Nw e=↥(l,a,rs)):∃p,e=.Compare l a rs p:=by
 ext(⟨k,h⟩:dI h);exact r6 (motive_1:=λe=>∀k:e.ctorIdx=15,r6 (motive_1:=λ_=>Option (Expr×List CmpOp×aj)) e k (λl a rs _=>↥(l,a,rs))=↥(l,a,rs)->∃p,e=.Compare l a rs p) e k (λ_ _ _ _ _ h=>by cases h;exact⟨_,rfl⟩) k h
meta def Dv(e:Expr):Option (Expr×aj×List vv):=if h:e.ctorIdx=16 then mn (motive_1:=λ_=>Option (Expr×aj×List vv)) e h (λf as a _=>↥(f,as,a))else none
def Bk{e f:Expr}{as:aj}{a:List vv}(h:Dv e=↥(f,as,a)):∃p,e=.Call f as a p:=by
 ext(⟨k,h⟩:dI h);exact mn (motive_1:=λe=>∀k:e.ctorIdx=16,mn (motive_1:=λ_=>Option (Expr×aj×List vv)) e k (λf as a _=>↥(f,as,a))=↥(f,as,a)->∃p,e=.Call f as a p) e k (λ_ _ _ _ _ h=>by cases h;exact⟨_,rfl⟩) k h
def fc(e:Expr):Option (Str×aj):=(Dv e).bind λz=>if z.2.2.isEmpty=true then(HJ z.1).bind λx=>↥(x,z.2.1) else none
def JK{a:Type}{l:List a}(h:l.isEmpty=true):l=[]:=List.isEmpty_iff.mp h
def cn{e:Expr}{x:Str}{as:aj}(h:fc e=↥(x,as)):∃p a,e=.Call (.Name x p) as [] a:=by
 ext(⟨⟨f,i,g⟩,b,h⟩:bT h)(⟨d,h⟩:gT h)(⟨y,c,h⟩:bT h);cases h;ext(⟨a,rfl⟩:Bk b)(⟨p,rfl⟩:gQ c)(rfl:JK d);exact⟨p,a,rfl⟩
meta def xK(e:Expr):Option (Expr×Expr):=if h:e.ctorIdx=21 then oC (motive_1:=λ_=>Option (Expr×Expr)) e h (λa b _=>↥(a,b))else none
def lI{e a b:Expr}(h:xK e=↥(a,b)):∃p,e=.Subscript a b p:=by
 ext(⟨k,h⟩:dI h);exact oC (motive_1:=λe=>∀k:e.ctorIdx=21,oC (motive_1:=λ_=>Option (Expr×Expr)) e k (λa b _=>↥(a,b))=↥(a,b)->∃p,e=.Subscript a b p) e k (λ_ _ _ _ h=>by cases h;exact⟨_,rfl⟩) k h
meta def Bj(e:Expr):Option (aj):=if h:e.ctorIdx=25 then wl (motive_1:=λ_=>Option (aj)) e h (λa _ _=>↥a)else none
def jU{e:Expr}{es:aj}(h:Bj e=↥es):∃n p,e=.Tuple es n p:=by
 ext(⟨k,h⟩:dI h);exact wl (motive_1:=λe=>∀k:e.ctorIdx=25,wl (motive_1:=λ_=>Option (aj)) e k (λes _ _=>↥es)=↥es->∃n p,e=.Tuple es n p) e k (λ_ _ _ _ h=>by cases h;exact⟨_,_,rfl⟩) k h
meta def Nt(e:Expr):Option (aj):=if h:e.ctorIdx=24 then xA (motive_1:=λ_=>Option (aj)) e h (λa _=>↥a)else none
def zh{e:Expr}{es:aj}(h:Nt e=↥es):∃p,e=.List es p:=by
 ext(⟨k,h⟩:dI h);exact xA (motive_1:=λe=>∀k:e.ctorIdx=24,xA (motive_1:=λ_=>Option (aj)) e k (λes _=>↥es)=↥es->∃p,e=.List es p) e k (λ_ _ _ h=>by cases h;exact⟨_,rfl⟩) k h
meta def LM(e:Expr):Option (Expr×List n7×Scope):=if h:e.ctorIdx=8 then m3 (motive_1:=λ_=>Option (Expr×List n7×Scope)) e h (λe b a _=>↥(e,b,a))else none
def Du{e x:Expr}{gs:List n7}{sc:Scope}(h:LM e=↥(x,gs,sc)):∃p,e=.ListComp x gs sc p:=by
 ext(⟨k,h⟩:dI h);exact m3 (motive_1:=λe=>∀k:e.ctorIdx=8,m3 (motive_1:=λ_=>Option (Expr×List n7×Scope)) e k (λe gs sc _=>↥(e,gs,sc))=↥(x,gs,sc)->∃p,e=.ListComp x gs sc p) e k (λ_ _ _ _ _ h=>by cases h;exact⟨_,rfl⟩) k h
def dZ{a:Bool}(h:(!a)=true):a=false:=by cases a<;>first|rfl|cases h
def uE(S:Sx)(n:Nat)(t:Tg)(caps:aR)(target:Expr)(sc:Scope):Bool :=
 decide (sc.kind=.function)&&sc.names.all (λ(x,k)=>decide (k≠.cell)&&(decide (k≠.local)||decide (sc.names.lookup x=↥.local))&&(decide (k≠.free)||decide (S.sc.names.lookup x=↥.cell)||decide (S.sc.names.lookup x=↥.free))) &&
 decide (n=(cD target).length)&&(cD target).all (λx=>decide (sc.names.lookup x=↥.local))&&decide (cD target++gV S caps).Nodup &&
 caps.all (λi=>match S.N[i]? with|↥x=>decide (sc.names.lookup x=↥.free)|none=>false) &&
 (match t with
  |.nm i=>decide (i=0)&&isNm target
  |.tp is=>bz (Bj target) λa=>decide (is=eg a.length)&&a.all isNm)
mutual
meta def cg(S:Sx):CE->Expr->Bool
 |.cM p es,e0=>prE e0&&bz (S.px.pe p S.sc S.bl e0) λxs=>bV S es xs
 |.b0,e0=>bz (vC e0) λc=>FH c
 |.bl b,e0=>bz (vC e0) λc=>MA b c
 |.int i,e0=>bz (vC e0) λc=>FI i c
 |.str s,e0=>bz (vC e0) λc=>FG s c
 |.v i,e0=>bz (HJ e0) λx=>decide (S.N[i]?=↥x)&&Nn S.sc x&&nY x
 |.glo x i,e0=>bz (HJ e0) λy=>decide (y=x)&&gq S.sc x&&decide ((x,GK.i i)∈S.cs)&&!(x==⇑9)
 |.bin op a b,e0=>bz (SR e0) λz=>decide (z.2.1=RS op)&&cg S a z.1&&cg S b z.2.2
 |.neg a,e0=>bz (YL e0) λz=>decide (z.1=.USub)&&cg S a z.2
 |.not a,e0=>bz (YL e0) λz=>decide (z.1=.Not)&&cg S a z.2
 |.and es,e0=>bz (vBool e0) λz=>decide (z.1=.And)&&bV S es z.2
 |.or es,e0=>bz (vBool e0) λz=>decide (z.1=.Or)&&bV S es z.2
 |.cmp op a b,e0=>bz (Nw e0) λz=>decide (z.2.1=[ZO op])&&cg S a z.1&&bz (one z.2.2) λr=>cg S b r&&rR r
 |.qV a t,e0=>bz (fc e0) λz=>decide (z.1=("isinstance" : Str))&&gq S.sc z.1&&decide (z.1∈S.bl)&&bz (two z.2) λy=>cg S a y.1&&bz (HJ y.2) λx=>decide (x=(tyName t:Str))&&gq S.sc x&&decide (x∈S.bl)
 |.call f es,e0=>bz (fc e0) λz=>decide (S.fn f=↥z.1)&&gq S.sc z.1&&nY z.1&&bz (YN z.2) λy=>bV S es (y.1::y.2)
 |.bf f es,e0=>bz (fc e0) λz=>decide (z.1=(uM f:Str))&&gq S.sc z.1&&decide (z.1∈S.bl)&&bz (YN z.2) λy=>bV S es (y.1::y.2)
 |.mW a,e0=>bz (fc e0) λz=>decide (z.1=("len" : Str))&&gq S.sc z.1&&decide (z.1∈S.bl)&&bz (one z.2) λy=>bz (fc y) λw=>decide (w.1=("set" : Str))&&gq S.sc w.1&&decide (w.1∈S.bl)&&bz (one w.2) λu=>cg S a u
 |.ix a b,e0=>bz (xK e0) λz=>cg S a z.1&&cg S b z.2
 |.tup es,e0=>bz (Bj e0) λxs=>bV S es xs&&decide (es.length<=1000)
 |.lst es,e0=>bz (Nt e0) λxs=>bV S es xs&&decide (es.length<=1000)
 |.comp n t caps ik es bU elt,e0=>bz (LM e0) λz=>bz (one z.2.1) λg=>decide (g.is_async=0)&&uE S n t caps g.target z.2.2&&rR g.iter&&decide (bU.length<=1)&&bV (S.inner g.target caps z.2.2) bU g.ifs&&cg (S.inner g.target caps z.2.2) elt z.1 &&
     (match ik with
      |.nC=>bz (fc g.iter) λw=>decide (w.1=("range" : Str))&&gq S.sc w.1&&decide (w.1∈S.bl)&&bz (one w.2) λy=>bV S es [y]
      |.mM=>bz (fc g.iter) λw=>decide (w.1=("range" : Str))&&gq S.sc w.1&&decide (w.1∈S.bl)&&bz (two w.2) λy=>bV S es [y.1,y.2]
      |.seq=>bV S es [g.iter]
      |.cM p=>Xz g.iter&&(decide (1100<=p)||jC g.target)&&bz (S.px.pi p S.sc S.bl g.iter) λxs=>bV S es xs)
meta def bV(S:Sx):aA->aj->Bool
 |[],es=>match es with
  |[]=>true
  |_::_=>false
 |c::cs,es=>match es with
  |[]=>false
  |e::es=>cg S c e&&bV S cs es
end
def HK(K:av)(n:Nat)(m:aE):Sp:=λvs H Q _=>∃(F:ag) (ds:aa) (r:D),vs.length=n/\aH (aY K H) (nd K F ⇑7 ⇑8 H) [] 0 vs ds/\m ds=ok r /\
 ∀v H',aL H H'->(∃τt:Addr->Option bw,(∀p q,τt p=↥q->H p=none)/\Rep (aY K H') (nd K (λp=>F p\/H p=none) ⇑7 τt H') [] v r)->Q v H'
structure RE(X:Cx)(k:Nat)(x:Str)(m:aE):Prop where
 ex:∃(f:Addr) (fd:hD) (ps:ao),fP X.prog X.w X.K X.mg X.base u_ k f fd ps (HK X.K ps.length m)/\X.mg x=↥(.ref f)/\hP X.K (.ref f)=true/\Binds X.K fd ps []/\∀ds r,m ds=ok r->ds.length=ps.length
meta def kinds:List String:=["NoneType","bool","int","str","list","tuple","dict"]
def UT:Ty->String->Bool
 |.int,s=>s == "int" ||s == "bool"
 |t,s=>s==tyName t
theorem aL.upd{H:Hp}{p:Addr}{o:HO}(h:H p=none):aL H (upd H p o):=λb u e=>by
 rw[bt (by rintro rfl;rw[h]at e;cases e)];exact e
def v_{i j:Int}(h:gE i j=true):IntMulOk i j:=by
 unfold gE at h;simp only[zbk,zah,decide_eq_true_eq]at h;ext(((h|h)|⟨c,b⟩):h)
 ·exact .of_left (PD h)
 ·exact .of_right (PD h)
 ·have e:mR i<=9000:=PD c;have d:mR j<=9000:=PD b;unfold IntMulOk;have a:AH ((mR i:Int)+(mR j:Int))=false:=by
   unfold AH;have:(bitsLine:Int)=134217728:=by decide
   exact aea ⋯
  rw[a];simp
section
variable {K:av}{R:ag}{τ τt:Addr->Option bw}{fv:aR}{H H':Hp}
def JE:oV X (v6 .Add) (λx y H Q=>∃a b xs ys,x=.ref a/\y=.ref b/\aY X.K H a xs/\aY X.K H b ys/\xs.length+ys.length<=sizeLine/\(xs=[]->Q (.ref b) H)/\(ys=[]->Q (.ref a) H)/\∀p,H p=none->Q (.ref p) (upd H p (.tup (xs++ys)))):=by
 intro pins s σ H x y v u Q I r q h;ext(⟨a,b,xs,ys,rfl,rfl,l,k,E,q0,q1,t⟩:h);cases r;cases q;by_cases g:xs=[]
 ·subst g;ext(⟨P,r1,z,_⟩:I.tuple l)(⟨B,O,w,_⟩:I.tuple k);cases r1;ext(⟨⟨L,J,data,o⟩,i,j,n,hd⟩:id z)(⟨⟨S,M,data2,m⟩,e,d,C,c⟩:id w);simp only at j hd d c;subst j hd d c;exact VH ⟨_,i,rfl⟩ ⟨_,e,rfl⟩ F0 P7 adT adN (adE _ _)
   (tuple_addW0 a b [].toArray B.toArray n C J M o m rfl) ⟨i,e,⟨.ref b,H,I,rfl,q0 rfl⟩⟩
 ·exact JD pins s σ H (.ref a) (.ref b) _ _ Q I rfl rfl ⟨a,b,xs,ys,rfl,rfl,l,k,g,E,q1,λ_=>t⟩
def nd.sg(k k':bw)(p:Addr)(xs:Nd)(f:Fl)(h:nd K R A ⇑8 H k p xs f):nd K R A ⇑8 H k' p xs f:=by
 cases f with
 |ow=>exact nomatch h.2
 |fz=>exact h
 |al=>exact h
 |sc=>exact h
def Um(b:SI X F R τ ρ σ H)(a:∀p q,τt p=↥q->H p=none)(k k':bw)(p:Addr)(xs:Nd)(f:Fl)(h:nd K R (lg (gP X F) τ fv) τt H' k p xs f):
  nd K R (lg (gP X F) τ fv) ⇑8 H' k' p xs (bp f):=by
 cases f with
 |ow=>exact⟨h.1,.inr (b.same.free (a p _ h.2)),λc i e=>absurd (a p _ h.2) (b.th p _ e)⟩
 |fz=>exact h
 |al=>exact h
 |sc=>exact h
def aH.gM{k:bw}{n:Nat}(h:aH (aY K H') (nd K R (lg (gP X F) τ fv) τt H') k n xs ds)(b:SI X F R τ ρ σ H)(a:∀p q,τt p=↥q->H p=none){n':Nat}:
  aH (aY K H') (nd K R (lg (gP X F) τ fv) ⇑8 H') k' n' xs (ak bp ds):=aH.jz ⇑10 (Um b a) h _ _
def Rep.gM{k:bw}{v:V}{d:D}(h:Rep (aY K H') (nd K R (lg (gP X F) τ fv) τt H') k v d)(b:SI X F R τ ρ σ H)(a:∀p q,τt p=↥q->H p=none):
  Rep (aY K H') (nd K R (lg (gP X F) τ fv) ⇑8 H') k' v (aI bp d):=Rep.jz ⇑10 (Um b a) h _
theorem aH.rep{A:ag}{xs:ah}{ds:aa}(h:aH (aY K H) (nd K R A ⇑8 H) [] 0 xs (ak bp ds)):∀n:Nat,aH (aY K H) (nd K R A ⇑8 H) [] 0 (cj n xs).flatten (ak bp (cj n ds).flatten)
 |0=>.nil
 |n+1=>by
  exact[zaA,zaA,zaQ,zaQ,aN,zak,-aN,-aN]\aH.uQ nd.sg h (aH.rep h n)
def cz.qT{p:Addr}(d:H p=none)(e:aL H H')(g:H' p=↥(.lst xs))(r:aH (aY K H') (nd K R (lg G τ fv) ⇑8 H') [] 0 xs ds):cz K G R τ fv H H' (.ref p) (.ow\ds):=by
 refine⟨λq=>if q=p then ↥[] else none,λq k b=>?_,.lst ⟨g,by simp⟩ (r.imp ⇑10 λc q xs f h=>?_)⟩
 ·by_cases a:q=p
  ·subst a;exact d
  ·simp[a]at b
 ·cases f with
  |ow=>exact nomatch h.2
  |fz=>exact h
  |al=>exact h
  |sc=>exact h
end
def JT(K:av):∀t:Ty,∀s∈kinds,bi K (.type s) (.type (tyName t))=↥(UT t s):=by
 intro t s a;simp only[kinds,zau,zaw,or_false]at a;cases t<;>rcases a with rfl|rfl|rfl|rfl|rfl|rfl|rfl<;>rfl
structure PX(X:Cx)(sc:Scope)(bl:ao)(k:Nat):Prop where
 sc:X.env.scope=sc
 calm:X.calm=true
 room:gu k X.A
 bl:∀x∈bl,X.mg x=none
def PX.gl{sc:Scope}{bl:ao}{k:Nat}(L:PX X sc bl k){x:Str}(h:gq sc x=true):Gl X x:=by
 unfold Gl;show X.env.scope.names.lookup x=↥.globalImplicit;exact[L.sc]\aag h
def qJ(X:Cx)(F:ag)(Φ:aV):aA->aj->Prop
 |[],[]=>True
 |c::cs,a::as=>PE X a (tD X F Φ c)/\(∀b,cm (a::b) X.env=(false,eval a X.env)::cm b X.env)/\oU a/\qJ X F Φ cs as
 |_,_=>False
variable {bU cs es:aA}{Φ:aV}
def qJ.c1{a:Expr}(h:qJ X F Φ cs [a]):∃c,cs=[c]:=by
 cases cs with
 |nil=>exact h.elim
 |cons c cs=>cases cs with
  |nil=>exact⟨c,rfl⟩
  |cons _ _=>exact h.2.2.2.elim
def qJ.c2{a b:Expr}(h:qJ X F Φ cs [a,b]):∃c d,cs=[c,d]:=by
 cases cs with
 |nil=>exact h.elim
 |cons c cs=>ext(⟨d,rfl⟩:qJ.c1 h.2.2.2);exact⟨c,d,rfl⟩
variable {c' elt:CE}
def T6{n:Nat}{c:CE}{d:D}(h:aZ Φ (.cM n [c,c']) ρ=ok d):∃x y,aZ Φ c ρ=ok x/\aZ Φ c' ρ=ok y/\Φ n [x,y]=ok d:=by
 ext(⟨xs,e,h⟩:aJ h)(⟨x,g,e⟩:aJ e)(⟨ys,b,e⟩:aJ e);cases e;ext(⟨y,a,e⟩:aJ b);cases e;exact⟨x,y,g,a,h⟩
structure xp(K:av)(H2:Hp)(vs:ah)(xs:aa)(H':Hp):Prop where
 n0:∃R0:ag,aH (aY K H2) (nd K R0 ⇑7 ⇑8 H2) [] 0 vs (ak aK xs)/\∀p o,R0 p->H2 p=↥o->H' p=↥o
 tp:∀a ys,aY K H2 a ys->aY K H' a ys
structure Yy(K:av)(J:It)(H2:Hp)(vs:ah)(xs items:aa):Prop where
 go:∀i H' R',xp K H2 vs xs H'->aH (aY K H') (nd K R' ⇑7 ⇑8 H') [] 0 vs (ak aK xs)->i<items.length->J.go i H'
 zd:∀i H' R' x kI,xp K H2 vs xs H'->aH (aY K H') (nd K R' ⇑7 ⇑8 H') [] 0 vs (ak aK xs)->i<items.length->J.zd i H' x kI->aL H' kI/\∃d,items[i]?=↥d/\Rep (aY K kI) (nd K R' ⇑7 ⇑8 kI) [] x d
 stop:∀i H' R',xp K H2 vs xs H'->aH (aY K H') (nd K R' ⇑7 ⇑8 H') [] 0 vs (ak aK xs)->items.length<=i->J.stop i H'
abbrev RB(a:Scope->ao->Expr->Option (aj))(m:aE):Prop:=∀{Φ:aV} {n:Nat},Φ n=m->∀{X:Cx} {sc:Scope} {bl:ao} {k:Nat},PX X sc bl k->∀{e:Expr} {args:aj},a sc bl e=↥args->∀{F:ag} {cs:aA},qJ X F Φ cs args->PE X e (tD X F Φ (.cM n cs))/\PT X e (jW X F Φ (.cM n cs))
abbrev PiT(Φ:aV)(X:Cx)(e b:Expr)(F:ag)(cs:aA)(n:Nat):Prop :=
  ∀(pins:au) (s:ap) (σ:St) (H:Hp) (R:ag) (τ:Addr->Option bw) (ρ:aS) (xs:aa) (d:D) (items:aa),Inv X pins σ H s->SI X F R τ ρ σ H->bY Φ cs ρ=ok xs->Φ n xs=ok d->xZ d=ok items->∀a:It->Hp->Prop,
   (∀J H2 vs,aL H H2->de X.K (gP X F) R τ (eE cs) H H2 vs xs->Yy X.K J H2 vs xs items->a J H2) ->
   ⇑0 (eval e X.env) (λv c=>⇑0 (re v) (HY X pins σ b a) X.xe c) X.xe s
abbrev PlI(b:Scope->ao->Expr->Option (aj))(m:aE):Prop:=∀{Φ:aV} {n:Nat},Φ n=m->∀{X:Cx} {sc:Scope} {bl:ao} {k:Nat},PX X sc bl k->∀{e:Expr} {args:aj},b sc bl e=↥args->∀{F:ag} {cs:aA} {a:Expr},jC a=true->qJ X F Φ cs args->PiT Φ X e a F cs n
structure og(px:Px)(Φ:aV):Prop where
 e:∀(X:Cx) (sc:Scope) (bl:ao) (k:Nat),PX X sc bl k->∀(p:Nat) (e:Expr) (args:aj),px.pe p sc bl e=↥args->∀(F:ag) (cs:aA),qJ X F Φ cs args->PE X e (tD X F Φ (.cM p cs))/\PT X e (jW X F Φ (.cM p cs))
 i:∀(X:Cx) (sc:Scope) (bl:ao) (k:Nat),PX X sc bl k->∀(p:Nat) (e:Expr) (args:aj),px.pi p sc bl e=↥args->∀(F:ag) (cs:aA) (tg:Expr),(decide (1100<=p)||jC tg)=true->qJ X F Φ cs args ->
  PiT Φ X e tg F cs p
def xE(K:av):GK->Value->Prop
 |.i i,u=>RelV ↑i u
structure Lk(X:Cx)(S:Sx)(k:Nat)(Φ:aV):Prop where
 sc:X.env.scope=S.sc
 N:X.N=S.N
 nd:X.N.Nodup
 calm:X.calm=true
 room:gu k X.A
 bl:∀x∈S.bl,X.mg x=none
 fn:∀f x,S.fn f=↥x->RE X k x (Φ f)
 cs:∀x i,(x,i)∈S.cs->∃u,X.mg x=↥u/\xE X.K i u
 pr:og S.px Φ
variable {S:Sx}
def Lk.pX{k:Nat}(L:Lk X S k Φ):PX X S.sc S.bl k:=⟨L.sc,L.calm,L.room,L.bl⟩
variable {Q:VK}{B6 p' pos pos':Pos}
section
variable {X:Cx}{S:Sx}{k:Nat}{F:ag}{Φ:aV}
def Lk.gl(L:Lk X S k Φ){x:Str}(h:gq S.sc x=true):Gl X x:=by
 unfold Gl;show X.env.scope.names.lookup x=↥.globalImplicit;exact[L.sc]\aag h
def Lk.Xf(L:Lk X S k Φ){x:Str}(h:Nn S.sc x=true):Nb X.env.scope x:=by
 unfold Nb;rw[L.sc];unfold Nn at h;rw[zbk,zbk]at h;ext(((h|h)|h):h)
 ·exact .inl (aag h)
 ·exact .inr (.inl (aag h))
 ·exact .inr (.inr (aag h))
def tD.intro{c:CE}{H:Hp}{R:ag}{d:D}(a:SI X F R τ ρ σ H)(e:aZ Φ c ρ=ok d)(h:∀v H',aL H H'->cz X.K (gP X F) R τ (gJ c) H H' v d->Q v H'):tD X F Φ c σ H Q:=⟨R,τ,ρ,d,a,e,h⟩
def Zj(L:Lk X S k Φ){i:Nat}{x:Str}(h:cg S (.v i) (.Name x pos)=true):PE X (.Name x pos) (tD X F Φ (.v i)):=by
 replace h:=aC h;replace h:=And.intro (aC h.1) h.2;ext(⟨⟨o,n⟩,a⟩:h);unfold nY at a;simp only[zah,zbb]at a;refine PE.imp (iN (i:=i) ([L.N]\aag o) (L.Xf n) a.1.1 a.1.2) λσ H Q b=>?_;ext(⟨R,τ,ρ,d,g,r,b⟩:b)(⟨d',hd,rfl⟩:DR r)
 ·ext(⟨v,l,m⟩:g.rep i d' hd);refine⟨v,l,b v H (aL.refl H) ⟨λ_=>none,λ_ _ h=>by simp at h,?_⟩⟩;refine Rep.map (q:=[i]) (q':=[]) ⇑10 (λc p xs f h=>?_) m [] rfl;cases f with
  |ow =>
   refine⟨h.1,.inr (g.t0 p _ h.2),λc' j e=>?_⟩;rw[h.2]at e;ext(s:aaV e);have:=aa2 p0 s;simp at this;show _∈[i];simp[this]
  |fz=>exact h
  |al=>exact h.2.elim
  |sc=>exact h
def Le{op:Bb}{x y d:D}(h:dk op x y=ok d):(∃i j,x=.int i/\y=.int j/\ZS op i j=true/\d=.int (resB op i j))\/Ld op x y=ok d:=by
 cases x with
 |int i=>cases y with
  |int j =>
   ext(⟨c,e⟩:rX h);exact .inl ⟨i,j,rfl,rfl,c,e.symm⟩
  |_=>exact .inr h
 |_=>exact .inr h
def ZN(op:Bb):oV X (v6 (RS op)) (rI (λi j=>ZS op i j=true) λi j=>.int (resB op i j)):=by
 cases op with
 |add=>exact OB λ_ _ _ _ _ _ _ _ q=>add_int q
 |sub=>exact OB λ_ _ _ _ _ _ _ _ q=>sub_int q
 |mul=>exact OB λ_ _ _ _ _ _ _ a q=>mul_int q (v_ a)
 |mod=>exact OB λ_ _ _ _ _ _ _ a q=>mod_int' (aag a) q
 |fdiv =>
  exact OB λi j _ _ _ _ _ a q=>by
   ext(⟨b,c⟩:aC a);exact floordiv_int (aag b) q (.inl (PyProof.noPylong_of_log2 ((Nat.log2_lt (by have:=aag b;left)).mpr (aag c))))
 |pow =>
  exact OB λi j _ _ _ _ _ a q=>by
   ext(⟨a,d⟩:aC a)(⟨b,c⟩:aC a);exact pow_int_small (aag b) (aag c) (aag d) q
 |shl =>
  exact OB λi j _ _ _ _ _ a q=>by
   ext(⟨a,d⟩:aC a)(⟨b,c⟩:aC a);exact lshift_int_small (aag b) (aag c) (aag d) q
def N3(L:Lk X S k Φ){op:Bb}{a b:CE}{l r:Expr}(ha:PE X l (tD X F Φ a))(hb:PE X r (tD X F Φ b)):PE X (.BinOp l (RS op) r pos) (tD X F Φ (.bin op a b)):=by
 have gen:∀{Z:R2},oV X (v6 (RS op)) Z->(∀{R τ ρ σ H d x y v u H'} {Q:VK},SI X F R τ ρ σ H->Ld op x y=ok d->aL H H'->cz X.K (gP X F) R τ (gJ (.bin op a b)) H H' v x->cz X.K (gP X F) R τ (gJ (.bin op a b)) H H' u y ->
   (∀v H',aL H H'->cz X.K (gP X F) R τ (gJ (.bin op a b)) H H' v d->Q v H')->Z v u H' Q)->PE X (.BinOp l (RS op) r pos) (tD X F Φ (.bin op a b)):=by
  intro Z ho hx;refine PE.imp (Mm ((ZN op).or ho) ha hb) λσ H Q s=>?_;ext(⟨R,τ,ρ,d,t,C,s⟩:s)(⟨x,ex,C⟩:aJ C)(⟨y,ey,C⟩:aJ C);refine tD.intro t ex λv H1 e1 r1=>tD.intro (t.go e1) ey λu H2 e2 r2=>?_;ext(e:e1.trans e2)((⟨i,j,rfl,rfl,c,rfl⟩|C):Le C)
  ·exact .inl ⟨i,j,(r1.go e2).isInt,r2.isInt,c,s _ H2 e .int⟩
  ·exact .inr (hx t C e ((r1.go e2).mono λi hi=>aa0 _ hi) ((r2.old e1).mono λi hi=>aay _ hi) s)
 have no:∀{f:Value->Value->Sem Value},oV X f λ_ _ _ _=>False:=λ_ _ _ _ _ _ _ _ _ _ _ _ h=>h.elim;have hz:sizeLine=16777216:=acI;have mY:cU=1000000:=rfl;cases op with
 |mul =>
  refine gen Oy λ{R τ ρ σ H d x y v u H' Q} t o e U W s=>?_;cases x with
  |lst f a=>cases y with
   |int j =>
    ext(⟨J,o⟩:rX o);subst o;ext(⟨τt,M,I⟩:U)(⟨p,xs,rfl,E,w⟩:I.nN);refine⟨p,j,xs,rfl,W.isInt,E.lst J.1,by left,by left,by rw[w.length];left,λp' B=>?_⟩;have es:aL H' (upd H' p' (.lst (cj j.toNat xs).flatten)):=aL.upd B;refine s _ _ (e.trans es) (cz.qT (e.free B) (e.trans es) (aU) ?_);exact(aH.rep (w.gM t M) j.toNat).imp (λ_ _ h=>aY.same es h) λ_ _ _ _ h=>nd.same es h
   |_=>cases o
  |_=>cases o
 |add =>
  refine gen (EK.or JE) λ{R τ ρ σ H d x y v u H' Q} t o e U W s=>?_;cases x with
  |lst f a=>cases y with
   |lst g b =>
    ext(⟨J,o⟩:rX o);subst o;ext(⟨τt,M,I⟩:U)(⟨YF,V5,Zx⟩:W)(⟨p,xs,rfl,E,w⟩:I.nN)(⟨p2,O,rfl,Y,P⟩:Zx.nN);refine .inl ⟨p,p2,xs,O,rfl,rfl,E.lst J.1,Y.lst J.2.1,by rw[w.length,P.length];left,λp' B=>?_⟩;have es:aL H' (upd H' p' (.lst (xs++O))):=aL.upd B;refine s _ _ (e.trans es) (cz.qT (e.free B) (e.trans es) (aU) ?_);exact[aN,zak,-aN,-aN]\(aH.uQ nd.sg (n:=0) (m:=0) (w.gM t M) (P.gM t V5)).imp (λ_ _ h=>aY.same es h) λ_ _ _ _ h=>nd.same es h
   |_=>cases o
  |tup a=>cases y with
   |tup b =>
    ext(⟨J,o⟩:rX o);subst o;ext(⟨τt,M,I⟩:U)(⟨YF,V5,Zx⟩:W)(⟨p,xs,rfl,E,w⟩:I.Dm)(⟨p2,O,rfl,Y,P⟩:Zx.Dm);have hl:=w.length;have Ai:=P.length;ext(q:aH.uQ nd.sg (n:=0) (m:=0) (l:=0) (k:=[]) (w.gM t M) (P.gM t V5));rw[aN,aN,<- zak,<- aN]at q;refine .inr ?_;refine⟨p,p2,xs,O,rfl,rfl,E,Y,by rw[hl,Ai];left,λz=>?_,λz=>?_,λp' B=>?_⟩
    ·subst z;exact s _ H' e ⟨λ_=>none,λ_ _ h=>by simp at h,.tup Y q⟩
    ·subst z;rw[zav]at q;exact s _ H' e ⟨λ_=>none,λ_ _ h=>by simp at h,.tup E q⟩
    ·have es:aL H' (upd H' p' (.tup (xs++O))):=aL.upd B;exact s _ _ (e.trans es) ⟨λ_=>none,λ_ _ h=>by simp at h,.tup (aY.of aU) (q.imp (λ_ _ h=>aY.same es h) λ_ _ _ _ h=>nd.same es h)⟩
   |_=>cases o
  |_=>cases o
 |_=>exact gen no λ_ o _ _ _ _=>nk o
end
section
variable {T T':qI}{N N':lB}{P:Fl->Bool}
def Rep.without(a:∀p xs,T p xs->T' p xs)(b:∀k k' p xs f,P f=false->N k p xs f->N' k' p xs f){k:bw}{v:V}{d:D}(h:Rep T N k v d)(e:aW P d=false)(k':bw):Rep T' N' k' v d:=by
 have:=Rep.gen (g:=id) (P:=P) (N':=N') (C:=λ_ _=>True) (I:=λ_ _=>True) a trivial (λ_ _ e=>e) (λ_ _ _ _ e _=>e) (λk k' p xs f _ e h=>b k k' p xs f e h) h (k':=k') trivial e;rw[eX]at this;exact this
def aH.without(a:∀p xs,T p xs->T' p xs)(b:∀k k' p xs f,P f=false->N k p xs f->N' k' p xs f){k:bw}{n:Nat}(h:aH T N k n vs ds)(e:aQ P ds=false)(k':bw)(n':Nat):aH T' N' k' n' vs ds:=by
 have:=aH.gen (g:=id) (P:=P) (N':=N') (C:=λ_ _=>True) (I:=λ_ _=>True) a trivial (λ_ _ e=>e) (λ_ _ _ _ e _=>e) (λk k' p xs f _ e h=>b k k' p xs f e h) h (k':=k') (n':=n') trivial trivial e;rw[fh]at this;exact this
def Rep.lF(i:∀p xs,T p xs->T' p xs)(j:∀k p xs f,P f=false->N k p xs f->N' k p xs f){k:bw}{v:V}{d:D}(h:Rep T N k v d)(e:aW P d=false):Rep T' N' k v d:=by
 have:=Rep.gen (g:=id) (P:=P) (N':=N') (C:=λa b=>a=b) (I:=λa b=>a=b) i rfl (λ_ _ e=>by rw[e]) (λ_ _ _ _ a b=>by rw[a,b]) (λk k' p xs f c e h=>by subst c;exact j k p xs f e h) h rfl e;rw[eX]at this;exact this
def aH.lF(d:∀p xs,T p xs->T' p xs)(i:∀k p xs f,P f=false->N k p xs f->N' k p xs f){k:bw}{n:Nat}(h:aH T N k n vs ds)(e:aQ P ds=false):aH T' N' k n vs ds:=by
 have:=aH.gen (g:=id) (P:=P) (N':=N') (C:=λa b=>a=b) (I:=λa b=>a=b) d rfl (λ_ _ e=>by rw[e]) (λ_ _ _ _ a b=>by rw[a,b]) (λk k' p xs f c e h=>by subst c;exact i k p xs f e h) h rfl rfl e;rw[fh]at this;exact this
end
def Rep.mV{R:ag}{H:Hp}{k:bw}{v:V}{d:D}(h:Rep (aY K H) (nd K R ⇑7 ⇑8 H) k v d):Rep (aY K H) (nd K R ⇑7 ⇑8 H) k' v d:=by
 have:=Rep.jz (g:=id) ⇑10 nd.sg h k';rw[eX]at this;exact this
inductive gX(X:Cx)(R:ag)(τ:Addr->Option bw)(H:Hp)(v:V)(d:D):Prop where
 |mk (τt:Addr->Option bw) (h1:∀p q,τt p=↥q->τ p=none/\¬ R p/\X.H₀ p=none/\H p≠none) (h2:Rep (aY X.K H) (nd X.K R ⇑7 τt H) [] v d)
section
variable {X:Cx}{F R:ag}{τ:Addr->Option bw}{ρ:aS}{σ:St}{H H':Hp}
meta def xS(i:Nat)(τt τ:Addr->Option bw):Addr->Option bw:=λp=>match τt p with|↥q=>↥(q++[i])|none=>τ p
def SI.Tx{i:Nat}{v:V}{d:D}(a:SI X F R τ ρ σ H)(e:∀p q,τt p=↥q->τ p=none/\¬ R p/\X.H₀ p=none/\H p≠none)(o:Rep (aY X.K H) (nd X.K R ⇑7 τt H) [] v d)(n:i<ρ.length):SI X F R (xS i τt τ) (ρ.set i ↥d) (σ.set i ↥v) H:=by
 refine⟨by simp[a.len],λj d' g=>?_,λp m=>?_,a.rh,a.rf,λp q b=>?_,λp q b=>?_,a.same⟩
 ·by_cases l:j=i
  ·subst l;rw[eo n]at g;cases g;refine⟨v,acf ([-a.len]\n),o.imp (q':=[j]) ⇑10 λc p xs f h=>?_⟩;cases f with
   |ow=>rw[zav]at h;exact⟨h.1,by simp only[xS,h.2]⟩
   |fz=>exact h
   |al=>exact h
   |sc=>exact h
  ·rw[ce (ja l)]at g;ext(⟨w,hw,r⟩:a.rep j d' g);refine⟨w,[ce (ja l)]\hw,r.imp ⇑10 λc p xs f h=>?_⟩;cases f with
   |ow =>
    refine⟨h.1,?_⟩;cases q:τt p with
    |none=>simp only[xS,q];exact h.2
    |some k=>have:=(e p k q).1;rw[h.2]at this;cases this
   |fz=>exact h
   |al=>exact h
   |sc=>exact h
 ·cases q:τt p with
  |none=>simp only[xS,q];exact a.rt p m
  |some k=>exact absurd m (e p k q).2.1
 ·cases z:τt p with
  |none=>simp only[xS,z]at b;exact a.th p q b
  |some k=>exact(e p k z).2.2.2
 ·cases z:τt p with
  |none=>simp only[xS,z]at b;exact a.t0 p q b
  |some k=>exact(e p k z).2.2.1
theorem SI.set{i:Nat}{v:V}{d:D}(e:SI X F R τ ρ σ H)(r:gX X R τ H v d)(c:i<ρ.length):∃τ',SI X F R τ' (ρ.set i ↥d) (σ.set i ↥v) H:=by
 ext(⟨τt,b,a⟩:r);exact⟨_,e.Tx b a c⟩
def Cd{k:bw}{v:V}{d:D}(h:Rep (aY X.K H) (nd X.K R ⇑7 τ H) k v d)(a:aW cy d=false):gX X R τ H v d :=
 ⟨λ_=>none,λ_ _ h=>by simp at h,Rep.without (P:=cy) ⇑10 (λk k' p xs f hf h=>by
  cases f with
  |ow=>cases hf
  |fz=>exact h
  |al=>exact h.2.elim
  |sc=>exact h) h a _⟩
open Classical in
def SI.move{i:Nat}{d:D}(a:SI X F R τ ρ σ H)(hd:ρ[i]?=↥↥d):∃v τ',σ[i]?=↥↥v/\SI X F R τ' (ρ.set i none) σ H/\gX X R τ' H v d:=by
 ext(⟨v,o,m⟩:a.rep i d hd);refine⟨v,λp=>match τ p with|↥q=>if q.getLast?=↥i then none else ↥q|none=>none,o,⟨by simp[a.len],λj d' e=>?_,λp r=>?_,a.rh,a.rf,λp q b=>?_,λp q b=>?_,a.same⟩,
  λp=>match τ p with|↥q=>if q.getLast?=↥i then(if H p=none then none else ↥q.dropLast)else none|none=>none,λp q b=>?_,m.imp (q:=[i]) (q':=[]) ⇑10 λc p xs f h=>?_⟩
 ·by_cases g:j=i
  ·subst g;rw[ww]at e;simp at e
  ·rw[ce (ja g)]at e;ext(⟨w,hw,n⟩:a.rep j d' e);refine⟨w,hw,n.imp (q:=[j]) (q':=[j]) ⇑10 λc p xs f h=>?_⟩;cases f with
   |ow =>
    refine⟨h.1,?_⟩;simp only[h.2];rw[zab (by simp;exact g)]
   |fz=>exact h
   |al=>exact h
   |sc=>exact h
 ·simp only[a.rt p r]
 ·cases z:τ p with
  |none=>simp only[z]at b;cases b
  |some k=>exact a.th p k z
 ·cases z:τ p with
  |none=>simp only[z]at b;cases b
  |some k=>exact a.t0 p k z
 ·cases z:τ p with
  |none=>simp only[z]at b;cases b
  |some k =>
   simp only[z]at b ⊢;by_cases l:k.getLast?=↥i
   ·exact[zac l]\⟨rfl,(λhR=>by have:=a.rt p hR;rw[z]at this;cases this),a.t0 p k z,a.th p k z⟩
   ·rw[zab l]at b;cases b
 ·cases f with
  |ow =>
   refine⟨h.1,?_⟩;have s:H p≠none:=h.1.ne;simp only[h.2];rw[zac ⇑5,zab s];simp
  |fz=>exact h
  |al=>exact h.2.elim
  |sc=>exact h
def Av(is:aR)(ρ:aS)(j:Nat)(d:D)(h:(iF is ρ)[j]?=↥↥d):∃d',ρ[j]?=↥↥d'/\d=(if j∈is then aI aK d' else d'):=by
 unfold iF at h;rw[kC]at h;cases q:ρ[j]? with
 |none=>rw[q]at h;exact nk h
 |some o =>
  rw[q]at h;cases o with
  |none=>simp at h
  |some d' =>
   refine⟨d',rfl,?_⟩;by_cases a:j∈is
   ·simp[a]at h ⊢;exact h.symm
   ·simp[a]at h ⊢;exact h.symm
open Classical in
def Aw(b:SI X F R τ ρ σ H)(es:aL H H'):
  ∃R' τ',(∀p,R p->R' p)/\SI X F R' τ' (iF fv ρ) σ H'/\∀τt:Addr->Option bw,(∀p q,τt p=↥q->H p=none)->∀(k k':bw) (p:Addr) (xs:Nd) (f:Fl),nd X.K R (lg (gP X F) τ fv) τt H' k p xs f->nd X.K R' ⇑7 ⇑8 H' k' p xs (aK f):=by
 ext(g:b.go es);have fresh:∀p,H p=none->lg (gP X F) τ fv p:=λp a=>⟨.inr (b.same.free a),λc i e=>absurd a (b.th p _ e)⟩
 refine⟨λp=>R p\/(H' p≠none/\lg (gP X F) τ fv p),λp=>if lg (gP X F) τ fv p then none else τ p,λp h=>.inl h,⟨by simp[iF,b.len],λj d' o=>?_,λp a=>?_,λp a=>?_,λp a=>?_,λp q d=>?_,λp q d=>?_,g.same⟩,λτt s k k' p xs f h=>?_⟩
 ·ext(⟨d0,r,e0⟩:Av _ _ _ _ o)(⟨w,hw,m⟩:g.rep j d0 r);refine⟨w,hw,?_⟩;by_cases l:j∈fv
  ·rw[zac l]at e0;subst e0;refine Rep.map (q:=[j]) (q':=[j]) ⇑10 (λc p xs f h=>?_) m [] rfl;cases f with
   |ow =>
    refine⟨h.1,.inr ⟨h.1.ne,.inr (b.t0 p _ h.2),λc' t n=>?_⟩⟩;rw[h.2]at n;have:=aa2 p0 (aaV n);simp at this;subst this;exact l
   |fz=>exact⟨h.1,.inl h.2⟩
   |al=>exact h.2.elim
   |sc=>exact h
  ·rw[zab l]at e0;subst e0;refine m.imp (q:=[j]) (q':=[j]) ⇑10 λc p xs f h=>?_;cases f with
   |ow =>
    refine⟨h.1,?_⟩;show(if lg (gP X F) τ fv p then none else τ p)=↥(c++[j]);exact[zab (λz=>l (z.2 c j h.2))]\h.2
   |fz=>exact⟨h.1,.inl h.2⟩
   |al=>exact h.2.elim
   |sc=>exact h
 ·ext((a|a):a)
  ·simp only[b.rt p a];split<;>rfl
  ·rw[zac a.2]
 ·ext((a|a):a)
  ·exact g.rh p a
  ·exact a.1
 ·ext((a|a):a)
  ·exact b.rf p a
  ·exact a.2.1
 ·split at d
  ·cases d
  ·exact g.th p q d
 ·split at d
  ·cases d
  ·exact b.t0 p q d
 ·cases f with
  |ow=>exact⟨h.1,.inr ⟨h.1.ne,fresh p (s p _ h.2)⟩⟩
  |fz=>exact⟨h.1,.inl h.2⟩
  |al=>exact⟨h.1,.inr ⟨h.1.ne,h.2⟩⟩
  |sc=>exact h
def uu{v:V}{d:D}(i:SI X F R τ ρ σ H)(es:aL H H')(r:cz X.K (gP X F) R τ fv H H' v d):
  ∃R' τ',(∀p,R p->R' p)/\SI X F R' τ' (iF fv ρ) σ H'/\Rep (aY X.K H') (nd X.K R' ⇑7 ⇑8 H') [] v (aI aK d):=by
 ext(⟨τt,g,a⟩:r)(⟨R',τ',e,c,b⟩:Aw (fv:=fv) i es);exact⟨R',τ',e,c,Rep.jz ⇑10 (b τt g) a _⟩
def wC(g:SI X F R τ ρ σ H)(es:aL H H')(r:de X.K (gP X F) R τ fv H H' vs ds):
  ∃R' τ',(∀p,R p->R' p)/\SI X F R' τ' (iF fv ρ) σ H'/\aH (aY X.K H') (nd X.K R' ⇑7 ⇑8 H') [] 0 vs (ak aK ds):=by
 ext(⟨τt,e,a⟩:r)(⟨R',τ',d,c,b⟩:Aw (fv:=fv) g es);exact⟨R',τ',d,c,aH.jz ⇑10 (b τt e) a _ _⟩
def j4{v:V}{d:D}(h:Rep (aY X.K H) (nd X.K R ⇑7 ⇑8 H) [] v d):gX X R τ' H v d:=⟨λ_=>none,λ_ _ h=>by simp at h,h⟩
open Classical in
protected def My{e:CE}{v:V}{d:D}(b:SI X F R τ ρ σ H)(es:aL H H')(r:cz X.K (gP X F) R τ (gJ e) H H' v d):
  ∃R' τ',(∀p,R p->R' p)/\SI X F R' τ' (keep e d ρ).2 σ H'/\gX X R' τ' H' v (keep e d ρ).1:=by
 unfold keep;by_cases a:aW bW d=true
 ·rw[zac a];ext(⟨R',τ',m,l,j⟩:uu b es r);exact⟨R',τ',m,l,j4 j⟩
 ·ext(⟨τt,n,g⟩:r);rw[zab a];refine⟨R,τ,λ_ h=>h,b.go es,λp=>if H' p=none then none else τt p,λp q c=>?_,?_⟩
  ·try dsimp only at c
   split at c
   ·cases c
   ·rename_i i;ext(hf:n p q c);refine⟨?_,λhR=>b.rh p hR hf,b.same.free hf,i⟩;cases z:τ p with
    |none=>rfl
    |some k=>exact absurd hf (b.th p k z)
  ·have o:aW bW d=false:=⇑a
   have st:∀{k:bw} {v:V} {d:D},Rep (aY X.K H') (nd X.K R (lg (gP X F) τ (gJ e)) τt H') k v d->aW bW d=false->Rep (aY X.K H') (nd X.K R ⇑7 (λp=>if H' p=none then none else τt p) H') k v d:=by
    intro k v d h a;exact Rep.lF (P:=bW) ⇑10 (λk p xs f hf h=>by
     cases f with
     |ow=>exact⟨h.1,by show(if H' p=none then none else τt p)=_;rw[zab (h.1.ne)];exact h.2⟩
     |fz=>exact h
     |al=>cases hf
     |sc=>exact h) h a
   exact st g o
open Classical in
inductive tK(X:Cx)(F:ag)(Φ:aV)(c:CE)(σ:St)(H:Hp)(Q:VK):Prop where
 |mk (R:ag) (τ:Addr->Option bw) (ρ:aS) (r:D×aS) (h1:SI X F R τ ρ σ H) (h2:kf Φ c ρ=ok r) (h3:∀v H' R' τ',aL H H'->(∀p,R p->R' p)->SI X F R' τ' r.2 σ H'->gX X R' τ' H' v r.1->Q v H')
end
theorem k8{env:Env}:∀(names:List (Str×nt)) (b:List (Str×Addr)),(∀x,(x,eD)∈names->∃c,env.cells.lookup x=↥c) ->
  ∃d,(forIn names b (λ(y:Str×nt) (cs:List (Str×Addr))=>do
    let (name,kind):=y
    let mut cs:=cs
    if kind==.free then cs:=(name,<- cellOf env name)::cs
    pure (lm cs)):Sem (List (Str×Addr)))=pure d /\
   (∀x c,d.lookup x=↥c->b.lookup x=↥c\/(env.cells.lookup x=↥c/\(x,eD)∈names))/\(∀x,((x,eD)∈names\/(∃c,b.lookup x=↥c))->∃c,d.lookup x=↥c)
 |[],b,_=>⟨b,rfl,λx c h=>.inl h,λx h=>h.elim (λh=>nomatch h) id⟩
 | (n,kd)::names,b,h=>by
  by_cases i:kd=.free
  ·subst i;ext(⟨c,l⟩:h n aam)(⟨d,e,k,j⟩:k8 names ((n,c)::b) (λx a=>h x (aap _ a)));refine⟨d,?_,λx c' a=>?_,λx a=>?_⟩
   ·rw[zbS];have e0:cellOf env n=pure c:=by unfold cellOf;rw[l]
    simp only[zbd,if_true,e0,pure_bind];exact e
   ·ext((z|z):k x c' a)
    ·by_cases g:x=n
     ·subst g;simp at z;subst z;exact .inr ⟨l,aam⟩
     ·rw[zam]at z;have:(x==n)=false:=⇑g
      rw[this]at z;exact .inl z
    ·exact .inr ⟨z.1,aap _ z.2⟩
   ·refine j x ?_;ext((a|⟨c',a⟩):a)
    ·ext((z|z):ci.mp a)
     ·cases z;exact .inr ⟨c,by simp⟩
     ·exact .inl z
    ·by_cases g:x=n
     ·subst g;exact .inr ⟨c,by simp⟩
     ·refine .inr ⟨c',?_⟩;rw[zam];have:(x==n)=false:=⇑g
      exact[this]\a
  ·ext(⟨d,e,k,j⟩:k8 names b (λx a=>h x (aap _ a)));have m:(kd==eD)=false:=⇑i
   refine⟨d,?_,λx c' a=>(k x c' a).imp id λz=>⟨z.1,aap _ z.2⟩,λx a=>j x ?_⟩
   ·rw[zbS];simp only[m,zaq,if_false,pure_bind];exact e
   ·ext((a|a):a)
    ·ext((z|z):ci.mp a)
     ·cases z;exact absurd rfl i
     ·exact .inl z
    ·exact .inr a
variable {env:Env}
def yL{sc:Scope}(h:∀x,(x,eD)∈sc.names->∃c,env.cells.lookup x=↥c):
  ∃a,closureFor sc env=pure a/\(∀x c,a.lookup x=↥c->env.cells.lookup x=↥c)/\(∀x,(x,eD)∈sc.names->∃c,a.lookup x=↥c):=by
 ext(⟨a,e,g,d⟩:k8 (env:=env) sc.names [] h);refine⟨a,?_,λx c b=>(g x c b).elim (λz=>by simp at z) (·.1),λx b=>d x (.inl b)⟩;unfold closureFor;simp only[bind_pure];exact e
variable {P prog:aG}{e1 e2 ku iter o target tg value:Expr}{w:World}
def uA{A:aF}{R:Result->ap->Prop}{s:ap}{elt:Expr}{p:aj}{scope:Scope}{it q:Value}(I:Nat->ap->Prop)
  (turn:∀n s,I n s->⇑1 (om it) (λr a=>match r with
   |none=>R (.ok .next) a
   |some v=>⇑1 (vj target it v) (λ_ a=>⇑1 (zn target env v) (λ_ d =>
     ⇑1 (forIn p true λc r=>if r=true then do let ok <- PB c env (eval c env);pure (lm ok)else pure (lm r)) (λok b =>
      if ok=true then ⇑1 (eval elt env) (λx j =>
       ⇑1 (call (.builtin "list.append") [q,x]) (λ_ i=>∃m,m<n/\I m i) (λ_ _=>False) j) (λ_ _=>False) b
      else ∃m,m<n/\I m b) (λ_ _=>False) d) (λ_ _=>False) a) (λ_ _=>False) a) (λ_ _=>False) s)
  (n:Nat) (h:I n s) :
  qS (model prog w) A (.compLoop (.ListComp elt [⟨target,iter,p,0⟩] scope pos) 0 it q env) R s:=by
 refine codeAny_loop rfl I (λn s y=>?_) n h;show wpAny _ A ((compTurn (.ListComp elt [⟨target,iter,p,0⟩] scope pos) 0 it q env).onRaise (λx=>do noteFrame x env;theTreesLotGoes x)) _ _ s;refine wpAny_noted ?_;rw[compTurn_list];refine aaf (ael (aaf (aa1 (turn n s y) (λr a l=>?_) λ_ _ g=>g.elim)));cases r with
 |none=>exact aak l
 |some v =>
  refine aaf (aa1 l (λ_ d e=>?_) λ_ _ g=>g.elim);refine aaf (aa1 e (λ_ d e=>aaf (aa1 e (λok b k=>?_) λ_ _ g=>g.elim)) λ_ _ g=>g.elim);cases ok with
  |false=>exact aak ⟨rfl,k⟩
  |true =>
   exact aaf (aaf (aa1 k (λx j u=>aaf (aa1 u (λ_ i t=>aak (aak ⟨rfl,t⟩)) λ_ _ g=>g.elim)) λ_ _ g=>g.elim))
meta def eT(X:Cx)(N':ao)(scope:Scope)(cl:List (Str×Addr))(C:Addr)(s₀:ap)(H₀:Hp)(fp:aX):Cx :=
 { X with N:=N',s₀:=s₀,H₀:=H₀,env:=compEnvC scope cl C X.env,outer:=X.stack,stack:=X.stack,ex:=fp,fn:=λ_=>false,pn:=[],xe:=λ_ _=>False }
theorem fX{env:Env}:∀{names:List (Str×nt)} {x:Str} {kd:nt},(names.map λ(n,k)=>if (k==eD&&env.scope.kind==.function&&env.kindOf n==↥.cell)then(n,sK)else(n,k)).lookup x=↥kd ->
  names.lookup x=↥kd\/(kd=.cell/\names.lookup x=↥.free)
 |[],_,_,h=>by simp at h
 | (n,k)::r,x,kd,h=>by
  rw[zal]at h;cases a:x==n with
  |true =>
   by_cases b:(k==eD&&env.scope.kind==.function&&env.kindOf n==↥.cell)=true
   ·simp only[b,if_true,zam,a]at h;cases h;simp only[zah,beq_iff_eq]at b;refine .inr ⟨rfl,?_⟩;rw[zam,a,b.1.1]
   ·have c:(k==eD&&env.scope.kind==.function&&env.kindOf n==↥.cell)=false:=⇑b
    simp only[c,zaq,if_false,zam,a]at h;cases h;exact .inl ⇑[zam,a]
  |false =>
   have:Ch x (r.map λ(n,k)=>if (k==eD&&env.scope.kind==.function&&env.kindOf n==↥.cell)then(n,sK)else(n,k))=↥kd:=by
    by_cases b:(k==eD&&env.scope.kind==.function&&env.kindOf n==↥.cell)=true
    ·simp only[b,if_true,zam,a]at h;exact h
    ·have c:(k==eD&&env.scope.kind==.function&&env.kindOf n==↥.cell)=false:=⇑b
     simp only[c,zaq,if_false,zam,a]at h;exact h
   exact[zam,a]\fX this
theorem dN{env:Env}:∀{names:List (Str×nt)} {x:Str},names.lookup x=↥.free ->
  (names.map λ(n,k)=>if (k==eD&&env.scope.kind==.function&&env.kindOf n==↥.cell)then(n,sK)else(n,k)).lookup x=↥.free \/
  (names.map λ(n,k)=>if (k==eD&&env.scope.kind==.function&&env.kindOf n==↥.cell)then(n,sK)else(n,k)).lookup x=↥.cell
 |[],_,h=>by simp at h
 | (n,k)::r,x,h=>by
  rw[zal];cases a:x==n with
  |true =>
   rw[zam,a]at h;cases h;by_cases b:(eD==eD&&env.scope.kind==.function&&env.kindOf n==↥.cell)=true
   ·simp only[b,if_true,zam,a];exact .inr trivial
   ·have c:(eD==eD&&env.scope.kind==.function&&env.kindOf n==↥.cell)=false:=⇑b
    simp only[c,zaq,if_false,zam,a];exact .inl trivial
  |false =>
   rw[zam,a]at h;by_cases b:(k==eD&&env.scope.kind==.function&&env.kindOf n==↥.cell)=true
   ·simp only[b,if_true,zam,a];exact dN h
   ·have c:(k==eD&&env.scope.kind==.function&&env.kindOf n==↥.cell)=false:=⇑b
    simp only[c,zaq,if_false,zam,a];exact dN h
def d8{names:List (Str×nt)}{x:Str}{kd:nt}(h:names.lookup x=↥kd):(x,kd)∈names:=acF h
structure lu(S:Sx)(n:Nat)(t:Tg)(caps:aR)(target:Expr)(sc:Scope):Prop where
 kind:sc.kind=.function
 EU:∀y∈sc.names,y.2≠.cell
 loc:∀y∈sc.names,y.2=.local->sc.names.lookup y.1=↥.local
 free:∀x,(x,eD)∈sc.names->S.sc.names.lookup x=↥.cell\/S.sc.names.lookup x=↥.free
 n:n=(cD target).length
 tl:∀x∈cD target,sc.names.lookup x=↥.local
 nd:(cD target++gV S caps).Nodup
 cU:∀i∈caps,∃x,S.N[i]?=↥x/\sc.names.lookup x=↥.free
 tg:(∃x p,t=.nm 0/\target=.Name x p)\/(∃es k p,t=.tp (eg es.length)/\target=.Tuple es k p/\es.all isNm=true)
protected def sC{n:Nat}{t:Tg}{sc:Scope}(h:uE S n t caps target sc=true):lu S n t caps target sc:=by
 unfold uE at h;simp only[zah,decide_eq_true_eq,zaL,zbk]at h;ext(⟨⟨⟨⟨⟨⟨C,b⟩,B⟩,v⟩,u⟩,s⟩,j⟩:h);refine⟨C,λy a=>(b y a).1.1,λy a q=>?_,λx l=>?_,B,v,u,λi r=>?_,?_⟩
 ·rcases(b y a).1.2 with z|z
  ·exact absurd q z
  ·exact z
 ·rcases(b _ l).2 with (z|z)|z
  ·exact absurd rfl z
  ·exact .inl z
  ·exact .inr z
 ·have:=s i r;split at this
  ·rename_i x e;exact⟨x,e,aag this⟩
  ·cases this
 ·cases t with
  |nm i =>
   ext(⟨d,c⟩:aC j);obtain rfl:i=0:=aag d;ext(⟨x,p,rfl⟩:oD c);exact .inl ⟨x,p,rfl,rfl⟩
  |tp is =>
   ext(⟨es,m,g⟩:bu j)(⟨k,p,rfl⟩:jU m)(⟨d,c⟩:aC g);obtain rfl:is=_:=aag d;exact .inr ⟨es,k,p,rfl,rfl,c⟩
theorem xh{S:Sx}:∀{caps:aR},(∀i∈caps,∃x,S.N[i]?=↥x)->(gV S caps).length=caps.length/\∀(j i:Nat),caps[j]?=↥i->(gV S caps)[j]?=S.N[i]?
 |[],_=>⟨rfl,λj i h=>by simp at h⟩
 |i::caps,h=>by
  ext(⟨x,b⟩:h i aam)(⟨d,c⟩:xh (caps:=caps) λj a=>h j (aap _ a));have e:gV S (i::caps)=x::gV S caps:=by unfold gV;rw[zaV,b]
  rw[e];refine⟨by simp[d],λj k a=>?_⟩;cases j with
  |zero=>simp at a;subst a;simp[b]
  |succ j=>simp at a ⊢;exact c j k a
variable {base h h' h₁:Heap}
section
variable {X:Cx}{S:Sx}{k:Nat}{Φ:aV}{pins:au}{σ:St}{H2:Hp}{s₂:ap}
meta def qM(n:Nat)(caps:aR)(σ:St):St:=cj n none++caps.map λi=>σ[i]?.getD none
meta def fB(a:aw)(n:Nat):Obj:={ cls:=.type "list",data:=.seq a.toArray n }
def K3{n:Nat}{t:Tg}{sc:Scope}{cl:List (Str×Addr)}(L:Lk X S k Φ)(p:lu S n t caps target sc)(a:Inv X pins σ H2 s₂)
  (j:∀x c,cl.lookup x=↥c->X.env.cells.lookup x=↥c) (m:∀x,(x,eD)∈sc.names->∃c,cl.lookup x=↥c) (i:∀b∈fp,qE X pins H2 b) (u:∀b∈fp,b<s₂.heap.objs.size) :
  (eT X (cD target++gV S caps) sc cl (s₂.heap.objs.size+1) s₂ H2 fp).Ok:=by
 have l:=a.kL;refine⟨a.ok.mod,p.kind,a.ok.glob,a.ok.blt,adU _,λx y c s r=>a.ok.inj x y c (j x c s) (j y c r),λx q=>?_,(λ_ _ z=>by cases z),a.ok.hd,a.ok.frames,.inl rfl,λb d=>⟨?_,λx c e=>(i b d).2.2.2.2.1 x c (j x c e)⟩,a.bs,aav a.ok.Hj a.sz,λb o e d=>?_,λb d z=>?_,a.stack,a.lN⟩
 ·have g:(relabel sc X.env).names.lookup x=↥.cell\/(relabel sc X.env).names.lookup x=↥.free:=q;ext((g|g):g)
  ·ext((z|z):fX g)
   ·exact absurd rfl (p.EU _ (d8 z))
   ·exact m x (d8 z.2)
  ·ext((z|z):fX g)
   ·exact m x (d8 z)
   ·cases z.1
 ·exact aax (abo (u b d))
 ·rcases(i b d).2.2.2.1 with z|z
  ·exact a.ok.v7 b o e z
  ·exact absurd (aao (aas e) (aav a.ok.Hj z)) (aa8 _)
 ·rcases ci.mp (l b z)with w|w
  ·exact(i b d).2.1 w
  ·exact(i b d).2.2.1 w
def FL{n:Nat}{t:Tg}{sc:Scope}{cl:List (Str×Addr)}{tk:Nat}(L:Lk X S k Φ)(d:lu S n t caps target sc)(a:Inv X pins σ H2 s₂)
  (B:∀x c,cl.lookup x=↥c->X.env.cells.lookup x=↥c) (Y:∀x,(x,eD)∈sc.names->∃c,cl.lookup x=↥c) (Km:∀b∈fp,qE X pins H2 b) (PK:∀b∈fp,b<s₂.heap.objs.size)
  (CY:h₁.Ns (s₂.heap.objs.size+1) λ_=>none) (old:∀b o,s₂.heap.get? b=↥o->h₁.get? b=↥o) (iS:h₁.get? s₂.heap.objs.size=↥(fB [] 0)) :
  Inv (eT X (cD target++gV S caps) sc cl (s₂.heap.objs.size+1) s₂ H2 fp) [(s₂.heap.objs.size,fB [] 0)] (qM n caps σ) H2 { s₂ with heap:=h₁,toks:=tk }:=by
 have mY:∀i∈caps,∃x,S.N[i]?=↥x:=λi g=>let ⟨x,e,_⟩:=d.cU i g;⟨x,e⟩;obtain⟨W,U⟩:=xh mY;refine⟨K3 L d a B Y Km PK,rfl,a.bare,Un.kept old,⟨_,CY,λi x v e1 e2 e3=>?_⟩,λx c e=>?_,a.cJ.fresh (adU _),λx c e=>a.fZ x c (B x c e),λp hp=>?_,a.cJ.kept old,?_⟩
 ·unfold qM at e2;have g:n<=i:=by
   by_cases g:i<n
   ·rw[d7 ⇑g,h9,zac g]at e2;cases e2
   ·left
  have E:(cD target++gV S caps)[i]?=↥x:=e1;rw[d6 ([-d.n]\g),<- d.n]at E;rw[d6 ⇑g,zaO,bv]at e2;cases C:caps[i - n]? with
  |none=>rw[C]at e2;cases e2
  |some s =>
   rw[C]at e2;rw[U _ _ C]at E;ext(⟨x',j,H⟩:d.cU s (aa3 C));rw[j]at E;cases E;have R:σ[s]?=↥↥v:=by
    have y:σ[s]?.getD none=↥v:=aaV e2;cases q:σ[s]? with
    |none=>rw[q]at y;cases y
    |some o=>rw[q]at y;simp at y;rw[y]
   have J:Nb X.env.scope x:=by
    unfold Nb;rw[L.sc];rcases d.free x (d8 H)with z|z
    ·exact .inr (.inl z)
    ·exact .inr (.inr z)
   ext(⟨m,hn,hl⟩:a.loc)(⟨u,r,lk⟩:hl s x v ([L.N]\j) R J);refine⟨u,r,.inr ⟨?_,?_⟩⟩
   ·ext((z|z):dN (env:=X.env) H)
    ·exact .inr z
    ·exact .inl z
   ·have O:∃c,X.env.cells.lookup x=↥c/\s₂.heap.IsCell c ↥u:=by
     ext((⟨z,_⟩|⟨_,z⟩):lk)
     ·have I:X.env.scope.names.lookup x=↥.local:=z;rw[L.sc]at I;rcases d.free x (d8 H)with w|w<;>(rw[w]at I;cases I)
     ·exact z
    ext(⟨c,ec,o,M,hd⟩:O)(⟨c',l⟩:Y x (d8 H));have:=B x c' l;rw[ec]at this;cases this;exact⟨c,l,o,old _ _ M,hd⟩
 ·ext(⟨v,o,M,hd⟩:a.cell x c (B x c e));exact⟨v,o,old _ _ M,hd⟩
 ·have Z:p=(s₂.heap.objs.size,fB [] 0):=by simpa [eT]using hp
  subst Z;refine⟨iS,a.cJ.fresh (aat _),aax (abd _),λz=>?_,λv z=>by cases z⟩;rcases ci.mp (a.kL _ z)with w|w
  ·exact absurd w (aaT a.lt)
  ·exact a.OG (aat _) w
 ·show(qM n caps σ).length=(cD target++gV S caps).length;unfold qM;rw[zaf,zaf,zaO,zaa,W,d.n]
end
open Classical in
theorem de.snoc{K:av}{G R:ag}{τ:Addr->Option bw}{fv:aR}{H H1 H2:Hp}{v:V}{d:D}{vs:ah}{ds:aa}(e1:aL H H1)(e2:aL H1 H2)(h:de K G R τ fv H H1 vs ds)(t:cz K G R τ fv H1 H2 v d):
  de K G R τ fv H H2 (vs++[v]) (ds++[d]):=by
 ext(⟨b,l,j⟩:h)(⟨a,k,i⟩:t);refine⟨λp=>if H1 p=none then(a p).map (· ++ [ds.length])else b p,λp q e=>?_,aH.snoc (j.imp (q:=[]) (q':=[]) (λ_ _ h=>aY.same e2 h) λc p xs f h=>?_) ((ybI ds.length).symm▸i.imp (q:=[]) (q':=[ds.length]) ⇑10 λc p xs f h=>?_)⟩
 ·replace e:(if H1 p=none then(a p).map (· ++ [ds.length])else b p)=↥q:=e;by_cases g:H1 p=none
  ·exact e1.free g
  ·rw[zab g]at e;exact l p q e
 ·ext(h':nd.same e2 h);cases f with
  |ow =>
   refine⟨h'.1,?_⟩;show(if H1 p=none then(a p).map (· ++ [ds.length])else b p)=_;exact[zab (h.1.ne)]\h.2
  |fz=>exact h'
  |al=>exact h'
  |sc=>exact h'
 ·cases f with
  |ow =>
   refine⟨h.1,?_⟩;show(if H1 p=none then(a p).map (· ++ [ds.length])else b p)=_;rw[zac (k p _ h.2),h.2];simp
  |fz=>exact h
  |al=>exact h
  |sc=>exact h
structure Yl(K:av)(J:It)(R:ag)(H1:Hp)(items:aa):Prop where
 go:∀i H',aL H1 H'->i<items.length->J.go i H'
 zd:∀i H' x kI,aL H1 H'->i<items.length->J.zd i H' x kI->aL H' kI/\∃d,items[i]?=↥d/\Rep (aY K kI) (nd K R ⇑7 ⇑8 kI) [] x d
 stop:∀i H',aL H1 H'->items.length<=i->J.stop i H'
variable {C i1 i2 l1 l2:Addr}{s₂:ap}
section
variable {X:Cx}{S:Sx}{k:Nat}{F:ag}{Φ:aV}
def lQ(X:Cx)(F:ag)(τ:Addr->Option bw)(fv:aR)(H2:Hp)(p:Addr):Prop:=H2 p≠none/\lg (gP X F) τ fv p
def x3{R:ag}{H:Hp}(a:SI X F R τ ρ σ H)(b:∀p q,τt p=↥q->H p=none)(hs:∀i∈fv,i∈fv')(g d:bw)(p:Addr)(xs:Nd)(f:Fl)
  (h:nd X.K R (lg (gP X F) τ fv) τt H2 g p xs f):nd X.K (lQ X F τ fv' H2) ⇑7 ⇑8 H2 d p xs (aK f):=by
 cases f with
 |ow=>exact⟨h.1,h.1.ne,.inr (a.same.free (b p _ h.2)),λc i e=>absurd (b p _ h.2) (a.th p _ e)⟩
 |fz=>exact⟨h.1,h.1.ne,a.rf p h.2,λc i e=>by rw[a.rt p h.2]at e;cases e⟩
 |al=>exact⟨h.1,h.1.ne,h.2.mono hs⟩
 |sc=>exact h
def Dd{S:Hp->Addr->ah->Prop}{a:Addr}{R:ag}{q:bw}(go:∀{H'},aL H1 H'->S H' a xs)(rs:aH (aY X.K H1) (nd X.K R ⇑7 ⇑8 H1) q 0 xs items):Yl X.K (Su S a) R H1 items where
 go:=λi H' e b=>⟨xs,xs[i]'([rs.length]\b),go e,aaE _⟩
 zd:=λi H' x j e b y=>by
  ext(⟨rfl,y⟩:y)(⟨d,hd,c⟩:rs.Gh (y xs (go e)));refine⟨aL.refl _,d,hd,?_⟩;have:=Rep.jz (g:=id) ⇑10 nd.sg c [];rw[eX]at this;exact this.imp (λ_ _ h=>aY.same e h) λ_ _ _ _ h=>nd.same e h
 stop:=λi H' e b=>⟨xs,go e,[rs.length]\b⟩
def De{lo:Int}{n:Nat}{R:ag}:Yl X.K (CP lo n) R H1 ((eg n).map λ(k:Nat)=>D.int (lo+(k:Int))) where
 go:=λi H' e a=>by simpa [CP]using a
 zd:=λi H' x c e a y=>by
  ext(⟨rfl,rfl⟩:y);have b:i<n:=⇑a
  exact⟨aL.refl _,.int (lo+i),by rw[bv,u6 b];rfl,.int _⟩
 stop:=λi H' e a=>by simpa [CP]using a
def DS{n:Nat}{t:Tg}{sc:Scope}{cl:List (Str×Addr)}{R:ag}(m:SI X F R τ ρ σ H2)(hs:∀i∈caps,i∈fv):
  SI (eT X (cD target++gV S caps) sc cl C s₂ H2 fp) (lg (gP X F) τ fv) (lQ X F τ fv H2) ⇑8 (bK n caps ρ) (qM n caps σ) H2:=by
 refine⟨by simp[bK,qM],λi d a=>?_,λ_ _=>rfl,λp h=>h.1,λp h=>.inl h.2,λ_ _ h=>by simp at h,λ_ _ h=>by simp at h,aL.refl _⟩;unfold bK at a;have j:n<=i:=by
  by_cases j:i<n
  ·rw[d7 ⇑j,h9,zac j]at a;cases a
  ·left
 rw[d6 ⇑j,zaO,bv]at a;cases l:caps[i - n]? with
 |none=>rw[l]at a;exact nk a
 |some b =>
  rw[l]at a;have g:(ρ[b]?.getD none).map (aI aK)=↥d:=aaV a;have u:∃d0,ρ[b]?=↥↥d0/\aI aK d0=d:=by
   cases q:ρ[b]? with
   |none=>rw[q]at g;cases g
   |some o =>
    cases o with
    |none=>rw[q]at g;cases g
    |some d0=>rw[q]at g;exact⟨d0,rfl,aaV g⟩
  ext(⟨d0,y,rfl⟩:u)(⟨v,s,r⟩:m.rep b d0 y);refine⟨v,?_,Rep.jz ⇑10 (λB z p xs f h=>?_) ((r.imp (q:=[b]) (q':=[b]) (N':=λq p xs f=>nd X.K R ⇑7 τ H2 q p xs f/\(f=.ow->∃c,q=c++[b])) ⇑10 λc p xs f h=>⟨h,λ_=>⟨c,rfl⟩⟩)) [i]⟩
  ·unfold qM;rw[d6 ⇑j,zaO,bv,l];simp[s]
  ·ext(⟨h,x⟩:h);cases f with
   |ow =>
    ext(⟨c,rfl⟩:x rfl);refine⟨h.1,h.1.ne,.inr (m.t0 p _ h.2),λc' E e=>?_⟩;rw[h.2]at e;have:=aa2 p0 (aaV e);simp at this;subst this;exact hs _ (aa3 l)
   |fz=>exact⟨h.1,h.1.ne,m.rf p h.2,λc i e=>by rw[m.rt p h.2]at e;cases e⟩
   |al=>exact h.2.elim
   |sc=>exact h
theorem EX:∀{es:aj},es.all isNm=true->∃xs:List (Str×Pos),es=xs.map λx=>ml x.1 x.2
 |[],_=>⟨[],rfl⟩
 |e::es,h=>by
  rw[zas,zah]at h;ext(⟨xs,rfl⟩:EX h.2)(⟨x,p,rfl⟩:oD h.1);exact⟨(x,p)::xs,rfl⟩
def xT(xs:List (Str×Pos)):(xs.map λx=>ml x.1 x.2).filterMap (λe=>match e with|.Name x _=>↥x|_=>none)=xs.map (·.1):=by
 induction xs with
 |nil=>rfl
 |cons x xs a=>simp[a]
def Gj(i:Nat):Nat->HX
 |0=>Qc
 |n+1=>Gk (p7 i) (Gj (i+1) n)
theorem zV{X:Cx}(a:X.N.Nodup):∀(xs:List (Str×Pos)) (i:Nat),(∀(j:Nat) x,xs[j]?=↥x->X.N[i+j]?=↥x.1/\X.env.scope.names.lookup x.1=↥.local) ->
  RC X (xs.map λx=>ml x.1 x.2) (Gj i xs.length)/\(hO (xs.map λx=>ml x.1 x.2) X.env).length=xs.length/\(hO (xs.map λx=>ml x.1 x.2) X.env).findIdx? (·.1)=none
 |[],_,_=>⟨zU,rfl,rfl⟩
 |x::xs,i,h=>by
  obtain⟨g,e,d⟩:=zV a xs (i+1) λj y c=>by
   have:=h (j+1) y ⇑c
   rwa [show i+(j+1)=i+1+j by left]at this
  ext(⟨l,b⟩:h 0 x rfl);refine⟨vT (tN a l (.inl b) (.inr b)) g rfl,?_,?_⟩
  ·show(_::hO _ X.env).length=_;rw[zae,e];rfl
  ·show(((false,zn (.Name x.1 x.2) X.env)::hO (xs.map λx=>ml x.1 x.2) X.env)).findIdx? (·.1)=none;rw[Sk];simp[d]
end
section
variable {X:Cx}{F R:ag}{τ:Addr->Option bw}{ρ:aS}{σ σ':St}{H:Hp}
def SI.TB{i:Nat}{v:V}{d:D}(a:SI X F R τ ρ σ H)(k:Rep (aY X.K H) (nd X.K R ⇑7 ⇑8 H) [] v d)(g:i<ρ.length):SI X F R τ (ρ.set i ↥d) (σ.set i ↥v) H:=by
 refine⟨by simp[a.len],λj d' b=>?_,a.rt,a.rh,a.rf,a.th,a.t0,a.same⟩;by_cases e:j=i
 ·subst e;rw[eo g]at b;cases b;refine⟨v,acf ([-a.len]\g),k.imp (q':=[j]) ⇑10 λc p xs f h=>?_⟩;cases f with
  |ow=>exact nomatch h.2
  |fz=>exact h
  |al=>exact h
  |sc=>exact h
 ·rw[ce (ja e)]at b;ext(⟨w,hw,l⟩:a.rep j d' b);exact⟨w,[ce (ja e)]\hw,l⟩
def SI.sig(a:SI X F R τ ρ σ H)(c:σ'.length=σ.length)(h:∀(i:Nat) d,ρ[i]?=↥↥d->σ'[i]?=σ[i]?):SI X F R τ ρ σ' H :=
 ⟨[c]\a.len,λi d b=>let ⟨v,hv,r⟩:=a.rep i d b;⟨v,[h i d b]\hv,r⟩,a.rt,a.rh,a.rf,a.th,a.t0,a.same⟩
set_option tactic.hygienic true in
theorem pf{Q:St->Hp->Prop}(a:St)(b:Nat):∀{m i:Nat} {vs:ah} {ds:aa} {c:bw} {q:Nat} {σ:St} {ρ ρ':aS},i+m=b->aH (aY X.K H) (nd X.K R ⇑7 ⇑8 H) c q vs ds->SI X F R τ ρ σ H->dH (pp i m) ds ρ=ok ρ' ->
  σ.length=a.length->(∀j,b<=j->σ[j]?=a[j]?)->(∀σ',σ'.length=a.length->(∀j,b<=j->σ'[j]?=a[j]?)->SI X F R τ ρ' σ' H->Q σ' H)->Gj i m vs σ H Q
 |0,_,_,_,_,_,σ,_,_,_,.nil,Si,e,h1,h2,hq=>by
  cases e;exact⟨rfl,hq σ h1 h2 Si⟩
 |0,_,_,_,_,_,_,_,_,_,.cons _ _,_,e,_,_,_=>by cases e
 |m+1,_,_,_,_,_,_,_,_,_,.nil,_,e,_,_,_=>by cases e
 |m+1,i,_,_,_,_,σ,ρ,_,him,.cons (v:=v) (d:=d) h t,Si,e,h1,h2,hq=>by
  change (if _ then _ else _)=_ at e;split at e
  ·rename_i k;ext(l:Si.TB (i:=i) (Rep.mV h) k);refine⟨_,_,rfl,pf a b ⋯ t l e ⇑h1 (λj g=>?_) hq⟩;exact[ce ⋯]\h2 j g
  ·cases e
end
section
variable {X:Cx}{S:Sx}{k:Nat}{F:ag}{Φ:aV}
protected def NC{n:Nat}{t:Tg}{sc:Scope}{cl:List (Str×Addr)}(Vy:X.calm=true)(q:lu S n t caps target sc):
  ∃g,PG (eT X (cD target++gV S caps) sc cl C s₂ H2 fp) target g/\∀(z R':ag) (x:V) (d:D) (b:St) (m:Hp) (Q:St->Hp->Prop) (c ρ1:aS),
   SI (eT X (cD target++gV S caps) sc cl C s₂ H2 fp) z R' ⇑8 c b m->Rep (aY X.K m) (nd X.K R' ⇑7 ⇑8 m) [] x d->aW cy d=false->cw t d c=ok ρ1 ->
   (∀l,l.length=b.length->(∀j,n<=j->l[j]?=b[j]?)->SI (eT X (cD target++gV S caps) sc cl C s₂ H2 fp) z R' ⇑8 ρ1 l m->Q l m)->g x b m Q:=by
 have J:∀x∈cD target,(relabel sc X.env).names.lookup x=↥.local:=λx W=>lookup_relabel_local (q.tl x W);ext((⟨x,p,rfl,rfl⟩|⟨es,r,p,rfl,rfl,R⟩):q.tg)
 ·have M:n=1:=q.n;subst M;refine⟨p7 0,tN q.nd rfl (.inl (J x (am.mpr rfl:x∈[x]))) (.inr (J x (am.mpr rfl:x∈[x]))),λz R' v d b m Q c ρ1 I B _ e E=>?_⟩;simp only[cw]at e;split at e
  ·rename_i Z;cases e;refine E _ ⇑5 (λj u=>?_) (I.TB B Z);rw[ce ⋯]
  ·cases e
 ·ext(⟨xs,rfl⟩:EX R);have H:cD (.Tuple (xs.map λx=>ml x.1 x.2) r p)=xs.map (·.1):=xT xs;have M:n=xs.length:=by rw[q.n,H,zaa]
  have:=zV (X:=eT X (cD (.Tuple (xs.map λx=>ml x.1 x.2) r p)++gV S caps) sc cl C s₂ H2 fp) q.nd xs 0 (λj y s=>by
   refine⟨?_,J y.1 ([H]\dz.mpr ⟨y,aa3 s,rfl⟩)⟩;show(cD (.Tuple (xs.map λx=>ml x.1 x.2) r p)++gV S caps)[0+j]?=_;have u:j<xs.length:=by
    by_cases u:j<xs.length
    ·exact u
    ·rw[dV ⋯]at s;cases s
   rw[H,zaD,d7 ⇑u,bv,s];rfl)
  ext(⟨h1,h2,h3⟩:this);refine⟨_,Et Vy h1 h2 h3,λz R' v d b m Q c ρ1 I B ho e E=>?_⟩;cases d<;>try (simp[cw]at e;done)
  rename_i ds;simp only[cw]at e;split at e
  ·cases e
  ·cases B with
   | @tup _ a ys _ Y L =>
    rw[zaa]at e;have O:dH (pp 0 xs.length) ds c=ok ρ1:=[-zbr]\e
    refine⟨a,ys,rfl,Y,?_,pf (X:=eT X (cD (.Tuple (xs.map λx=>ml x.1 x.2) r p)++gV S caps) sc cl C s₂ H2 fp) b n ⋯ L I O rfl (λ_ _=>rfl) E⟩;rw[L.length];have:∀(is:aR) (ds:aa) (ρ ρ':aS),dH is ds ρ=ok ρ'->ds.length=is.length:=by
     intro is;induction is with
     |nil=>intro ds ρ ρ' e;cases ds with|nil=>rfl|cons _ _=>cases e
     |cons i is U=>intro ds ρ ρ' e;cases ds with
      |nil=>cases e
      |cons d ds =>
       change (if _ then _ else _)=_ at e;split at e
       ·simp[U ds _ _ e]
       ·cases e
    rw[this _ _ _ _ O,List.length_range']
def owF:∀f:Fl,cy (aK f)=false:=by intro f;cases f<;>rfl
mutual
theorem JH:∀d:D,aW cy (aI aK d)=false
 |.b0=>by simp[aI,aW]
 |.bl _=>by simp[aI,aW]
 |.int _=>by simp[aI,aW]
 |.str _=>by simp[aI,aW]
 |.tup ds=>by simp[aI,aW,ic ds]
 |.lst f ds=>by simp[aI,aW,ic ds,owF]
 |.cF f a vs=>by simp[aI,aW,ic vs,owF]
theorem ic:∀ds:aa,aQ cy (ak aK ds)=false
 |[]=>by simp[ak,aQ]
 |d::ds=>by simp[ak,aQ,JH d,ic ds]
end
def Ah{H:Hp}{a:Addr}{o:HO}(x:kj H h)(hn:H a=none)(new:cQ (upd H a o) h a o):kj (upd H a o) h:=λb u e=>by
 by_cases c:b=a
 ·subst c;rw[aU]at e;cases e;exact new
 ·rw[bt c]at e;exact(x b u e).lO λ_ q=>q
structure CAt(X X':Cx)(F' R':ag)(n:Nat)(base:aS)(σ0:St)(fp:aX)(tn:Nat->Heap->Prop)(H2:Hp)(D:Addr)(items:List DI.D)(bind:DI.D->O aS)(test:aS->O Bool)(el:aS->O DI.D)(all:List DI.D)(m:Nat)(s':ap):Prop where
 ex:∃(i:Nat) (vs:ah) (aO:aw) (nn:Nat) (σ':St) (H':Hp) (dn rest:List DI.D),m=items.length - i/\i<=items.length/\Inv X' [(D,fB aO nn)] σ' H' s'/\tn i s'.heap/\(∀b∈fp,H' b=none)/\Vals vs aO/\aL H2 H' /\
  SI X' F' R' ⇑8 base σ' H'/\de X.K (gP X' F') R' ⇑8 [] H2 H' vs dn/\jk bind test el (items.drop i)=ok rest/\dn++rest=all
end
def de.go{R:Addr->Prop}{H:Hp}(h:de K G R τ fv H H1 vs ds)(e:aL H1 H2):de K G R τ fv H H2 vs ds :=
 let ⟨τt,h1,h2⟩:=h;⟨τt,h1,h2.imp (λ_ _ h=>aY.same e h) λ_ _ _ _ h=>nd.same e h⟩
theorem pG:∀{ds:aa} {d:D},aQ cy ds=false->d∈ds->aW cy d=false
 |[],_,_,h=>nomatch h
 |e::ds,d,h,hm=>by
  rw[aQ,tv]at h;ext((rfl|z):ci.mp hm)
  ·exact h.1
  ·exact pG h.2 z
def By{d:D}(h:xZ d=ok items):∀d∈items,aW cy d=false:=by
 unfold xZ at h;split at h
 ·cases h;exact λd hd=>pG (ic _) hd
 ·cases h
def yk{a:IK}{xs:aa}(h:eQ Φ a xs=ok items):∀d∈items,aW cy d=false:=by
 cases a with
 |cM p=>ext(⟨d,_,h⟩:aJ h);exact By h
 |nC =>
  cases xs with
  |nil=>cases h
  |cons x t=>cases x<;>first | (cases h;done) | (cases t with
   |cons _ _=>cases h
   |nil =>
    ext(⟨_,h⟩:rX h);subst h;intro d hd;ext(⟨k,_,rfl⟩:dz.mp hd);rfl)
 |mM =>
  cases xs with
  |nil=>cases h
  |cons x t=>cases x<;>first | (cases h;done) | (cases t with
   |nil=>cases h
   |cons y u=>cases y<;>first | (cases h;done) | (cases u with
    |cons _ _=>cases h
    |nil =>
     ext(⟨_,h⟩:rX h);subst h;intro d hd;ext(⟨k,_,rfl⟩:dz.mp hd);rfl))
 |seq =>
  cases xs with
  |nil=>cases h
  |cons x t=>cases x<;>first | (cases h;done) | (cases t with
   |cons _ _=>cases h
   |nil=>cases h;exact λd hd=>pG (ic _) hd)
def yp{n:Nat}{i:Nat}{d:D}(h:(bK n caps ρ)[i]?=↥↥d):n<=i:=by
 unfold bK at h;by_cases a:i<n
 ·rw[d7 ⇑a,h9,zac a]at h;cases h
 ·left
section
variable {X:Cx}{S:Sx}{k:Nat}{F:ag}{Φ:aV}
def Fp{n:Nat}{t:Tg}{sc:Scope}{cl:List (Str×Addr)}(L:Lk X S k Φ)(a:lu S n t caps target sc):
  Lk (eT X (cD target++gV S caps) sc cl C s₂ H2 fp) (S.inner target caps sc) k Φ:=by
 refine⟨?_,rfl,a.nd,L.calm,L.room,L.bl,λf x h=>⟨(L.fn f x h).ex⟩,L.cs,L.pr⟩;show relabel sc X.env=vN sc S.sc;rw[<- L.sc];rfl
def wY(L:Lk X S k Φ){n:Nat}{t:Tg}{ik:IK}{ifs:aj}{sc:Scope}(co:lu S n t caps target sc)(CY:rR iter=true)
    (hE:∀(B:Cx) (F':ag),Lk B (S.inner target caps sc) k Φ->PE B ku (tD B F' Φ elt))
    (hC:(bU=[]/\ifs=[])\/∃c e,bU=[c]/\ifs=[e]/\∀(B:Cx) (F':ag),Lk B (S.inner target caps sc) k Φ->PT B e (jW B F' Φ c))
    (hI:∀(pins:au) (s:ap) (σ:St) (H:Hp) (R:ag) (τ:Addr->Option bw) (ρ:aS) (xs items:aa),Inv X pins σ H s->SI X F R τ ρ σ H->bY Φ es ρ=ok xs->eQ Φ ik xs=ok items->∀Rr:It->Hp->Prop,
      (∀J H2,aL H H2->Yl X.K J (lQ X F τ (caps++eE es) H2) H2 items->Rr J H2)->⇑0 (eval iter X.env) (λv W=>⇑0 (re v) (HY X pins σ target Rr) X.xe W) X.xe s)
    {use:Option (Value->Sem Unit)} {Post:aB} {pins:au} {s:ap} {H:Hp} {R:ag} {d:D} {abI:Pos} (I:Inv X pins σ H s) (Si:SI X F R τ ρ σ H) (ev:aZ Φ (.comp n t caps ik es bU elt) ρ=ok d)
    (Va:∀(acc C:Addr) (H1:Hp) (W:ap) (m:aT),W.heap.Ns C m->(C≠X.env.locals/\X.s₀.heap.objs.size<=C/\(∀x c,X.env.cells.lookup x=↥c->c≠C)/\(∀p∈X.pn++pins,p.1≠C)/\H1 C=none)->(∀h',i6 C W.heap h'->Inv X pins σ H1 { W with heap:=h' })->aL H H1 ->
      cz X.K (gP X F) R τ (gJ (.comp n t caps ik es bU elt)) H H1 (.ref acc) d->compPost (model X.prog X.w) X.A X.xe use Post (.ref acc) C (.ok .next) W) :
    ⇑0 (comprehension (.ListComp ku [⟨target,iter,ifs,0⟩] sc pos) sc X.env abI (newList []) false (eval iter X.env) use) Post X.xe s:=by
  ext(⟨xs,dK,ev⟩:aJ ev)(⟨items,oK,ev⟩:aJ ev)(⟨ds,QT,ev⟩:aJ ev);simp only[MB]at ev;ext(⟨mY,rfl⟩:ev)(Vh:yk oK);obtain⟨cl,Vw,n8,yv⟩:=yL (env:=X.env) (sc:=sc) (λx hx=>I.ok.has x (by
    show X.env.scope.names.lookup x=↥.cell\/X.env.scope.names.lookup x=↥.free;rw[L.sc];exact co.free x hx))
  have jE:∀x,m8 iter X.env x=pure x:=by intro x;cases iter<;>first|rfl | (cases CY;done)
  refine wpAny_comprehension_free (use:=use) rfl jE Vw co.kind co.loc (aa1 (hI pins s σ H R τ ρ xs items I Si dK oK (λJ H2=>aL H H2/\Yl X.K J (lQ X F τ (caps++eE es) H2) H2 items) (λJ H2 e y=>⟨e,y⟩)) (λxv s₁ h₁=>aa1 h₁ (λZ_ s₂ h₂=>?_) λ_ _ e=>e) λ_ _ e=>e);ext(⟨it,fp,tn,J,H2,rfl,I2,T,jX,f2,e2,yl⟩:h₂)(sO:Si.go e2);have PK:∀b∈fp,b<s₂.heap.objs.size:=λb l=>let ⟨o,ho,_⟩:=T.obj 0 _ jX b l;aas ho;refine abH (wpAny_newFunctionEnv co.EU (by intro y hy;simp at hy) (λh₁ ue pU=>?_) co.kind);dsimp only at ue pU ⊢;generalize hG2:s₂.heap.push { cls:=.type "list",dict:=none,data:=.seq ([]:aw).toArray }=G2 at ue pU ⊢;have hGC:G2.objs.size=s₂.heap.objs.size+1:=by rw[<- hG2,uo]
  have X8:s₂.heap.objs.size≠s₂.heap.objs.size+1:=aax (abd _);rw[hGC]at ue pU;have old:∀b o,s₂.heap.get? b=↥o->h₁.get? b=↥o:=λb o e=>pU.extBut b o (aax (abo (aas e))) (aaq _ (hG2▸aaq _ e));have iS:h₁.get? s₂.heap.objs.size=↥(fB [] 0):=pU.extBut _ _ X8 (aaq _ (hG2▸aaC _ rfl))
  let B:=eT X (cD target++gV S caps) sc cl (s₂.heap.objs.size+1) s₂ H2 fp
  let F':=lg (gP X F) τ (caps++eE es)
  let R':=lQ X F τ (caps++eE es) H2
  have L':Lk B (S.inner target caps sc) k Φ:=Fp L co;ext(I4:λtk=>FL (h₁:=h₁) (tk:=tk) L co I2 n8 yv f2 PK ⇑ue old iS);have S4:SI B F' R' ⇑8 (bK n caps ρ) (qM n caps σ) H2:=DS (t:=t) sO (λi hi=>by simp[hi]);ext(⟨g,hg,ui⟩:NC (X:=X) (S:=S) (cl:=cl) (fp:=fp) (s₂:=s₂) (H2:=H2) (C:=s₂.heap.objs.size+1) L.calm co);have abj:s₂.heap.objs.size∉B.fs:=λz=>by
    rcases ci.mp (I2.kL _ z)with w|w
    · exact absurd w (aaT I2.lt)
    · exact I2.OG (aat _) w
  have PL:∀x c,cl.lookup x=↥c->c≠s₂.heap.objs.size:=λx c e=>by
    ext(⟨v,q⟩:I2.cell x c (n8 x c e));exact aax q.lt
  have Kl:∀b∈fp,b≠B.env.locals/\b∉B.fs/\(b∈B.ex\/B.s₀.heap.objs.size<=b)/\(∀x c,B.env.cells.lookup x=↥c->c≠b):=λb l =>
    ⟨aax (abo (PK b l)),λz=>by
      rcases ci.mp (I2.kL b z)with w|w
      · exact(f2 b l).2.1 w
      · exact(f2 b l).2.2.1 w,.inl l,λx c e=>(f2 b l).2.2.2.2.1 x c (n8 x c e)⟩
  have Vp:∀b∈fp,b≠s₂.heap.objs.size:=λb l=>aax (PK b l);have fin:∀(vs:ah) (O:aw) (nn:Nat) (M:St) (H':Hp) (W:ap),Inv B [(s₂.heap.objs.size,fB O nn)] M H' W->Vals vs O->aL H2 H'->de X.K (gP B F') R' ⇑8 [] H2 H' vs ds ->
      compPost (model X.prog X.w) X.A X.xe use Post (.ref s₂.heap.objs.size) (s₂.heap.objs.size+1) (.ok .next) W:=by
    intro vs O nn M H' W I1 rv sm Jf;ext(⟨m,hn,_⟩:I1.loc)(⟨pD,nD,_,_,_⟩:I1.pin (s₂.heap.objs.size,fB O nn) (aay _ aam));have bs:=I1.base;have Mw:∀b o,s₂.heap.get? b=↥o->b≠s₂.heap.objs.size+1:=λb o e=>aax (abo (aas e));have neD:∀b o,s₂.heap.get? b=↥o->b≠s₂.heap.objs.size:=λb o e=>aax (aas e);have upK:∀b u,H' b=↥u->upd H' s₂.heap.objs.size (.lst vs) b=↥u:=λb u e=>[bt (dX e nD)]\e
    have hlen:vs.length<=sizeLine:=by
      ext(⟨_,_,rr⟩:Jf);have hz:sizeLine=16777216:=acI;have hc:cU=1000000:=rfl;rw[rr.length];left
    have IX:∀h',i6 (s₂.heap.objs.size+1) W.heap h'->Inv X pins σ (upd H' s₂.heap.objs.size (.lst vs)) { W with heap:=h' }:=λh' xx=>by
      have un:Un (m6 X.stack) fp H2 (upd H' s₂.heap.objs.size (.lst vs)) s₂.heap h' :=
        ⟨λb o e n l hx=>xx.extBut b o (Mw b o e) (bs.keep b o e n l hx),
         λb o e n l hx=>let ⟨sl,q⟩:=bs.slot b o e n l hx;⟨sl,xx.extBut b _ (Mw b o e) q⟩,
         λb o e n hx=>[bt (neD b o e)]\bs.free b o e n hx,
         λb o e hx=>let ⟨o',q⟩:=bs.there b o e hx;⟨o',xx.extBut b _ (Mw b o e) q⟩,
         λb xs e=>upK b _ (bs.nP b xs e),λb o u e=>upK b _ (bs.m5 b o u e)⟩
      have aaJ:kj H' h':=λa o e=>(I1.cJ a o e).lO λu q=>xx.extBut a u (by
        rintro rfl;have hf:H' (s₂.heap.objs.size+1)=none:=I1.free;rw[hf]at e;cases e) q
      have aaI:kj (upd H' s₂.heap.objs.size (.lst vs)) h':=Ah aaJ nD ⟨hlen,O,nn,rv,xx.extBut _ _ X8 pD⟩;exact I2.AZ (ch:=fp) I1.os un aaI I1.bare λb l=>⟨(f2 b l).2.2.2.1,(f2 b l).2.1,(f2 b l).2.2.2.2.1,(f2 b l).2.2.2.2.2⟩
    have eS:aL H' (upd H' s₂.heap.objs.size (.lst vs)):=aL.upd nD;ext(⟨τt,fr,rs⟩:Jf);have ZV:s₂.heap.objs.size+1≠s₂.heap.objs.size:=Nat.succ_ne_self _;refine Va s₂.heap.objs.size (s₂.heap.objs.size+1) _ W m hn ⟨aaT (abo I2.lt),ac7 I2.sz,λx c e=>?_,λp hp=>?_,?_⟩ IX ((e2.trans sm).trans eS) ⟨λq=>if q=s₂.heap.objs.size then ↥[] else τt q,λq z hz=>?_,.lst ⟨aU,by simp⟩ (aH.map (q:=[]) (q':=[]) (λ_ _ h=>aY.same eS h) (λc p ys f h=>?_) rs [] rfl)⟩
    · ext(⟨v,z⟩:I2.cell x c e)
      exact aax (abo z.lt)
    · exact aax (abo (aas (I2.pin p hp).1))
    · exact[bt ZV]\I1.free
    · by_cases yr:q=s₂.heap.objs.size
      · exact[yr]\e2.free (sm.free nD)
      · simp only[yr,if_false]at hz;exact e2.free (fr q z hz)
    · ext(h':nd.same eS h)
      have acm:∀p,gP B F' p->lg (gP X F) τ (caps++eE es) p:=λp hp=>hp.elim id λz=>⟨.inr (sO.same.free z),λc i e=>absurd z (sO.th p _ e)⟩
      cases f with
      |ow =>
        have yr:p≠s₂.heap.objs.size:=by
          intro z;subst z;exact h.1.ne nD
        refine⟨h'.1,?_⟩;show(if p=s₂.heap.objs.size then ↥[] else τt p)=_;exact[zab yr]\h'.2
      |fz=>exact⟨h'.1,h'.2.2⟩
      |al=>exact⟨h'.1,acm p h'.2.1⟩
      |sc=>exact h'
  have tst:∀(P:au) (ρ1:aS) (b:Bool) (E:St) (H5:Hp) (s6:ap),ji Φ bU ρ1=ok b->Inv B P E H5 s6->SI B F' R' ⇑8 ρ1 E H5 ->
      ⇑0 (forIn ifs true λc r=>if r=true then do let ok <- PB c B.env (eval c B.env);pure (lm ok)else pure (lm r)) (λZP s7=>ZP=b/\∃H7,Inv B P E H7 s7/\aL H5 H7) (λ_ _=>False) s6:=by
    intro P ρ1 b E H5 s6 eb I6 S6;ext((⟨rfl,rfl⟩|⟨c,e,rfl,rfl,hPT⟩):hC)
    · rw[ji]at eb;cases eb
      exact wpAny_tests_nil ⟨rfl,H5,I6,aL.refl _⟩
    · rw[ji]at eb
      ext(⟨b',eb',eb⟩:aJ eb);have l:b'=b:=by
        cases b' with
        |true=>rw[zac rfl,ji]at eb;cases eb;rfl
        |false=>rw[zab ⇑5]at eb;cases eb;rfl
      subst l;refine wpAny_tests_one (aa1 (hPT B F' L' P s6 E H5 (λb'' H7=>b''=b'/\aL H5 H7) I6 ⟨R',_,ρ1,b',S6,eb',λH7 e7=>⟨rfl,e7⟩⟩) (λb'' s7 ⟨H7,I7,l,e7⟩=>⟨l,H7,I7,e7⟩) λ_ _ e=>e)
  have loop:∀tk,qS (model X.prog X.w) X.A (.compLoop (.ListComp ku [⟨target,iter,ifs,0⟩] sc pos) 0 (.ref it) (.ref s₂.heap.objs.size) B.env)
      (compPost (model X.prog X.w) X.A X.xe use Post (.ref s₂.heap.objs.size) (s₂.heap.objs.size+1)) { s₂ with heap:=h₁,toks:=tk }:=by
    intro tk;refine uA (CAt X B F' R' n (bK n caps ρ) (qM n caps σ) fp tn H2 s₂.heap.objs.size items (λd=>cw t d (bK n caps ρ)) (λρ'=>ji Φ bU ρ') (λρ'=>aZ Φ elt ρ') ds) ?_ items.length
      ⟨0,[],[],0,qM n caps σ,H2,[],ds,rfl,aa6 _,I4 tk,T.keep _ _ _ jX (λb _ o e=>old b o e),λb l=>(f2 b l).1,.nil,aL.refl _,S4,.nil,[zaT]\QT,rfl⟩
    rintro m s' ⟨i,vs,O,nn,M,H',dn,rest,hm,hi,I',bj,fr',rv,sm,eH,Jf,Y,U⟩;have Qh:∀b∈fp,qE B [(s₂.heap.objs.size,fB O nn)] H' b:=λb l=>⟨fr' b l,(Kl b l).1,(Kl b l).2.1,(Kl b l).2.2.1,(Kl b l).2.2.2,λp hp=>by
      have uZ:p=(s₂.heap.objs.size,fB O nn):=by simpa [B,eT]using hp
      rw[uZ];exact(Vp b l).symm⟩
    by_cases dm:i<items.length
    · refine aa1 (T.item B rfl rfl rfl L.calm i _ s' M H' (λ_ _=>False) I' Qh bj (yl.go i H' sm dm)) (λr W h4=>?_) λ_ _ e=>e
      ext(⟨u,hr,h4⟩:h4);subst hr;refine aa1 h4 (λ_ s5 h5=>?_) λ_ _ e=>e;ext(⟨x,H5,I5,r5,y5,LW,fr5⟩:h5)(⟨e5,dd,hd,rd⟩:yl.zd i H' x H5 sm dm y5)(I5':I5.pinned (fp:=fp) (λb l=>⟨fr5 b l,(Qh b l).2⟩) (T.obj _ _ LW));have pV:items.drop i=dd::items.drop (i+1):=by
        rw[zax dm];rw[cb dm]at hd;cases hd;rfl
      rw[pV,jk]at Y;ext(⟨ρ1,eb,Y⟩:aJ Y)(⟨bb,et,Y⟩:aJ Y);refine aa1 (hg _ s5 M H5 x u (λE H6=>H6=H5/\E.length=M.length/\(∀j,n<=j->E[j]?=M[j]?)/\SI B F' R' ⇑8 ρ1 E H5) I5' r5
        (ui F' R' x dd M H5 _ (bK n caps ρ) ρ1 (eH.go e5) rd (Vh dd (aa3 hd)) eb λE g1 g2 g3=>⟨rfl,g1,g2,g3⟩)) (λ_ s6 h6=>?_) λ_ _ e=>e
      ext(⟨E,H6,I6,rfl,g1,g2,S6⟩:h6);refine aa1 (tst _ ρ1 bb E H6 s6 et I6 S6) (λZP s7 h7=>?_) λ_ _ e=>e;ext(⟨rfl,H7,I7,e7⟩:h7);have YR:∀{P:au} {σ3:St} {Z:Hp} {s8:ap},Inv B (P++jx fp s5.heap) σ3 Z s8->tn (i+1) s8.heap/\∀b∈fp,Z b=none:=λ{P σ3 Z s8} I8 =>
        ⟨T.keep _ _ _ LW λb l o e=>(I8.pin (b,o) (aay _ (aay _ (iP l e)))).1,λb l=>by
          ext(⟨o,e,_⟩:T.obj _ _ LW b l);exact(I8.pin (b,o) (aay _ (aay _ (iP l e)))).2.1⟩
      have M6:∀{Z:Hp},aL H7 Z->SI B F' R' ⇑8 (bK n caps ρ) E Z:=λ{Z} e8=>(eH.go ((e5.trans e7).trans e8)).sig g1 λj d hj=>g2 j (yp hj);cases ZP with
      |false =>
        rw[zab ⇑5]at Y ⊢;exact⟨items.length - (i+1),by left,i+1,vs,O,nn,E,H7,dn,rest,rfl,dm,I7.lJ,(YR I7).1,(YR I7).2,rv,(sm.trans e5).trans e7,M6 (aL.refl _),Jf.go (e5.trans e7),Y,U⟩
      |true =>
        rw[zac rfl]at Y ⊢;ext(⟨y,ey,Y⟩:aJ Y)(⟨ys,Gs,Y⟩:aJ Y);cases Y;refine aa1 (hE B F' L' _ s7 E H7 (λv Z=>aL H7 Z/\cz X.K (gP B F') R' ⇑8 [] H7 Z v y) I7 ⟨R',_,ρ1,y,S6.go e7,ey,λv Z e8 r8=>⟨e8,?_⟩⟩) (λu8 s8 h8=>?_) λ_ _ e=>e
        · ext(⟨τt,fr,rr⟩:r8)
          exact⟨τt,fr,rr.imp (q:=[]) (q':=[]) ⇑10 λc p ys f h=>h.mono id (λh=>⟨h.1,λ_ _ e=>by cases e⟩) id⟩
        · ext(⟨v8,Z,I8,rv8,e8,r8⟩:h8)
          ext(⟨pD,nD,_,_,_⟩:I8.pin (s₂.heap.objs.size,fB O nn) (aay _ (aa0 _ aam)));have hlen:O.length<=1000000:=by
            ext(⟨_,_,rr⟩:Jf);have h1:dn.length<=ds.length:=by rw[<- U,zaf];left
            have hc:cU=1000000:=rfl;rw[<- rv.length,rr.length];left
          have hz:sizeLine=16777216:=acI;refine aeb adF ⟨_,pD,rfl⟩ PySem.F.entry_list_append (PySem.F.args_list_append_2 _ _) (Rn s₂.heap.objs.size O.toArray nn u8 (by rw[zad];left)) ⟨pD,?_⟩;ext(q:Mk pD (λx=>x.push u8));have U9:O.toArray.push u8=(O++[u8]).toArray:=by simp
          rw[U9]at q;obtain⟨XJ,q'⟩:∃XJ,(s8.heap.update s₂.heap.objs.size (ej λx=>x.push u8)).get? s₂.heap.objs.size=↥(fB (O++[u8]) XJ):=⟨_,q⟩
          have I8d:Inv B (jx fp s5.heap) E Z s8:=I8.j5 λp hp=>I8.pin p (aay _ (aay _ hp));have I8t:Inv B (jx fp s5.heap) E Z { s8 with heap:=s8.heap.update s₂.heap.objs.size (ej λx=>x.push u8),toks:=s8.toks } :=
            I8d.turned (it:=s₂.heap.objs.size) (λb o l e=>(acd s8.heap (ej λx=>x.push u8) (ada l)).trans e) nD X8 (.inr (aat _)) PL λp hp=>by
              have uZ:p∈jx fp s5.heap:=by simpa [B,eT]using hp
              exact Vp p.1 (rQ uZ).1
          ext(kp:YR (P:=[]) ([zay]\I8t));refine⟨items.length - (i+1),by left,i+1,vs++[v8],O++[u8],XJ,E,Z,dn++[y],ys,rfl,dm,I8t.j5 (λp hp=>?_),kp.1,kp.2,rv.append (.cons rv8 .nil),((sm.trans e5).trans e7).trans e8,M6 e8,de.snoc ((sm.trans e5).trans e7) e8 (Jf.go (e5.trans e7)) r8,Gs,[zai]\U⟩;have uZ:p=(s₂.heap.objs.size,fB (O++[u8]) XJ):=⇑hp
          exact[uZ]\⟨q',nD,X8,abj,λv z=>by cases z⟩
    · refine aa1 (T.done B rfl rfl rfl L.calm i _ s' M H' (λ_ _=>False) I' Qh bj (yl.stop i H' sm ⋯)) (λr W h1=>?_) λ_ _ e=>e
      ext(⟨hr,I1⟩:h1);subst hr;have aaO:items.drop i=[]:=adV ⋯;rw[aaO,jk]at Y;cases Y;rw[zav]at U;subst U;exact fin vs O nn M H' W I1 rv sm Jf
  ext(key:λtk=>codeAny_compStart_list (loop tk) (T.self X.A 0 _ _ _ (T.keep _ _ _ jX λb _ o e=>old b o e) (loop tk)));exact[hGC]\key _
def I_(L:Lk X S k Φ){n:Nat}{t:Tg}{p:IK}{a:aj}{sc:Scope}(M:lu S n t caps target sc)(W:rR iter=true)
  (z:∀(b:Cx) (j:ag),Lk b (S.inner target caps sc) k Φ->PE b ku (tD b j Φ elt))
  (B:(bU=[]/\a=[])\/∃c e,bU=[c]/\a=[e]/\∀(b:Cx) (j:ag),Lk b (S.inner target caps sc) k Φ->PT b e (jW b j Φ c))
  (y:∀(pins:au) (s:ap) (σ:St) (H:Hp) (R:ag) (τ:Addr->Option bw) (ρ:aS) (xs items:aa),Inv X pins σ H s->SI X F R τ ρ σ H->bY Φ es ρ=ok xs->eQ Φ p xs=ok items->∀q:It->Hp->Prop,
   (∀J H2,aL H H2->Yl X.K J (lQ X F τ (caps++eE es) H2) H2 items->q J H2)->⇑0 (eval iter X.env) (λv l=>⇑0 (re v) (HY X pins σ target q) X.xe l) X.xe s) :
  PE X (.ListComp ku [⟨target,iter,a,0⟩] sc pos) (tD X F Φ (.comp n t caps p es bU elt)):=by
 intro pins s σ H Q I g;ext(⟨R,τ,ρ,d,O,E,g⟩:g);rw[eval_ListComp];refine wY L M W z B y (use:=none) (Post:=EP X pins σ Q) I O E λi C H1 l m x _ U sm u=>?_;exact⟨m,x,λh' r=>⟨.ref i,H1,U h' r,rfl,g _ _ sm u⟩⟩
end
variable {E:Value->ap->Prop}
section
variable {X:Cx}{pins:au}{s:ap}{σ:L2.St}{H:Hp}
def wg{A:aF}{l:Addr}{items:bq}{Q:aB}{s:ap}(a:s.heap.IsList l items)
  (h:∀s₂:ap,s₂={ s with heap:=s.heap.push { cls:=.type "list_iterator",data:=.fields #[.ref l,.int 0 0] } }->s₂.heap.IsListIter s.heap.objs.size l 0/\s₂.heap.IsList l items->(∀b∈[s.heap.objs.size,l],b<s₂.heap.objs.size)->l≠s.heap.objs.size->Q (.ref s.heap.objs.size) s₂) :
  ⇑1 (re (.ref l)) Q E s:=by
 have c:l<s.heap.objs.size:=by ext(⟨_,e,_⟩:a);exact aas e
 refine yax a (h _ rfl ⟨⟨_,aaC _ rfl,rfl,rfl⟩,a.push _⟩ (λb g=>?_) (aax c));have d:(s.heap.push { cls:=.type "list_iterator",data:=.fields #[.ref l,.int 0 0] }).objs.size=s.heap.objs.size+1:=uo ..;have i:b=s.heap.objs.size\/b=l:=⇑g
 show b<_;rw[d];ext((e|e):i)
 ·exact[e]\abd _
 ·exact[e]\abo c
def we{a:Obj}{s:ap}(d:∀b o,b∉[s.heap.objs.size]->(s.heap.push a).get? b=↥o->h'.get? b=↥o):∀b o,s.heap.get? b=↥o->h'.get? b=↥o:=λb o e =>
 d b o (λc=>absurd ((⇑c:b=s.heap.objs.size)▸aas e) (aa8 _)) (aaq _ e)
def dP{a:Addr}{b:bq}(p:PlainL h a b):h.IsList a b:=let ⟨o,n,h1,h2,_,h4⟩:=p;⟨o,h1,h2,n,h4⟩
theorem jw(a:Nat->Int)(ns:ae)(b:∀i,a i=ns.getD i 0):∀k,k<=ns.length->preSum a k=(ns.take k).sum
 |0,_=>by simp[preSum]
 |k+1,h=>by
  have c:k<ns.length:=by left
  rw[preSum,jw a ns b k ⋯,b k,List.take_add_one,List.sum_append];simp[C2,c]
def CG(x:X.calm=true):fJ X (.builtin "sum") (λxs H Q=>∃(p:Addr) (ns:ae),xs=[.ref p]/\eG X.K H p (ns.map V.int)/\Q ↑ns.sum H):=by
 intro pins s σ H xs J Q I r h;ext(⟨p,ns,rfl,m,q⟩:h)(⟨u,rfl,b⟩:r.one);cases b;ext(⟨a,g,l,j⟩:I.list m);have hlen:a.length=ns.length:=by have:=g.length;simpa using this.symm
 refine call_sum_walkG (wg (dP l) λs₂ e st B d=>?_);subst e;refine⟨_,_,_,_,_,_,λi=>ns.getD i 0,rfl,yaX (A:=X.A.in1) (I.ok.hd x) _ p d a.toArray,st,B,λi v y=>?_,λh' tk t' t=>?_⟩
 ·have c:a[i]?=↥v:=⇑y
  have L:i<a.length:=by
   by_cases z:i<a.length
   ·exact z
   ·rw[dV ⋯]at c;cases c
  have n:(ns.map V.int)[i]?=↥↑(ns.getD i 0):=by
   rw[bv,cb ⋯];simp[C2,show i<ns.length by left]
  ext(⟨u,k,b⟩:g.get n);rw[c]at k;cases k;exact b
 ·refine⟨.int ns.sum,H,I.kept (t':=tk) (we t),⟨t',?_⟩,q⟩;have j:preSum (λi=>ns.getD i 0) a.toArray.size=ns.sum:=by
   rw[zad,hlen,jw _ ns (λ_=>rfl) _ (zbU _),zbJ]
  rw[j]
def range_all{c:Type}(l:List c)(f:c->Bool)(d:Nat->Bool)(h:∀i a,l[i]?=↥a->d i=f a):(eg l.length).all d=l.all f:=by
 rw[zbR,zaL,zaL];constructor
 ·intro z a g;ext(⟨i,b,e⟩:List.mem_iff_getElem.mp g);have:=z i (hA.mpr b);rw[h i a ⇑[cb b,e]]at this;exact this
 ·intro z i b;ext(b:hA.mp b);exact[h i l[i] (cb b)]\z _ (aa5 b)
def CK(x:X.calm=true):fJ X (.builtin "all") (λxs H Q=>∃(p:Addr) (bs:List Bool),xs=[.ref p]/\eG X.K H p (bs.map V.bl)/\Q (.bl (bs.all id)) H):=by
 intro pins s σ H xs J Q I r h;ext(⟨p,bs,rfl,m,q⟩:h)(⟨u,rfl,c⟩:r.one);cases c;ext(⟨b,j,l,M⟩:I.list m);have hlen:b.length=bs.length:=by have:=j.length;simpa using this.symm
 refine call_all_walk (wg (dP l) λs₂ e st U g=>?_);subst e;refine⟨_,_,_,_,_,_,λi=>bs.getD i false,rfl,yaX (A:=X.A.in1) (I.ok.hd x) _ p g b.toArray,st,λi v L R W B y=>?_,λh' tk t=>?_⟩
 ·have d:b[i]?=↥v:=⇑B
  have O:i<b.length:=by
   by_cases z:i<b.length
   ·exact z
   ·rw[dV ⋯]at d;cases d
  have n:(bs.map V.bl)[i]?=↥(.bl (bs.getD i false)):=by
   rw[bv,cb ⋯];simp[C2,show i<bs.length by left]
  ext(⟨u,k,c⟩:j.get n);rw[d]at k;cases k;cases c;exact abV y
 ·refine⟨.bl (bs.all id),H,I.kept (t':=tk) (we t),?_,q⟩;show lp _=lp _;rw[zad,hlen,range_all bs id _ λi a e=>by simp[C2,e]]
end
variable {ms ns:ae}
section
variable {prog:aG}{w:World}{A:aF}{E:aB}{s:ap}
def qp{l:Addr}{vs:aw}{Q:aw->ap->Prop}{o:Obj}{n:Nat}(c:s.heap.get? l=↥o)(d:o.cls=.type "tuple")(hd:o.data=.seq vs.toArray n)
  (h:Q vs { s with heap:=(s.heap.push (fY "list" #[] 0)).update s.heap.objs.size (ej (· ++ vs.toArray)) }) (hsz:vs.length<=sizeLine):⇑1 (collect (.ref l)) Q E s:=by
 unfold collect;refine aaf (wpAny_runValue (acY entry_proto_collect' ?_));show wpAny _ _ (newList [] >>= λz=>again (.builtin "list.__iadd__" ⟨[z,.ref l],[]⟩)) _ _ s;refine aaf (adY (aak ⟨aei _ ⇑6,acY entry_list_iadd' ?_⟩));have b:(s.heap.push (fY "list" #[] 0)).get? l=↥o:=aaq _ c;have a:(s.heap.push (fY "list" #[] 0)).get? s.heap.objs.size=↥(fY "list" #[] 0):=aaC _ rfl;show wpAny _ _ (g7 (.ref s.heap.objs.size) (.ref l) (.ref s.heap.objs.size)) _ _ ({ s with heap:=s.heap.push (fY "list" #[] 0) }:ap);unfold g7;refine aaf (wpAny_typeOf (T:="tuple") ⟨o,b,d⟩ ?_);rw[abi (by rw[show(fy "tuple" == fy "tuple")=true from rfl,zbs])];refine aaf (Do b hd (aaf (Do a rfl ?_)));rw[zab ⇑5];refine aaf (P8 a rfl ?_ (aa6 _) (by
  show(#[]++vs.toArray).size<=sizeLine+1;rw[Array.size_append,zad];exact ac7 ⇑hsz))
 refine aak ?_;show ⇑1 (load s.heap.objs.size >>= λo=>match o.data with
   |.seq xs _=>pure xs.toList
   |_=>unsupported "internal:collect") Q E ({ s with heap:=(s.heap.push (fY "list" #[] 0)).update s.heap.objs.size (ej (· ++ vs.toArray)) }:ap)
 refine aaf (wpAny_load (get?_update_seq a _) ?_);show wpAny _ _ (pure ((#[]:bq)++vs.toArray).toList) Q E _;rw[show((#[]:bq)++vs.toArray).toList=vs by simp];exact aak h
def qK{l:Addr}{vs:aw}{Q:aB}{o:Obj}{n:Nat}(d:s.heap.get? l=↥o)(e:o.cls=.type "tuple")(hd:o.data=.seq vs.toArray n)(g:im vs ns)(b:vs.length<64)
  (h:∀(out:bq) (a:ae),im out.toList a->a.Perm ns->a.Pairwise (· <= ·)->Q (.ref (s.heap.objs.size+1)) { s with heap:=sortedAll s.heap vs out }):⇑1 (call (.builtin "sorted") [.ref l]) Q E s:=by
 refine adB Ym Vv VG (VP _) ?_;unfold mX.«sorted»;have c:vs.length<=sizeLine:=by rw[kD];left
 refine aaf (m:=yaD "sorted" 1 1 _) (aak (aaf (qp d e hd (aaf (adY ?_)) c)));have e1:((s.heap.push (fY "list" #[] 0)).update s.heap.objs.size (ej (· ++ vs.toArray))).objs.size=s.heap.objs.size+1:=by rw[Xw,Py]
 have e2:(((s.heap.push (fY "list" #[] 0)).update s.heap.objs.size (ej (· ++ vs.toArray))).push (fY "list" vs.toArray 0)).get? (s.heap.objs.size+1)=↥(fY "list" vs.toArray 0):=by
  exact[-e1]\aaC _ rfl
 show wpAny _ _ _ _ _ ({ s with heap:=((s.heap.push (fY "list" #[] 0)).update s.heap.objs.size (ej (· ++ vs.toArray))).push (fY "list" vs.toArray 0) }:ap);rw[e1];refine aaf (abT (abN Op ⟨_,e2,rfl⟩ Kk (list_sort_tree e2 g b λout a a1 a2 a3=>⟨_,rfl,aak ⟨_,rfl,h out a a1 a2 a3⟩⟩) (O1 _)))
end
def sortI_perm(ns:ae):(sortI ns).Perm ns:=abx ..
def DQ(ns:ae):(sortI ns).Pairwise (· <= ·):=by
 have:=Ix (le:=λa b:Int=>decide (a<=b)) (by intro a b c;simp;left) (by intro a b;simp;left) ns;unfold sortI;simpa using this
theorem dB:∀{vs:aw} {ns:ae},Vals (ns.map V.int) vs->im vs ns
 |_,[],h=>by cases h;exact .nil
 |_,n::ns,h=>by
  cases h with
  |cons r t=>ext(⟨tk,rfl⟩:r);exact .cons n tk (dB t)
def uH:fJ X (.builtin "sorted") (λxs H Q=>∃(p:Addr) (ns:ae),xs=[.ref p]/\(eG X.K H p (ns.map V.int)\/aY X.K H p (ns.map V.int))/\ns.length<64/\∀l,H l=none->Q (.ref l) (upd H l (.lst ((sortI ns).map V.int)))):=by
 intro pins s σ H xs O Q I r h;ext(⟨p,ns,rfl,d,t,q⟩:h)(⟨u,rfl,v⟩:r.one);cases v;have fin:∀(vs:aw) (out:bq) (a:ae),im out.toList a->a.Perm ns->a.Pairwise (· <= ·)->EP X pins σ Q (.ref (s.heap.objs.size+1)) { s with heap:=sortedAll s.heap vs out }:=by
  intro vs out a j i g;obtain rfl:a=sortI ns:=PySem.W.ksm_same (i.trans (sortI_perm ns).symm) g (DQ ns);ext(⟨e,L⟩:sortedAll_at s.heap vs out);have J:H (s.heap.objs.size+1)=none:=I.cJ.fresh (adU _);refine⟨.ref (s.heap.objs.size+1),upd H (s.heap.objs.size+1) (.lst ((sortI ns).map V.int)),I.laid (t':=s.toks) (λb u z=>sortedAll_old z) (adU _) ⟨?_,out.toList,e,mD j,⇑L⟩,rfl,q _ J⟩;rw[zaa,(sortI_perm ns).length_eq,kD];left
 ext((d|d):d)
 ·ext(⟨k,c,x,y⟩:I.list d);have m:k.length<64:=by rw[<- c.length];simpa using t
  exact sorted_ints (dP x) (dB c) m λout a j i g=>fin k out a j i g
 ·ext(⟨k,c,⟨o,B,M,n,hd⟩,y⟩:I.tuple d);have m:k.length<64:=by rw[<- c.length];simpa using t
  exact qK B M hd (dB c) m λout a j i g=>fin k out a j i g
def DA:isSubtype (.type "tuple") (.type "set")=pure false:=by rw[isSubtype_type];kernel_rfl
def vo:isSubtype (.type "tuple") (.type "frozenset")=pure false:=by rw[isSubtype_type];kernel_rfl
noncomputable abbrev nV(a:Bool):Obj:={ cls:=.type "set",dict:=none,data:=.set #[] 0 (.fresh 0 0 a) }
noncomputable abbrev dist(ns:ae):ae:=firstMet (λi=>ns.getD i 0) ns.length
section
variable {prog:aG}{w:World}{A:aF}{E:aB}{s:ap}
def xX{l:Addr}{d:aw}{Q:aB}(hh:A.handled=none)(hl:s.heap.IsTuple l d.toArray)(Y:im d ns)(H:d.length+1<Vu)
  (h:∀(h':Heap) (tk:Nat),h'.SetOf (ov prog w) s.heap.objs.size (λk=>(dist ns).any (· == k)) (dist ns).length->(∀b o,b<s.heap.objs.size->s.heap.get? b=↥o->h'.get? b=↥o)->Q (.ref s.heap.objs.size) { s with heap:=h',toks:=tk }) :
  ⇑1 (call (.type "set") [.ref l]) Q E s:=by
 have L:d.length=ns.length:=Y.length;ext(⟨c,tl,k1⟩:hX.mro);have k2:=hX.made;have k3:=hX.sub;have k4:=hX.notType;have k5:=hX.canCreate;ext(k6:PySem.F.typeCall_set_1 (.ref l));refine wpAny_call (codeAny_of_tree (show wpAny _ _ (callAny (.type "set") _) _ _ _ from aak ⟨aei _ ⇑6,acY PySem.F.entry_type_call ?_⟩));rw[Around.under_plain (weight_type_call_type "set" [.ref l] []) rfl]
 repeat (any_goals (first|assumption|wp_step))
 refine ad9 (code_set_new_1 (.ref l) (E:=E) (Q₁:=λz g=>∃a:Bool,z=.ref s.heap.objs.size/\g={ s with heap:=s.heap.push (nV a) }) λa=>⟨a,rfl,rfl⟩) λr g q=>?_;cases r with
 |error e=>exact q
 |ok fl =>
  cases fl with
  |next=>exact q.elim
  |brk=>exact q.elim
  |cont=>exact q.elim
  |ret z =>
   ext(⟨a,rfl,rfl⟩:q);have Z:(s.heap.push (nV a)).get? s.heap.objs.size=↥(nV a):=aaC _ rfl;have g2:Shared.TypeIs { s with heap:=s.heap.push (nV a) } (.ref s.heap.objs.size) "set":=⟨_,Z,rfl⟩
   have g3:=hX.init.lookup;ext(g4:hX.init.bind (.ref s.heap.objs.size))
   repeat (any_goals (first|assumption|wp_step))
   refine ad9 (aed (R:=wants (λr s₂=>r=.none/\∃h' tk,s₂={ s with heap:=h',toks:=tk }/\h'.SetOf (ov prog w) s.heap.objs.size (λk=>(dist ns).any (· == k)) (dist ns).length/\∀b o,b<s.heap.objs.size->s.heap.get? b=↥o->h'.get? b=↥o) E) hX.init.plain PySem.F.entry_set_init (check_set_init_1 g2 ?_)) λp s₂ n=>?_
   ·ext(⟨ot,u,y,W,x⟩:hl)(⟨oc,od,odt,EG⟩:ot);simp only at y x;subst y;subst x;have u1:(s.heap.push (nV a)).get? l=some { cls:=.type "tuple",dict:=od,data:=.seq d.toArray W,slots:=EG }:=aaq _ u;have u2:=DA;have u3:=vo;have u4:(fy "tuple" == fy "dict")=false:=by decide
    have U:(s.heap.push (nV a)).IsTuple l d.toArray:=⟨_,u1,rfl,W,rfl⟩
    unfold mX.«set.__init__» noKeywords Xy;generalize M:re=PI
    wp_walk
    subst M;refine yai U (aaf (wpAny_runValue ?_));have O:l<s.heap.objs.size:=aas u;have u7:A.in1.in1.in1.handled=none:=by simp[hh]
    have J:(s.heap.push (nV a)).objs.size=s.heap.objs.size+1:=uo ..;have u8:l≠(s.heap.push (nV a)).objs.size:=[J]\aax (abo O)
    have u9:s.heap.objs.size∉[(s.heap.push (nV a)).objs.size,l]:=by
     rw[J];intro m;simp at m;exact absurd m (aaT O)
    have v1:∀(i:Nat) (v:Value),d.toArray[i]?=↥v->∃t,v=.int ((λi=>ns.getD i 0) i) t:=λi v hv=>Y.int_at i v ⇑hv;refine codeAny_set_update_loopS ((Walks.tuple u7 _ l u8 d.toArray).toS) s.heap.objs.size u9 (λi=>ns.getD i 0) v1 ([zad]\H) (d.toArray.size - 0) 0 _ ⋯ (aa6 _) ⟨⟨_,aaC _ rfl,rfl,rfl⟩,U.push _⟩ ?hS0 ?hR
    case hS0 =>
     have y1:((s.heap.push (nV a)).push { cls:=.type "tuple_iterator",data:=.fields #[.ref l,.int 0 0] }).get? s.heap.objs.size=↥(nV a):=aaq _ Z;exact SetOf_congr ((setObjOf_fresh (knd:=ov prog w) a).setOf y1 (by unfold Vu;left)) (λ_=>rfl) rfl
    case hR =>
     intro s' B j;ext(⟨h',g',d',I,ZM⟩:s');cases (show g'=s.gens from B.gens);cases (show d'=s.drawn from B.drawn);cases (show ZM=s.os from B.os);have j:h'.SetOf (ov prog w) s.heap.objs.size (λk=>(dist ns).any (· == k)) (dist ns).length:=by
      have e:d.toArray.size=ns.length:=by rw[zad,L]
      rw[e]at j;exact j
     refine aak (show wpAny _ _ (ret ft) _ _ _ from aak ⟨rfl,h',I,rfl,j,λb o H e=>B.heap b o (λm=>?_) (aaq _ (aaq _ e))⟩);ext((m|m):ci.mp m)
     ·exact aax H m
     ·have m:b=(s.heap.push (nV a)).objs.size:=⇑m
      rw[J]at m;exact aax (abo H) m
   ·cases p with
    |error e=>exact n
    |ok V6 =>
     cases V6 with
     |ret r =>
      ext(⟨rfl,h',tk,rfl,j,CZ⟩:n)
      repeat (any_goals (first|assumption|wp_step))
      exact h _ _ j CZ
     |next=>exact n.elim
     |brk=>exact n.elim
     |cont=>exact n.elim
end
def GZ(ns:ae):dist ns=uz ns:=by
 unfold dist firstMet uz;have e:(eg ns.length).map (λi=>ns.getD i 0)=ns:=by
  refine adx ⇑5 λi a b=>?_;simp at a;simp[a]
 rw[e];rfl
def rLs(K:av):ah->Hp->VK->Prop:=λxs H Q=>∃(p:Addr) (ns:ae),xs=[.ref p]/\aY K H p (ns.map V.int)/\ns.length<4000/\Q ↑(uz ns).length H
def boot_set:kE ("set" : Str)=↥(.type "set"):=by decide +kernel
def Jx{e:Expr}{t:TA}{p:Pos}(B:X.calm=true)(i:Gl X ("len" : Str))(d:X.mg ("len" : Str)=none)(g:Gl X ("set" : Str))(c:X.mg ("set" : Str)=none)(J:PA X [e] t)
  (r:∀es,cm (e::es) X.env=(false,eval e X.env)::cm es X.env):PE X (.Call (.Name ("len" : Str) p) [.Call (.Name ("set" : Str) p') [e] [] pos'] [] pos) (Td (rLs X.K) t):=by
 intro pins s σ H Q I h;refine acK (gR I i d XX ?_ ⇑4 ⇑4);refine sw ?_ rfl rfl;show wpAny _ _ (spliced ((false,eval (.Call (.Name ("set" : Str) p') [e] [] pos') X.env)::[])) _ _ s;refine aeh ?_;refine acK (gR I g c boot_set ?_ ⇑4 ⇑4);refine abk (dO (J pos' pins s σ H _ I h) λus s1 Y=>?_) (r _) rfl;ext(⟨vs,H1,j,r1,q1⟩:Y)(⟨a,ns,rfl,x,hl,q⟩:q1)(⟨u,rfl,m⟩:r1.one);cases m;ext(⟨Z,k,v,hz⟩:j.tuple x);have y:Z.length=ns.length:=by rw[<- k.length];simp
 refine xX (j.ok.hd B) v (dB k) (by unfold Vu;left) λh' tk l n=>aew ?_;rw[GZ]at l;ext(⟨o,es,ep,tb,W,U,R,_,_,O,M,L⟩:l);refine call_len_set W U R M (by unfold Vu at O;omega) ?_;exact⟨.int (uz ns).length,H1,j.kept (t':=tk+1+1) λb u z=>n b u (aas z) z,⟨_,by rw[L]⟩,q⟩
variable {args elts:aj}
section
variable {X:Cx}{S:Sx}{k:Nat}{F:ag}{Φ:aV}
def Lk.u40(L:Lk X S k Φ):X.A.units+40<cLine:=by have:=L.room.units;left
def TU(K:av)(neg:Bool):R2:=λv u H Q=>∃(d d':D) (N N':lB) (k k':bw),Rep (aY K H) N k v d/\Rep (aY K H) N' k' u d'/\(∀q p xs f,N q p (.l xs) f->eG K H p xs)/\(∀q p xs f,N' q p (.l xs) f->eG K H p xs)/\cq 40 d=true/\cq 40 d'=true /\
 Q (.bl (if neg then !lA d d' else lA d d')) H
def OA(j:X.A.units+40<cLine):oV X (j_ .Eq) (TU X.K false):=by
 intro pins s σ H x y v u Q I b a h;ext(⟨d,d',N,N',k,k',r1,c,n1,i,g,e,q⟩:h);exact(alike I n1 i 40 X.A r1 c g e b a j).rc X.prog X.w X.xe _ ⟨.bl _,H,I,rfl,q⟩
def Oz(j:X.A.units+40<cLine):oV X (j_ .NotEq) (TU X.K true):=by
 intro pins s σ H x y v u Q I b a h;ext(⟨d,d',N,N',k,k',r1,c,n1,i,g,e,q⟩:h);exact(alike I n1 i 40 X.A r1 c g e b a j).ne X.prog X.w X.xe _ ⟨.bl _,H,I,rfl,q⟩
def D_{k:bw}{v:V}{d:D}(h:Rep T N k v d)(h':Rep T' N' k' v' d')(f:f9 d=true)(a:f9 d'=true):sj v=true/\eqV v v'=lA d d':=by
 cases h<;>first | (cases f;done) | (cases h'<;>first | (cases a;done)|exact⟨rfl,rfl⟩)
def BD{k:bw}{v:V}{d:D}(h:Rep T N k v d)(f:f9 d=true):sj v=true:=by
 cases h<;>first | (cases f;done)|rfl
def Jj{v:V}{d:D}(c:Rep T' N' k' v d)(f:f9 d=true){k:bw}{n:Nat}(h:aH T N k n xs ds):ds.all f9=true->xs.all sj=true/\UW v xs=inD d ds :=
 h.ind (P:=λ_ xs ds=>ds.all f9=true->xs.all sj=true/\UW v xs=inD d ds) (λ_ _=>⟨rfl,rfl⟩) λ_ _ _ _ _ h t b fs=>by
  ext(⟨l,j⟩:aC fs)(⟨e,a⟩:b j)(⟨i,g⟩:D_ h c l f);refine⟨by rw[zas,i,e];rfl,?_⟩;unfold UW at a ⊢;rw[yap,g,a];rfl
def Od(K:av)(op:C_):R2:=match op with
 |.eq=>TU K false
 |.ne=>TU K true
 |.lt=>HL λi j=>.bl (decide (i<j))
 |.le=>HL λi j=>.bl (decide (i<=j))
 |.gt=>HL λi j=>.bl (decide (j<i))
 |.ge=>HL λi j=>.bl (decide (j<=i))
def EJ(L:Lk X S k Φ)(op:C_):oV X (j_ (ZO op)) (Od X.K op):=by
 cases op with
 |eq=>exact OA L.u40
 |ne=>exact Oz L.u40
 |lt=>exact T_
 |le=>exact Ua
 |gt=>exact Ub
 |ge=>exact Uc
def EW{op:CmpOp}{r:Expr}(h:rR r=true):lf op r=false:=by
 cases r<;>first|rfl | (cases h;done)
def Rb{f:Int->Int->Bool}{a b d:D}(h:Sn f a b=ok d):∃i j,a=.int i/\b=.int j/\d=.bl (f i j):=by
 cases a with
 |int i=>cases b with
  |int j=>cases h;exact⟨i,j,rfl,rfl,rfl⟩
  |_=>exact nk h
 |_=>exact nk h
def OI{n:Bool}{a b d:D}(h:nnD n a b=ok d):b=.b0/\d=.bl (bif n then !ES a else ES a):=by
 cases b with
 |b0=>cases h;exact⟨rfl,rfl⟩
 |_=>exact nk h
def Pj{n:Bool}{a b d:D}(h:inX n a b=ok d):∃ds,ym b=↥ds/\f9 a=true/\ds.all f9=true/\d=.bl (bif n then !inD a ds else inD a ds):=by
 unfold inX at h;cases g:ym b with
 |none=>rw[g]at h;exact nk h
 |some ds =>
  rw[g]at h;ext(⟨c,e⟩:rX h);exact⟨ds,rfl,(aC c).1,(aC c).2,e.symm⟩
def wZ{op:C_}{a b:CE}{H:Hp}(t:tD X F Φ (.cmp op a b) σ H Q):NG (Od X.K op) (tD X F Φ a) (tD X F Φ b) σ H Q:=by
 ext(⟨R,τ,ρ,d,L,c,t⟩:t)(⟨x,ex,c⟩:aJ c)(⟨y,ey,c⟩:aJ c);refine tD.intro L ex λv H1 e1 r1=>tD.intro (L.go e1) ey λu H2 e2 s=>?_;have B:∀{b},d=.bl b->Q (.bl b) H2:=λ{b} z=>t _ H2 (e1.trans e2) (z▸.bl);clear t L;have W:∀n,alD n x y=ok d->TU X.K n v u H2 Q:=λn h=>by
  ext(⟨M,z⟩:rX h)(⟨l,U,e⟩:r1.go e2)(⟨g,O,r⟩:s);exact⟨x,y,_,_,_,_,e,r,λq p xs f h=>h.sq,λq p xs f h=>h.sq,(aC M).1,(aC M).2,by have:=B z.symm;cases n<;>exact this⟩
 have I:∀f,Sn f x y=ok d->HL (λi j=>.bl (f i j)) v u H2 Q:=λf h=>by
  ext(⟨i,j,rfl,rfl,z⟩:Rb h);exact⟨i,j,(r1.go e2).isInt,s.isInt,B z⟩
 have nn:∀n,nnD n x y=ok d->u=.b0/\Q (.bl (bif n then !decide (v=.b0)else decide (v=.b0))) H2:=λn h=>by
  ext(⟨rfl,z⟩:OI h)(⟨l,U,e⟩:r1.go e2)(⟨g,O,r⟩:s);cases r;refine⟨rfl,?_⟩;rw[show decide (v=.b0)=ES x by cases e<;>rfl];exact B z
 have ii:∀n,inX n x y=ok d->rIn X.K n v u H2 Q:=λn h=>by
  ext(⟨ds,J,c1,c2,z⟩:Pj h);clear h;ext(⟨l,U,e⟩:r1.go e2)(⟨g,O,r⟩:s)(q:B z);have fin:∀{T:qI} {N:lB} {p:Addr} {xs:ah} {k:Nat},aH T N [] k xs ds->eG X.K H2 p xs\/aY X.K H2 p xs->rIn X.K n v (.ref p) H2 Q:=λm Y=>by
   ext(⟨g1,Z⟩:Jj e c1 m c2);exact⟨_,_,rfl,Y,BD e c1,g1,by rw[Z];cases n<;>exact q⟩
  cases r with
  |tup h m=>cases J;exact fin m (.inr h)
  |lst h m=>cases J;exact fin m (.inl h.sq)
  |_=>cases J
 cases op with
 |eq=>exact W false c
 |ne=>exact W true c
 |lt=>exact I _ c
 |le=>exact I _ c
 |gt=>exact I _ c
 |ge=>exact I _ c
def DH{c:CE}{H:Hp}{Q:Bool->Hp->Prop}(h:jW X F Φ c σ H Q):tB (tD X F Φ c) σ H Q:=by
 ext(⟨R,τ,ρ,b,l,a,i⟩:h);unfold wJ at a;ext(⟨d,j,g⟩:aJ a);refine tD.intro l j λv H' e r=>?_;cases d<;>simp[jq]at g;cases g;exact⟨_,r.B4,i H' e⟩
def cY{c:CE}{e:Expr}(h:PE X e (tD X F Φ c))(he:∀whole,PB e X.env whole=(do let v <- whole;standAt e.pos;holding [v] (truthy v))):PT X e (jW X F Φ c) :=
 PT.imp (tG h he) λ_ _ _ h=>DH h
def Bq{op:C_}{a b:CE}{H:Hp}{Q:Bool->Hp->Prop}(h:jW X F Φ (.cmp op a b) σ H Q):LQ (NG (Od X.K op) (tD X F Φ a) (tD X F Φ b)) σ H Q :=
 wZ (DH h)
def dictAt{pins:au}{H:Hp}{s:ap}{p:Addr}{cs:az}(I:Inv X pins σ H s)(h:H p=↥(.ext (DO p cs as xs ep))):∃o,s.heap.get? p=↥o/\o.cls=.type "dict":=by
 obtain⟨⟨c,o,es,_,_,_,b,a,_⟩,_⟩:=(show cQ H s.heap p (.ext (DO p cs as xs ep)) from I.cJ p _ h)
 exact⟨o,b,a.1⟩
def OZ(L:Lk X S k Φ)(t:Ty):fJ X (.builtin "isinstance") (λxs H Q=>∃(x:V) (d:D) (N:lB) (k:bw),xs=[x,.ty (tyName t)]/\Rep (aY X.K H) N k x d/\(∀q p xs f,N q p (.l xs) f->eG X.K H p xs)/\(∀q p cs as xs ep f,N q p (.d cs as xs ep) f->H p=↥(.ext (DO p cs as xs ep)))/\Q (.bl (eC t d)) H):=by
 intro pins s σ H xs R Q I r h;ext(⟨x,d,N,k,rfl,B,M,m,q⟩:h)(⟨u,v,rfl,a,J⟩:vals2 r);cases (show v=fy (tyName t) from J);ext(c:JT X.K t);have fin:∀b:Bool,b=eC t d->∀tk,EP X pins σ Q (.bool b) { s with toks:=tk }:=λb e tk=>⟨.bl b,H,I.tok tk,rfl,[e]\q⟩
 cases B with
 |b0=>cases a;exact acq PySem.W.kitx_none I.CW nv (c "NoneType" (by simp[kinds])) (λz=>nomatch z) (fin _ (by cases t<;>rfl))
 |bl b=>cases a;exact acq PySem.W.kitx_bool I.CW nv (c "bool" (by simp[kinds])) (λz=>nomatch z) (fin _ (by cases t<;>rfl))
 |int i=>ext(⟨t',rfl⟩:a);exact acq PySem.W.kitx_int I.CW nv (c "int" (by simp[kinds])) (λz=>nomatch z) (fin _ (by cases t<;>rfl))
 |str y=>ext(⟨t',rfl⟩:a);exact acq PySem.W.kitx_str I.CW nv (c "str" (by simp[kinds])) (λz=>nomatch z) (fin _ (by cases t<;>rfl))
 |tup h _ =>
  cases a;ext(⟨O,_,⟨o,j,g,_⟩,_⟩:I.tuple h);exact acq PySem.W.kitx_tuple I.CW ⟨o,j,g⟩ (c "tuple" (by simp[kinds])) (λz=>nomatch z) (fin _ (by cases t<;>rfl))
 |lst h _ =>
  cases a;ext(⟨O,_,⟨o,n,j,g,_⟩,_⟩:I.list (M _ _ _ _ h));exact acq PySem.W.kitx_list I.CW ⟨o,j,g⟩ (c "list" (by simp[kinds])) (λz=>nomatch z) (fin _ (by cases t<;>rfl))
 |cF h _ _ =>
  cases a;obtain⟨o,j,g⟩:∃o,s.heap.get? _=↥o/\o.cls=.type "dict":=dictAt I (m _ _ _ _ _ _ _ h);exact acq PySem.W.kitx_dict I.CW ⟨o,j,g⟩ (c "dict" (by simp[kinds])) (λz=>nomatch z) (fin _ (by cases t<;>rfl))
def Lc(t:Ty):kE (tyName t:Str)=↥(.type (tyName t)):=by
 cases t<;>decide +kernel
def rE(t:Ty):(tyName t:Str) ≠ "__name__" /\ ((tyName t:Str)==⇑9)=false:=by
 cases t<;>decide +kernel
def N1(L:Lk X S k Φ){a:CE}{t:Ty}{e:Expr}{p:Pos}(hf:gq S.sc ("isinstance" : Str)=true)(g:("isinstance" : Str)∈S.bl)(n:gq S.sc (tyName t:Str)=true)(c:(tyName t:Str)∈S.bl)
  (r:PE X e (tD X F Φ a)) (j:∀es,cm (e::es) X.env=(false,eval e X.env)::cm es X.env):PE X (.Call (.Name ("isinstance" : Str) p) [e,.Name (tyName t:Str) p'] [] pos) (tD X F Φ (.qV a t)):=by
 have s:PE X (.Name (tyName t:Str) p') (tC (.ty (tyName t))):=zY (L.gl n) (L.bl _ c) (Lc t) rfl (rE t).1 (rE t).2;refine PE.imp (cZ (OZ L t) (L.gl hf) (L.bl _ g) um (cc r (cc s dt) (j _)) (he:=j _)) λσ H Q b=>?_;ext(⟨R,τ,ρ,d,y,i,b⟩:b)(⟨x,u,i⟩:aJ i);cases i;refine tD.intro y u λv H1 e1 r1=>?_;ext(⟨l,z,m⟩:r1);exact⟨v,x,_,_,rfl,m,λq p xs f h=>h.sq,λq p cs as xs ep f h=>h.dat,b _ H1 e1 .bl⟩
def O7:@DI.FE=@L2.FE:=rfl
protected def TC(L:Lk X S k Φ){a b:CE}{e i:Expr}(Y:PE X e (tD X F Φ a))(W:PE X i (tD X F Φ b))(O:oU i):PE X (.Subscript e i pos) (tD X F Φ (.ix a b)):=by
 refine PE.imp (EB (JX.or O6) Y W O) λσ H Q r=>?_;ext(⟨R,τ,ρ,d,z,c,r⟩:r)(⟨x,ex,c⟩:aJ c)(⟨y,Z,c⟩:aJ c);refine tD.intro z ex λv H1 e1 r1=>tD.intro (z.go e1) Z λu H2 e2 J=>?_;ext(ee:e1.trans e2)(I:(r1.go e2).mono (fv':=gJ (.ix a b)) λj U=>aa0 _ U);have item:∀{q:bw} {xs:ah} {ds:aa} {τt:Addr->Option bw} {j:Int},(∀p q,τt p=↥q->H p=none)->aH (aY X.K H2) (nd X.K R (lg (gP X F) τ (gJ (.ix a b))) τt H2) q 0 xs ds->xn ds j=ok d->∃w,L2.Sq xs j=↥w/\Q w H2:=by
  intro q xs ds τt j l g h;unfold xn at h;split at h
  ·rename_i d' hd;cases h;cases n:DI.FE ds.length j with
   |none=>rw[n]at hd;cases hd
   |some m =>
    rw[n]at hd;ext(⟨w,hw,M⟩:g.get (show ds[m]?=↥d' from hd));refine⟨w,?_,r w H2 ee ⟨λ_=>none,λ_ _ h=>by simp at h,M.gM z l⟩⟩;unfold L2.Sq;exact[-O7,g.length,n]\hw
  ·cases h
 cases y with
 |int j =>
  ext(⟨τt,l,B⟩:I);cases J.isInt;cases x with
  |tup ds =>
   cases B with
   | @tup _ p xs _ h g=>ext(⟨w,t,s⟩:item l g c);exact .inr ⟨p,xs,j,w,rfl,rfl,h,t,s⟩
  |lst f ds =>
   cases B with
   | @lst _ p xs _ _ h g=>ext(⟨w,t,s⟩:item l g c);exact .inl ⟨p,xs,j,w,rfl,rfl,h.sq,t,s⟩
  |_=>exact nk c
 |_=>cases x<;>cases c
theorem qe:∀(cs:aA) {ρ:aS} {ds:aa},bY Φ cs ρ=ok ds->ds.length=cs.length
 |[],_,_,h=>by cases h;rfl
 |c::cs,_,_,h=>by
  ext(⟨x,_,h⟩:aJ h)(⟨xs,a,h⟩:aJ h);cases h;simp[qe cs a]
def NX{es:aj}{n:Nat}(h:PA X es (sW X F Φ cs))(m:cs.length<=1000):PE X (.Tuple es n pos) (tD X F Φ (.tup cs)):=by
 refine PE.imp (Oj h) λσ H Q a=>?_;ext(⟨R,τ,ρ,d,j,b,a⟩:a)(⟨ds,e,b⟩:aJ b);cases b;refine⟨R,τ,ρ,ds,j,e,λvs H1 e1 r1=>?_⟩;ext(⟨τt,i,c⟩:r1);have l:sizeLine=16777216:=acI;refine⟨by rw[c.length,qe cs e];left,λp g=>?_⟩;have es:aL H1 (upd H1 p (.tup vs)):=aL.upd g;exact a _ _ (e1.trans es) ⟨τt,i,.tup (aY.of aU) (c.imp (λ_ _ h=>aY.same es h) λ_ _ _ _ h=>nd.same es h)⟩
def N0{es:aj}(h:PA X es (sW X F Φ cs))(r:cs.length<=1000):PE X (.List es pos) (tD X F Φ (.lst cs)):=by
 refine PE.imp (tO h) λσ H Q a=>?_;ext(⟨R,τ,ρ,d,m,g,a⟩:a)(⟨ds,j,g⟩:aJ g);cases g;refine⟨R,τ,ρ,ds,m,j,λvs H1 e1 r1=>?_⟩;ext(⟨τt,l,i⟩:r1);have n:sizeLine=16777216:=acI;refine⟨by rw[i.length,qe cs j];left,λp e=>?_⟩;have es:aL H1 (upd H1 p (.lst vs)):=aL.upd e;refine a _ _ (e1.trans es) ⟨λq=>if q=p then ↥[] else τt q,λq z a=>?_,.lst ⟨aU,by simp⟩ (i.imp (λ_ _ h=>aY.same es h) λc q xs f h=>?_)⟩
 ·by_cases b:q=p
  ·subst b;exact e1.free e
  ·simp only[b,if_false]at a;exact l q z a
 ·ext(h':nd.same es h);cases f with
  |ow =>
   have b:q≠p:=by
    intro z;subst z;exact h.1.ne e
   exact⟨h'.1,by simp only[b,if_false];exact h'.2⟩
  |fz=>exact h'
  |al=>exact h'
  |sc=>exact h'
def Ja(L:Lk X S k Φ){f:Nat}{x:Str}{y:Expr}{ys:aj}{p:Pos}(hf:S.fn f=↥x)(O:gq S.sc x=true)(hn:nY x=true)(W:PA X (y::ys) (sW X F Φ cs))
  (B:∀es,cm (y::es) X.env=(false,eval y X.env)::cm es X.env) (hpl:∀pos,(nw pos (cm ys X.env)).any (·.1)=false):PE X (.Call (.Name x p) (y::ys) [] pos) (tD X F Φ (.call f cs)):=by
 ext(⟨a,fd,ps,Fo,I,M,U,J⟩:(L.fn f x hf).ex);unfold nY at hn;simp only[zah,zbb]at hn;refine PE.imp (tP Fo L.room (L.gl O) I M U .nil (Mr (X:=X)) W hn.1.1 (B _) (hpl _)) λσ H Q m=>?_;ext(⟨R,τ,ρ,d,j,g,m⟩:m)(⟨xs,Z,g⟩:aJ g)(⟨r,s,g⟩:aJ g);cases g;refine⟨R,τ,ρ,xs,j,Z,λvs H1 e1 r1=>?_⟩;ext(⟨τt,Y,n⟩:r1);have fresh:∀p,H p=none->lg (gP X F) τ (eE cs) p:=λp b=>⟨.inr (j.same.free b),λc i e=>absurd b (j.th p _ e)⟩
 have hR:∀p,R p->lg (gP X F) τ (eE cs) p:=λp b=>⟨j.rf p b,λc i e=>by rw[j.rt p b]at e;cases e⟩
 rw[zav];refine⟨lg (gP X F) τ (eE cs),ak aK xs,r,by rw[n.length,<- J _ _ s,aN,zaa],aH.jz ⇑10 (λk k' p xs f h=>?_) n _ _,s,λv H2 e2 t=>?_⟩
 ·cases f with
  |ow=>exact⟨h.1,fresh p (Y p _ h.2)⟩
  |fz=>exact⟨h.1,hR p h.2⟩
  |al=>exact h
  |sc=>exact h
 ·ext(⟨l,V5,u⟩:t);refine m v H2 (e1.trans e2) ⟨l,λp q h=>e1.free (V5 p q h),Rep.map (q:=[]) (q':=[]) ⇑10 (λc p xs f h=>?_) u [] rfl⟩;cases f with
  |ow=>exact h
  |fz=>exact⟨h.1,h.2.elim id λz=>fresh p (e1.free z)⟩
  |al=>exact h.2.elim
  |sc=>exact h
def rBf(K:av)(f:Bf):ah->Hp->VK->Prop:=match f with
 |.len=>λxs H Q=>∃p ys,xs=[.ref p]/\(eG K H p ys\/aY K H p ys)/\Q ↑ys.length H
 |.abs=>λxs H Q=>∃i,xs=[.int i]/\Q ↑(if i<0 then -i else i) H
 |.min2=>λxs H Q=>∃i j,xs=[.int i,.int j]/\Q ↑(if j<i then j else i) H
 |.max2=>λxs H Q=>∃i j,xs=[.int i,.int j]/\Q ↑(if j>i then j else i) H
 |.list1=>λxs H Q=>∃p ys,xs=[.ref p]/\(eG K H p ys\/aY K H p ys)/\∀l,H l=none->Q (.ref l) (upd H l (.lst ys))
 |.tuple1=>λxs H Q=>∃p ys,xs=[.ref p]/\((eG K H p ys/\∀l,H l=none->Q (.ref l) (upd H l (.tup ys)))\/(aY K H p ys/\Q (.ref p) H))
 |.ju=>λxs H Q=>∃(p:Addr) (ns:ae),xs=[.ref p]/\eG K H p (ns.map V.int)/\Q ↑ns.sum H
 |.all1=>λxs H Q=>∃(p:Addr) (bs:List Bool),xs=[.ref p]/\eG K H p (bs.map V.bl)/\Q (.bl (bs.all id)) H
 |.iL=>λxs H Q=>∃(p:Addr) (ns:ae),xs=[.ref p]/\(eG K H p (ns.map V.int)\/aY K H p (ns.map V.int))/\ns.length<64/\∀l,H l=none->Q (.ref l) (upd H l (.lst ((sortI ns).map V.int)))
def aH.one{k:bw}{n:Nat}{d:D}(h:aH T N k n vs [d]):∃v,vs=[v]/\Rep T N (n::k) v d:=by
 cases h with
 |cons h t=>cases t;exact⟨_,rfl,h⟩
def aH.two{k:bw}{n:Nat}{d e:D}(h:aH T N k n vs [d,e]):∃v w,vs=[v,w]/\Rep T N (n::k) v d/\Rep T N ((n+1)::k) w e:=by
 cases h with
 |cons h t=>ext(⟨w,rfl,h'⟩:t.one);exact⟨_,_,rfl,h,h'⟩
def aH.ints1{k:bw}{n:Nat}{i:Int}(h:aH T N k n vs [.int i]):vs=[.int i]:=by
 ext(⟨v,rfl,z⟩:h.one);cases z;rfl
def aH.ints2{k:bw}{n:Nat}{i j:Int}(h:aH T N k n vs [.int i,.int j]):vs=[.int i,.int j]:=by
 ext(⟨v,w,rfl,z,a⟩:h.two);cases z;cases a;rfl
meta def Bf.one:Bf->Bool
 |.min2=>false
 |.max2=>false
 |_=>true
def Rq{f:Bf}{xs:aa}{d:D}(hf:f.one=true)(h:rg f xs=ok d):∃x,xs=[x]:=by
 cases xs with
 |nil=>cases f<;>exact nk h
 |cons x xs=>cases xs with
  |nil=>exact⟨x,rfl⟩
  |cons y ys=>cases f<;>first | (cases hf;done) | (cases x<;>exact nk h)
def bf2{xs:aa}{d:D}(h:rg .min2 xs=ok d):∃i j,xs=[.int i,.int j]:=by
 cases xs with
 |nil=>cases h
 |cons x xs=>cases xs with
  |nil=>cases x<;>cases h
  |cons y ys=>cases ys with
   |cons z a=>cases x<;>first | (cases h;done) | (cases y<;>cases h)
   |nil=>cases x<;>first | (cases h;done) | (cases y<;>first|exact⟨_,_,rfl⟩ | (cases h;done))
def bf3{xs:aa}{d:D}(h:rg .max2 xs=ok d):∃i j,xs=[.int i,.int j]:=by
 cases xs with
 |nil=>cases h
 |cons x xs=>cases xs with
  |nil=>cases x<;>cases h
  |cons y ys=>cases ys with
   |cons z a=>cases x<;>first | (cases h;done) | (cases y<;>cases h)
   |nil=>cases x<;>first | (cases h;done) | (cases y<;>first|exact⟨_,_,rfl⟩ | (cases h;done))
theorem aH.ofInts{T:qI}{N:lB}{k:bw}:∀{ns:ae} {n:Nat} {vs:ah},aH T N k n vs (ns.map D.int)->vs=ns.map V.int
 |[],_,_,h=>by cases h;rfl
 |i::ns,_,_,h=>by
  cases h with
  |cons h t=>cases h;rw[aH.ofInts t];rfl
theorem aH.Mv{T:qI}{N:lB}{k:bw}:∀{ns:List Bool} {n:Nat} {vs:ah},aH T N k n vs (ns.map D.bl)->vs=ns.map V.bl
 |[],_,_,h=>by cases h;rfl
 |i::ns,_,_,h=>by
  cases h with
  |cons h t=>cases h;rw[aH.Mv t];rfl
theorem rT{T:qI}{N:lB}{k:bw}:∀(ns:ae) {n:Nat},aH T N k n (ns.map V.int) (ns.map D.int)
 |[],_=>.nil
 |i::ns,_=>.cons ↑i (rT ns)
protected def Lf{f:Bf}{H:Hp}(g:tD X F Φ (.bf f cs) σ H Q):Td (rBf X.K f) (sW X F Φ cs) σ H Q:=by
 ext(⟨R,τ,ρ,d,p,a,g⟩:g)(⟨xs,u,a⟩:aJ a);refine⟨R,τ,ρ,xs,p,u,λvs H1 e1 r1=>?_⟩;ext(⟨τt,t,m⟩:r1);cases f with
 |len =>
  ext(⟨x,rfl⟩:Rq rfl a)(⟨v,rfl,c⟩:m.one);cases x with
  |tup ds=>cases a;ext(⟨_,_,rfl,h,r⟩:c.Dm);exact⟨_,_,rfl,.inr h,[r.length]\g _ H1 e1 .int⟩
  |lst f ds=>cases a;ext(⟨_,_,rfl,h,r⟩:c.nN);exact⟨_,_,rfl,.inl h.sq,[r.length]\g _ H1 e1 .int⟩
  |_=>exact nk a
 |abs =>
  ext(⟨x,rfl⟩:Rq rfl a);cases x with
  |int i=>cases a;cases m.ints1;exact⟨_,rfl,g _ H1 e1 .int⟩
  |_=>exact nk a
 |min2 =>
  ext(⟨i,j,rfl⟩:bf2 a);cases a;cases m.ints2;exact⟨_,_,rfl,g _ H1 e1 .int⟩
 |max2 =>
  ext(⟨i,j,rfl⟩:bf3 a);cases a;cases m.ints2;exact⟨_,_,rfl,g _ H1 e1 .int⟩
 |list1 =>
  ext(⟨x,rfl⟩:Rq rfl a)(⟨v,rfl,c⟩:m.one);cases x with
  |tup ds =>
   cases a;ext(⟨_,_,rfl,h,r⟩:c.Dm);refine⟨_,_,rfl,.inr h,λl b=>?_⟩;exact g _ _ (e1.trans (aL.upd b)) (cz.qT (e1.free b) (e1.trans (aL.upd b)) aU ((r.gM p t).imp (λ_ _ h=>aY.same (aL.upd b) h) λ_ _ _ _ h=>nd.same (aL.upd b) h))
  |lst f ds =>
   cases a;ext(⟨_,_,rfl,h,r⟩:c.nN);refine⟨_,_,rfl,.inl h.sq,λl b=>?_⟩;exact g _ _ (e1.trans (aL.upd b)) (cz.qT (e1.free b) (e1.trans (aL.upd b)) aU ((r.gM p t).imp (λ_ _ h=>aY.same (aL.upd b) h) λ_ _ _ _ h=>nd.same (aL.upd b) h))
  |_=>exact nk a
 |tuple1 =>
  ext(⟨x,rfl⟩:Rq rfl a)(⟨v,rfl,c⟩:m.one);cases x with
  |lst f ds =>
   cases a;ext(⟨_,_,rfl,h,r⟩:c.nN);refine⟨_,_,rfl,.inl ⟨h.sq,λl b=>?_⟩⟩;exact g _ _ (e1.trans (aL.upd b)) ⟨λ_=>none,λ_ _ h=>by simp at h,.tup (aY.of aU) ((r.gM p t).imp (λ_ _ h=>aY.same (aL.upd b) h) λ_ _ _ _ h=>nd.same (aL.upd b) h)⟩
  |_=>exact nk a
 |ju =>
  ext(⟨x,rfl⟩:Rq rfl a)(⟨v,rfl,c⟩:m.one);cases x with
  |lst f ds =>
   have a:(match intsOf ds with|↥ns=>ok ↑ns.sum|none=>none)=ok d:=a;cases n:intsOf ds with
   |none=>rw[n]at a;cases a
   |some ns =>
    rw[n]at a;cases a;cases eu n;cases c with
    |lst h r=>cases r.ofInts;exact⟨_,ns,rfl,h.sq,g _ H1 e1 .int⟩
  |_=>exact nk a
 |all1 =>
  ext(⟨x,rfl⟩:Rq rfl a)(⟨v,rfl,c⟩:m.one);cases x with
  |lst f ds =>
   have a:(match jI ds with|↥bs=>ok (.bl (bs.all id))|none=>none)=ok d:=a;cases n:jI ds with
   |none=>rw[n]at a;cases a
   |some ns =>
    rw[n]at a;cases a;cases xj n;cases c with
    |lst h r=>cases r.Mv;exact⟨_,ns,rfl,h.sq,g _ H1 e1 .bl⟩
  |_=>exact nk a
 |iL =>
  ext(⟨x,rfl⟩:Rq rfl a)(⟨v,rfl,c⟩:m.one);have fin:∀ds,vz ds=ok d->∃ns:ae,ds=ns.map D.int/\ns.length<64/\∀l,H1 l=none->Q (.ref l) (upd H1 l (.lst ((sortI ns).map V.int))):=by
   intro ds e;unfold vz at e;split at e
   ·rename_i ns n;split at e
    ·rename_i s;cases e;refine⟨ns,eu n,s,λl b=>g _ _ (e1.trans (aL.upd b)) (cz.qT (e1.free b) (e1.trans (aL.upd b)) aU (rT _))⟩
    ·cases e
   ·cases e
  cases x with
  |tup ds =>
   ext(⟨ns,rfl,s,q⟩:fin ds a);cases c with
   |tup h r=>cases r.ofInts;exact⟨_,ns,rfl,.inr h,s,q⟩
  |_=>exact nk a
def TF(L:Lk X S k Φ){f:Bf}{y:Expr}{ys:aj}{p:Pos}(b:gq S.sc (uM f:Str)=true)(c:(uM f:Str)∈S.bl)(d:PA X (y::ys) (sW X F Φ cs))
  (a:∀es,cm (y::es) X.env=(false,eval y X.env)::cm es X.env) (hpl:∀pos,(nw pos (cm ys X.env)).any (·.1)=false):PE X (.Call (.Name (uM f:Str) p) (y::ys) [] pos) (tD X F Φ (.bf f cs)):=by
 refine PE.imp (t:=Td (rBf X.K f) (sW X F Φ cs)) ?_ λσ H Q e=>Lf e;cases f with
 |len=>exact cZ uJ (L.gl b) (L.bl _ c) XX d (he:=a _) (hpl:=hpl _)
 |abs=>exact cZ He (L.gl b) (L.bl _ c) ⇑6 d (he:=a _) (hpl:=hpl _)
 |min2=>exact cZ (CH L.calm) (L.gl b) (L.bl _ c) ⇑6 d (he:=a _) (hpl:=hpl _)
 |max2=>exact cZ (CJ L.calm) (L.gl b) (L.bl _ c) ⇑6 d (he:=a _) (hpl:=hpl _)
 |list1=>exact rP uI (L.gl b) (L.bl _ c) ⇑6 d (he:=a _) (hpl:=hpl _)
 |tuple1=>exact rP rb (L.gl b) (L.bl _ c) ⇑6 d (he:=a _) (hpl:=hpl _)
 |ju=>exact cZ (CG L.calm) (L.gl b) (L.bl _ c) ⇑6 d (he:=a _) (hpl:=hpl _)
 |iL=>exact cZ uH (L.gl b) (L.bl _ c) ⇑6 d (he:=a _) (hpl:=hpl _)
 |all1=>exact cZ (CK L.calm) (L.gl b) (L.bl _ c) ⇑6 d (he:=a _) (hpl:=hpl _)
protected def I0(L:Lk X S k Φ){a:CE}{e:Expr}{p:Pos}(hf:gq S.sc ("len" : Str)=true)(i:("len" : Str)∈S.bl)(s:gq S.sc ("set" : Str)=true)(g:("set" : Str)∈S.bl)
  (t:PE X e (tD X F Φ a)) (j:∀es,cm (e::es) X.env=(false,eval e X.env)::cm es X.env):PE X (.Call (.Name ("len" : Str) p) [.Call (.Name ("set" : Str) p') [e] [] pos'] [] pos) (tD X F Φ (.mW a)):=by
 refine PE.imp (Jx L.calm (L.gl hf) (L.bl _ i) (L.gl s) (L.bl _ g) (cc t dt (j _)) j) λσ H Q c=>?_;ext(⟨R,τ,ρ,d,y,b,c⟩:c)(⟨x,u,b⟩:aJ b);refine tD.intro y u λv H1 e1 r1=>?_;ext(⟨l,z,m⟩:r1);cases x with
 |tup ds =>
  simp only[z7]at b;split at b
  ·rename_i ns n;split at b
   ·rename_i q;cases b;cases eu n;cases m with
    |tup h r=>cases r.ofInts;exact⟨_,ns,rfl,h,q,c _ H1 e1 .int⟩
   ·cases b
  ·cases b
 |_=>exact nk b
def NY{a:CE}{e:Expr}(h:PE X e (tD X F Φ a)):PE X (.UnaryOp .Not e pos) (tD X F Φ (.not a)):=by
 refine PE.imp (Om h) λσ H Q g=>?_;ext(⟨R,τ,ρ,d,l,i,g⟩:g)(⟨b,c,i⟩:aJ i)(⟨x,j,c⟩:aJ c);cases i;refine tD.intro l j λv H1 e1 r1=>?_;cases x<;>simp[jq]at c;cases c;exact⟨_,r1.B4,g _ H1 e1 .bl⟩
def NN{a:CE}{e:Expr}(h:PT X e (jW X F Φ a)):PT X (.UnaryOp .Not e pos) (jW X F Φ (.not a)):=by
 refine PT.imp (tH h) λσ H Q i=>?_;ext(⟨R,τ,ρ,b,n,g,i⟩:i);unfold wJ at g;ext(⟨d,l,g⟩:aJ g)(⟨c,m,l⟩:aJ l);cases l;have j:b=!c:=by
  have e2:ok (!c)=ok b:=g;exact(Sz (aaV e2)).symm
 subst j;exact⟨R,τ,ρ,c,n,m,λH' e=>i H' e⟩
def NZ{a:CE}{e:Expr}(h:PE X e (tD X F Φ a)):PE X (.UnaryOp .USub e pos) (tD X F Φ (.neg a)):=by
 refine PE.imp (T7 Nz h) λσ H Q c=>?_;ext(⟨R,τ,ρ,d,i,b,c⟩:c)(⟨x,g,b⟩:aJ b);refine tD.intro i g λv H1 e1 r1=>?_;cases x<;>simp[JL]at b;cases b;exact⟨_,r1.isInt,c _ H1 e1 .int⟩
def Lp{c:CE}{H:Hp}(e:tD X F Φ (.and [c]) σ H Q):tD X F Φ c σ H Q:=by
 ext(⟨R,τ,ρ,d,j,g,e⟩:e)(⟨b,a,g⟩:aJ g)(⟨x,i,a⟩:aJ a);cases g;refine tD.intro j i λv H1 e1 r1=>?_;cases x<;>simp[jq]at a;cases a;exact[r1.B4]\e _ H1 e1 .bl
def Ov{c:CE}{H:Hp}(e:tD X F Φ (.or [c]) σ H Q):tD X F Φ c σ H Q:=by
 ext(⟨R,τ,ρ,d,j,g,e⟩:e)(⟨b,a,g⟩:aJ g)(⟨x,i,a⟩:aJ a);cases g;refine tD.intro j i λv H1 e1 r1=>?_;cases x<;>simp[jq]at a;cases a;exact[r1.B4]\e _ H1 e1 .bl
def Ho{c:CE}{H:Hp}{Q:Bool->Hp->Prop}(e:jW X F Φ (.and [c]) σ H Q):jW X F Φ c σ H Q:=by
 ext(⟨R,τ,ρ,d,j,a,e⟩:e);unfold wJ at a;ext(⟨b,g,a⟩:aJ a)(⟨x,i,g⟩:aJ g);cases g;cases a;exact⟨R,τ,ρ,_,j,i,e⟩
def JB{c:CE}{H:Hp}{Q:Bool->Hp->Prop}(e:jW X F Φ (.or [c]) σ H Q):jW X F Φ c σ H Q:=by
 ext(⟨R,τ,ρ,d,j,a,e⟩:e);unfold wJ at a;ext(⟨b,g,a⟩:aJ a)(⟨x,i,g⟩:aJ g);cases g;cases a;exact⟨R,τ,ρ,_,j,i,e⟩
def Hq{c:CE}{H:Hp}(g:tD X F Φ (.and (c::c'::cs)) σ H Q):LR (tD X F Φ c) (tD X F Φ (.and (c'::cs))) σ H Q:=by
 ext(⟨R,τ,ρ,d,l,a,g⟩:g)(⟨b,j,a⟩:aJ a)(⟨x,n,j⟩:aJ j);refine tD.intro l n λv H1 e1 r1=>?_;cases x<;>simp[jq]at j;cases j;refine⟨_,r1.B4,?_⟩;cases b with
 |true =>
  rw[zac rfl]at a ⊢;exact tD.intro (l.go e1) a λv H' e r=>g v H' (e1.trans e) ((r.old e1).mono λi m=>aay _ m)
 |false =>
  rw[zab ⇑5]at a ⊢;cases a;exact g _ H1 e1 .bl
def JC{c:CE}{H:Hp}(g:tD X F Φ (.or (c::c'::cs)) σ H Q):S7 (tD X F Φ c) (tD X F Φ (.or (c'::cs))) σ H Q:=by
 ext(⟨R,τ,ρ,d,l,a,g⟩:g)(⟨b,j,a⟩:aJ a)(⟨x,n,j⟩:aJ j);refine tD.intro l n λv H1 e1 r1=>?_;cases x<;>simp[jq]at j;cases j;refine⟨_,r1.B4,?_⟩;cases b with
 |false =>
  rw[zab ⇑5]at a ⊢;exact tD.intro (l.go e1) a λv H' e r=>g v H' (e1.trans e) ((r.old e1).mono λi m=>aay _ m)
 |true =>
  rw[zac rfl]at a ⊢;cases a;exact g _ H1 e1 .bl
def CL{c:CE}{H:Hp}{Q:Bool->Hp->Prop}(g:jW X F Φ (.and (c::c'::cs)) σ H Q):Tf (jW X F Φ c) (jW X F Φ (.and (c'::cs))) σ H Q:=by
 ext(⟨R,τ,ρ,d,j,a,g⟩:g);unfold wJ at a;ext(⟨x,l,i⟩:aJ a)(⟨b,m,a⟩:aJ l);refine⟨R,τ,ρ,b,j,m,λH1 e1=>?_⟩;cases b with
 |true =>
  rw[zac rfl]at a ⊢;exact⟨R,τ,ρ,d,j.go e1,by unfold wJ;rw[show aZ Φ (.and (c'::cs)) ρ=ok x from a];exact i,λH' e=>g H' (e1.trans e)⟩
 |false =>
  rw[zab ⇑5]at a ⊢;cases a;cases i;exact g H1 e1
def EH{c:CE}{H:Hp}{Q:Bool->Hp->Prop}(g:jW X F Φ (.or (c::c'::cs)) σ H Q):tOr (jW X F Φ c) (jW X F Φ (.or (c'::cs))) σ H Q:=by
 ext(⟨R,τ,ρ,d,j,a,g⟩:g);unfold wJ at a;ext(⟨x,l,i⟩:aJ a)(⟨b,m,a⟩:aJ l);refine⟨R,τ,ρ,b,j,m,λH1 e1=>?_⟩;cases b with
 |false =>
  rw[zab ⇑5]at a ⊢;exact⟨R,τ,ρ,d,j.go e1,by unfold wJ;rw[show aZ Φ (.or (c'::cs)) ρ=ok x from a];exact i,λH' e=>g H' (e1.trans e)⟩
 |true =>
  rw[zac rfl]at a ⊢;cases a;cases i;exact g H1 e1
def lL{H:Hp}{Q:ah->Hp->Prop}(a:sW X F Φ [] σ H Q):NH σ H Q:=by
 ext(⟨R,τ,ρ,d,c,b,a⟩:a);cases b;exact a _ H (aL.refl H) .nil
def hZ{c:CE}{H:Hp}{Q:ah->Hp->Prop}(b:sW X F Φ (c::cs) σ H Q):DJ (tD X F Φ c) (sW X F Φ cs) σ H Q:=by
 ext(⟨R,τ,ρ,d,g,a,b⟩:b)(⟨x,l,a⟩:aJ a)(⟨xs,m,a⟩:aJ a);cases a;refine tD.intro g l λv H1 e1 r1=>⟨R,τ,ρ,xs,g.go e1,m,λvs H2 e2 j=>b _ H2 (e1.trans e2) (de.cons e1 e2 (r1.mono λi e=>aa0 _ e) (j.mono λi e=>aay _ e))⟩
def bG{c:CE}{e:Expr}(h:cg S c e=true)(es:aj)(env:Env):cm (e::es) env=(false,eval e env)::cm es env:=by
 cases e<;>first|rfl | (cases c<;>exact(aaj h).elim)
theorem yM:∀{cs:aA} {es:aj},bV S cs es=true->∀(pos:Pos) (env:Env),(nw pos (cm es env)).any (·.1)=false
 |[],[],_,_,_=>rfl
 |[],_::_,h,_,_=>by exact(aaj h).elim
 |_::_,[],h,_,_=>by exact(aaj h).elim
 |c::cs,e::es,h,pos,env=>by
  replace h:=aC h;rw[bG h.1];have:=yM h.2 pos env;unfold nw at this ⊢;simp only[zal,yap,yas];exact this
def sD{c:CE}{e:Expr}(h:cg S c e=true):oU e:=by
 intro o i;cases e<;>first|rfl | (cases c<;>exact(aaj h).elim)
def DV{j:Nat}:PE X (.Constant .none j pos) (tD X F Φ .b0):=PE.imp Ez λσ H Q c=>by ext(⟨R,τ,ρ,d,e,b,a⟩:c);cases b;exact a _ H (aL.refl H) .b0
def L0{b:Bool}{j:Nat}:PE X (.Constant (.bool b) j pos) (tD X F Φ (.bl b)):=PE.imp Mn λσ H Q e=>by ext(⟨R,τ,ρ,d,g,c,a⟩:e);cases c;exact a _ H (aL.refl H) .bl
def DW{i:Int}{j:Nat}:PE X (.Constant ↑i j pos) (tD X F Φ ↑i):=PE.imp Oo λσ H Q c=>by ext(⟨R,τ,ρ,d,e,b,a⟩:c);cases b;exact a _ H (aL.refl H) .int
def DU{i:Str}{j:Nat}:PE X (.Constant (.str i) j pos) (tD X F Φ (.str i)):=PE.imp pz λσ H Q c=>by ext(⟨R,τ,ρ,d,e,b,a⟩:c);cases b;exact a _ H (aL.refl H) .str
def O_(L:Lk X S k Φ){y:Expr}{p:Pos}(m:gq S.sc ("range" : Str)=true)(l:("range" : Str)∈S.bl)(j:PA X [y] (sW X F Φ es))(a:bV S es [y]=true)
  (pins:au) (s:ap) (σ:St) (H:Hp) (R:ag) (τ:Addr->Option bw) (ρ:aS) (xs items:aa) (I:Inv X pins σ H s) (r:SI X F R τ ρ σ H) (q:bY Φ es ρ=ok xs) (b:eQ Φ .nC xs=ok items) (d:It->Hp->Prop)
  (hR:∀J H2,aL H H2->Yl X.K J (lQ X F τ (caps++eE es) H2) H2 items->d J H2) :
  ⇑0 (eval (.Call (.Name ("range" : Str) p) [y] [] B6) X.env) (λv e=>⇑0 (re v) (HY X pins σ target d) X.xe e) X.xe s:=by
 match es,a with
 |[c],a =>
  replace a:=aC a;refine rO (L.gl m) (L.bl _ l) j (bG a.1 _ _) pins s σ H d I ⟨R,τ,ρ,xs,r,q,λvs H1 e1 g=>?_⟩;ext(⟨τt,z,i⟩:g);obtain⟨n,rfl⟩:∃n,xs=[.int n]:=by
   cases xs with
   |nil=>cases b
   |cons x t=>cases x<;>first | (cases b;done) | (cases t with|nil=>exact⟨_,rfl⟩|cons _ _=>cases b)
  cases i.ints1
  ·ext(⟨⟨c1,c2⟩,b⟩:rX b);subst b;have u:(cU:Int)=1000000:=rfl;refine⟨n,rfl,by left,by left,hR _ H1 e1 ?_⟩;have:=De (X:=X) (lo:=0) (n:=n.toNat) (R:=lQ X F τ (caps++eE [c]) H1) (H1:=H1);simpa using this
 |[],a=>exact(aaj a).elim
 |_::_::_,a=>exact(aaj (aC a).2).elim
def J7(L:Lk X S k Φ){y z:Expr}{p:Pos}(q:gq S.sc ("range" : Str)=true)(l:("range" : Str)∈S.bl)(j:PA X [y,z] (sW X F Φ es))(a:bV S es [y,z]=true)
  (pins:au) (s:ap) (σ:St) (H:Hp) (R:ag) (τ:Addr->Option bw) (ρ:aS) (xs items:aa) (I:Inv X pins σ H s) (B:SI X F R τ ρ σ H) (r:bY Φ es ρ=ok xs) (b:eQ Φ .mM xs=ok items) (d:It->Hp->Prop)
  (hR:∀J H2,aL H H2->Yl X.K J (lQ X F τ (caps++eE es) H2) H2 items->d J H2) :
  ⇑0 (eval (.Call (.Name ("range" : Str) p) [y,z] [] B6) X.env) (λv e=>⇑0 (re v) (HY X pins σ target d) X.xe e) X.xe s:=by
 match es,a with
 |[c,c'],a =>
  replace a:=And.intro (aC a).1 (aC (aC a).2);refine rN (L.gl q) (L.bl _ l) j (by rw[bG a.1,bG a.2.1];rfl) (bG a.2.1 _ _) pins s σ H d I ⟨R,τ,ρ,xs,B,r,λvs H1 e1 g=>?_⟩;ext(⟨τt,O,i⟩:g);obtain⟨m,n,rfl⟩:∃m n,xs=[.int m,.int n]:=by
   cases xs with
   |nil=>cases b
   |cons x t=>cases x<;>first | (cases b;done) | (cases t with
    |nil=>cases b
    |cons y u=>cases y<;>first | (cases b;done) | (cases u with|nil=>exact⟨_,_,rfl⟩|cons _ _=>cases b))
  cases i.ints2
  ·ext(⟨⟨c1,c2,W,U⟩,b⟩:rX b);subst b;have M:(cU:Int)=1000000:=rfl;exact⟨m,n,rfl,⟨by left,by left,by left,by left⟩,hR _ H1 e1 De⟩
 |[],a=>exact(aaj a).elim
 |[_],a=>exact(aaj (aC a).2).elim
 |_::_::_::_,a=>exact(aaj (aC (aC a).2).2).elim
def O8(L:Lk X S k Φ){c:CE}{y:Expr}(z:PE X y (tD X F Φ c))
  (pins:au) (s:ap) (σ:St) (H:Hp) (R:ag) (τ:Addr->Option bw) (ρ:aS) (xs items:aa) (I:Inv X pins σ H s) (g:SI X F R τ ρ σ H) (d:bY Φ [c] ρ=ok xs) (r:eQ Φ .seq xs=ok items) (j:It->Hp->Prop)
  (hR:∀J H2,aL H H2->Yl X.K J (lQ X F τ (caps++eE [c]) H2) H2 items->j J H2) :
  ⇑0 (eval y X.env) (λv M=>⇑0 (re v) (HY X pins σ target j) X.xe M) X.xe s:=by
 ext(⟨x,B,d⟩:aJ d)(⟨xs',u,d⟩:aJ d);cases u;cases d;have b:∀i∈gJ c,i∈caps++eE [c]:=λi O=>aay _ (aa0 _ O);cases x with
 |tup ds =>
  cases r;refine x9 z pins s σ H j I (tD.intro g B λv H1 e1 l=>?_);ext(⟨τt,t,n⟩:l);cases n with
  | @tup _ p ys _ a m=>exact⟨p,rfl,⟨ys,a⟩,hR _ H1 e1 (Dd (q:=[]) (λe=>aY.same e a) (aH.jz ⇑10 (x3 g t b) m _ _))⟩
 |lst f ds =>
  cases r;refine tM z pins s σ H j I (tD.intro g B λv H1 e1 l=>?_);ext(⟨τt,t,n⟩:l);cases n with
  | @lst _ p ys _ _ a m=>exact⟨p,rfl,⟨ys,a.sq⟩,hR _ H1 e1 (Dd (q:=[]) (λe=>e.seq a.sq) (aH.jz ⇑10 (x3 g t b) m _ _))⟩
 |_=>cases r
def Sy{R:ag}{H:Hp}{xs:aa}{J:It}(l:SI X F R τ ρ σ H)(hs:∀i∈fv,i∈fv')(r:de X.K (gP X F) R τ fv H H2 vs xs)(y:Yy X.K J H2 vs xs items):
  Yl X.K J (lQ X F τ fv' H2) H2 items:=by
 ext(⟨τt,j,c⟩:r);have a:∀H',aL H2 H'->aH (aY X.K H') (nd X.K (lQ X F τ fv' H2) ⇑7 ⇑8 H') [] 0 vs (ak aK xs):=λH' e =>
  (aH.jz (T':=aY X.K H2) ⇑10 (x3 l j hs) c [] 0).imp (λ_ _ h=>aY.same e h) λ_ _ _ _ h=>nd.same e h
 have st:∀H',aL H2 H'->xp X.K H2 vs xs H':=λH' e=>⟨⟨_,a H2 (aL.refl H2),λp o _ h=>e p o h⟩,λ_ _ h=>aY.same e h⟩
 exact⟨λi H' e b=>y.go i H' _ (st H' e) (a H' e) b,λi H' x d e b g=>y.zd i H' _ x d (st H' e) (a H' e) b g,λi H' e b=>y.stop i H' _ (st H' e) (a H' e) b⟩
def Pa(L:Lk X S k Φ){p:Nat}{y:Expr}(l:S.px.pi p S.sc S.bl y=↥args)(j:(decide (1100<=p)||jC target)=true)(hs:qJ X F Φ es args)
  (pins:au) (s:ap) (σ:St) (H:Hp) (R:ag) (τ:Addr->Option bw) (ρ:aS) (xs items:aa) (I:Inv X pins σ H s) (b:SI X F R τ ρ σ H) (t:bY Φ es ρ=ok xs) (g:eQ Φ (.cM p) xs=ok items) (a:It->Hp->Prop)
  (hR:∀J H2,aL H H2->Yl X.K J (lQ X F τ (caps++eE es) H2) H2 items->a J H2) :
  ⇑0 (eval y X.env) (λv e=>⇑0 (re v) (HY X pins σ target a) X.xe e) X.xe s:=by
 ext(⟨d,q,n⟩:aJ (show bd (Φ p xs) xZ=ok items from g));exact L.pr.i X _ _ k L.pX p y args l F es target j hs pins s σ H R τ ρ xs d items I b t q n a λJ H2 vs e2 r c=>hR J H2 e2 (Sy b (λi m=>by simp[m]) r c)
def wX{i:Sx}{a:aj}(m:bU.length<=1)(g:bV i bU a=true)
  (l:∀(b:Cx) (d:ag),Lk b i k Φ->∀(j:Nat) (c:CE) (e:Expr),bU[j]?=↥c->a[j]?=↥e->PE b e (tD b d Φ c)/\PT b e (jW b d Φ c)) :
  (bU=[]/\a=[])\/∃c e,bU=[c]/\a=[e]/\∀(b:Cx) (d:ag),Lk b i k Φ->PT b e (jW b d Φ c):=by
 cases bU with
 |nil=>cases a with
  |nil=>exact .inl ⟨rfl,rfl⟩
  |cons _ _=>exact(aaj g).elim
 |cons c cs=>cases cs with
  |cons _ _=>simp at m
  |nil=>cases a with
   |nil=>exact(aaj g).elim
   |cons e a=>cases a with
    |cons _ _=>exact(aaj (aC g).2).elim
    |nil=>exact .inr ⟨c,e,rfl,rfl,λb d n=>(l b d n 0 c e rfl rfl).2⟩
def WA(S:Sx)(a:IK)(es:aA)(target iter:Expr):Bool:=match a with
 |.nC=>bz (fc iter) λw=>decide (w.1=("range" : Str))&&gq S.sc w.1&&decide (w.1∈S.bl)&&bz (one w.2) λy=>bV S es [y]
 |.mM=>bz (fc iter) λw=>decide (w.1=("range" : Str))&&gq S.sc w.1&&decide (w.1∈S.bl)&&bz (two w.2) λy=>bV S es [y.1,y.2]
 |.seq=>bV S es [iter]
 |.cM p=>Xz iter&&(decide (1100<=p)||jC target)&&bz (S.px.pi p S.sc S.bl iter) λxs=>bV S es xs
def FF(L:Lk X S k Φ){g:IK}(I:∀l,bV S es l=true->PA X l (sW X F Φ es))
  (W:∀l,bV S es l=true->∀(j:Nat) (c:CE) (e:Expr),es[j]?=↥c->l[j]?=↥e->PE X e (tD X F Φ c)/\PT X e (jW X F Φ c)) (n:∀l,bV S es l=true->qJ X F Φ es l) (a:WA S g es target iter=true) :
  ∀(pins:au) (s:ap) (σ:St) (H:Hp) (R:ag) (τ:Addr->Option bw) (ρ:aS) (xs items:aa),Inv X pins σ H s->SI X F R τ ρ σ H->bY Φ es ρ=ok xs->eQ Φ g xs=ok items->∀(M:It->Hp->Prop),
   (∀J H2,aL H H2->Yl X.K J (lQ X F τ (caps++eE es) H2) H2 items->M J H2) ->
   ⇑0 (eval iter X.env) (λv U=>⇑0 (re v) (HY X pins σ target M) X.xe U) X.xe s:=by
 cases g with
 |nC =>
  ext(⟨⟨x,as⟩,i,a⟩:bu a)(⟨p,B6,rfl⟩:cn i)(⟨t,d⟩:aC a)(⟨u,q⟩:aC t)(⟨B,r⟩:aC u);obtain rfl:x=_:=aag B;ext(⟨y,m,b⟩:bu d);obtain rfl:as=[y]:=b8 m;exact O_ L r (aag q) (I _ b) b
 |mM =>
  ext(⟨⟨x,as⟩,i,a⟩:bu a)(⟨p,B6,rfl⟩:cn i)(⟨t,d⟩:aC a)(⟨u,q⟩:aC t)(⟨B,r⟩:aC u);obtain rfl:x=_:=aag B;ext(⟨⟨y,z⟩,m,b⟩:bu d);obtain rfl:as=[y,z]:=fq m;exact J7 L r (aag q) (I _ b) b
 |seq =>
  ext(O:W _ a);cases es with
  |nil=>exact(aaj a).elim
  |cons c cs=>cases cs with
   |cons _ _=>exact(aaj (aC a).2).elim
   |nil=>exact O8 L (O 0 c _ rfl rfl).1
 |cM p =>
  ext(⟨a,d⟩:aC a)(⟨xs,Y,b⟩:bu d);exact Pa L Y (aC a).2 (n _ b)
mutual
theorem bF:∀(c:CE) (X:Cx) (S:Sx) (F:ag) (L:Lk X S k Φ) (e:Expr),cg S c e=true->PE X e (tD X F Φ c)/\PT X e (jW X F Φ c)
 |.cM p cs,X,S,F,L,e,h=>by
  ext(⟨args,ha,hb⟩:bu (aC h).2);exact L.pr.e X _ _ k L.pX p e args ha F cs (jZ cs X S F L args hb)
 |.b0,X,S,F,L,e,h=>by
  ext(⟨c,m,h_1⟩:bu h)(⟨j,p,rfl⟩:vm m)(rfl:BY h_1);exact⟨DV,cY DV λ_=>rfl⟩
 |.bl b,X,S,F,L,e,h=>by
  ext(⟨c,m,h_1⟩:bu h)(⟨j,p,rfl⟩:vm m)(rfl:FJ h_1);exact⟨L0,cY L0 λ_=>rfl⟩
 |.int i,X,S,F,L,e,h=>by
  ext(⟨c,m,h_1⟩:bu h)(⟨j,p,rfl⟩:vm m)(rfl:BZ h_1);exact⟨DW,cY DW λ_=>rfl⟩
 |.str t,X,S,F,L,e,h=>by
  ext(⟨c,m,h_1⟩:bu h)(⟨j,p,rfl⟩:vm m)(rfl:BX h_1);exact⟨DU,cY DU λ_=>rfl⟩
 |.v i,X,S,F,L,e,h=>by
  ext(⟨x,m,h'⟩:bu h)(⟨p,rfl⟩:gQ m);have:=Zj (F:=F) L h;exact⟨this,cY this λ_=>rfl⟩
 |.glo x i,X,S,F,L,e,h=>by
  ext(⟨y,m,h_1⟩:bu h)(⟨pos,rfl⟩:gQ m)(⟨h_2,I⟩:aC h_1)(⟨B,s⟩:aC h_2)(⟨U,q⟩:aC B)(rfl:aag U)(⟨u,hm,r⟩:L.cs _ _ (aag s));have this:PE X (.Name y pos) (tD X F Φ (.glo y i)):=PE.imp (zW (v:=.int i) (L.gl q) hm r (dZ I)) λσ H Q b9=>by ext(⟨R,τ,ρ,d,Si,O,hq⟩:b9);cases O;exact hq _ H (aL.refl H) .int
  exact⟨this,cY this λ_=>rfl⟩
 |.bin op a b,X,S,F,L,e,h=>by
  ext(⟨⟨l,o,r⟩,m,h_1⟩:bu h)(⟨pos,rfl⟩:Iv m)(⟨h_2,s⟩:aC h_1)(⟨B,q⟩:aC h_2);obtain rfl:o=RS op:=aag B;have:=N3 (F:=F) (pos:=pos) L (op:=op) (bF a X S F L _ q).1 (bF b X S F L _ s).1;exact⟨this,cY this λ_=>rfl⟩
 |.neg a,X,S,F,L,e,h=>by
  ext(⟨⟨o,x⟩,m,h_1⟩:bu h)(⟨pos,rfl⟩:Dn m)(⟨h_2,q⟩:aC h_1);obtain rfl:o=.USub:=aag h_2;have:=NZ (F:=F) (Φ:=Φ) (pos:=pos) (bF a X S F L _ q).1;exact⟨this,cY this λ_=>rfl⟩
 |.not a,X,S,F,L,e,h=>by
  ext(⟨⟨o,x⟩,m,h_1⟩:bu h)(⟨pos,rfl⟩:Dn m)(⟨h_2,q⟩:aC h_1);obtain rfl:o=.Not:=aag h_2;exact⟨NY (bF a X S F L _ q).1,NN (bF a X S F L _ q).2⟩
 |.and cs,X,S,F,L,e,h=>by
  ext(⟨⟨o,vs⟩,m,h_1⟩:bu h)(⟨pos,rfl⟩:vn m)(⟨h_2,q⟩:aC h_1);obtain rfl:o=.And:=aag h_2;exact⟨(mI cs X S F L vs q pos).1,(mI cs X S F L vs q pos).2.pt⟩
 |.or cs,X,S,F,L,e,h=>by
  ext(⟨⟨o,vs⟩,m,h_1⟩:bu h)(⟨pos,rfl⟩:vn m)(⟨h_2,q⟩:aC h_1);obtain rfl:o=.Or:=aag h_2;exact⟨(o_ cs X S F L vs q pos).1,(o_ cs X S F L vs q pos).2.pt⟩
 |.cmp op a b,X,S,F,L,e,h=>by
  ext(⟨⟨l,os,rs⟩,m,h_1⟩:bu h)(⟨pos,rfl⟩:zj m)(⟨h_2,s⟩:aC h_1)(⟨B,q⟩:aC h_2)(⟨r,hr,abr⟩:bu s)(⟨VN,I⟩:aC abr);obtain rfl:os=[ZO op]:=aag B;obtain rfl:rs=[r]:=b8 hr;exact⟨PE.imp (zX (EJ L op) (bF a X S F L _ q).1 (bF b X S F L _ VN).1 (EW I)) λ_ _ _ B=>wZ B,PT.imp (zQ (EJ L op) (bF a X S F L _ q).1 (bF b X S F L _ VN).1 (EW I)) λ_ _ _ B=>Bq B⟩
 |.qV a t,X,S,F,L,e,h=>by
  ext(⟨⟨f,as⟩,m,h_1⟩:bu h)(⟨p,pos,rfl⟩:cn m)(⟨h_2,h5⟩:aC h_1)(⟨B,s⟩:aC h_2)(⟨U,q⟩:aC B);obtain rfl:f=_:=aag U;ext(⟨⟨e,g⟩,hw,Ks⟩:bu h5);obtain rfl:as=[e,g]:=fq hw;ext(⟨VI,Z⟩:aC Ks)(⟨x,hn,F_⟩:bu Z);obtain⟨p',rfl⟩:∃p,g=.Name x p:=gQ hn;ext(⟨F9,J⟩:aC F_)(⟨F8,I⟩:aC F9)(rfl:aag F8);have:=N1 (F:=F) (p:=p) (p':=p') (pos:=pos) L q (aag s) I (aag J) (bF a X S F L _ VI).1 (λes=>bG VI es _);exact⟨this,cY this λ_=>rfl⟩
 |.call f cs,X,S,F,L,e,h=>by
  ext(⟨⟨x,as⟩,m,h_1⟩:bu h)(⟨p,pos,rfl⟩:cn m)(⟨h_2,J⟩:aC h_1)(⟨B,I⟩:aC h_2)(⟨q,s⟩:aC B)(⟨⟨y,ys⟩,Y,M⟩:bu J);obtain rfl:as=y::ys:=xM Y;cases cs with
  |nil=>exact(aaj M).elim
  |cons c MZ =>
   ext(VL:aC M);have:=Ja (F:=F) (p:=p) (pos:=pos) L (aag q) s I (fW (c::MZ) X S F L (y::ys) M) (λes=>bG VL.1 es _) (λpos=>yM VL.2 pos _);exact⟨this,cY this λ_=>rfl⟩
 |.bf f cs,X,S,F,L,e,h=>by
  ext(⟨⟨x,as⟩,m,h_1⟩:bu h)(⟨p,pos,rfl⟩:cn m)(⟨h_2,J⟩:aC h_1)(⟨B,I⟩:aC h_2)(⟨U,s⟩:aC B);obtain rfl:x=_:=aag U;ext(⟨⟨y,ys⟩,Y,M⟩:bu J);obtain rfl:as=y::ys:=xM Y;cases cs with
  |nil=>exact(aaj M).elim
  |cons c MZ =>
   ext(VL:aC M);have:=TF (F:=F) (p:=p) (pos:=pos) L s (aag I) (fW (c::MZ) X S F L (y::ys) M) (λes=>bG VL.1 es _) (λpos=>yM VL.2 pos _);exact⟨this,cY this λ_=>rfl⟩
 |.mW a,X,S,F,L,e,h=>by
  ext(⟨⟨x,as⟩,m,h_1⟩:bu h)(⟨p,pos,rfl⟩:cn m)(⟨h_2,J⟩:aC h_1)(⟨B,s⟩:aC h_2)(⟨U,q⟩:aC B);obtain rfl:x=_:=aag U;ext(⟨y,Y,M⟩:bu J);obtain rfl:as=[y]:=b8 Y;ext(⟨⟨z,bs⟩,hw,h4_3⟩:bu M)(⟨p',pos',rfl⟩:cn hw)(⟨abn,h5⟩:aC h4_3)(⟨abm,Z⟩:aC abn)(⟨abl,I⟩:aC abm);obtain rfl:z=_:=aag abl;ext(⟨u,aaw,Ks⟩:bu h5);obtain rfl:bs=[u]:=b8 aaw;have:=I0 (F:=F) (p:=p) (p':=p') (pos:=pos) (pos':=pos') L q (aag s) I (aag Z) (bF a X S F L _ Ks).1 (λes=>bG Ks es _);exact⟨this,cY this λ_=>rfl⟩
 |.ix a b,X,S,F,L,e,h=>by
  ext(⟨⟨l,r⟩,m,h_1⟩:bu h)(⟨pos,rfl⟩:lI m)(⟨q,s⟩:aC h_1);have:=TC (F:=F) (pos:=pos) L (bF a X S F L _ q).1 (bF b X S F L _ s).1 (sD s);exact⟨this,cY this λ_=>rfl⟩
 |.tup cs,X,S,F,L,e,h=>by
  ext(⟨es,m,h_1⟩:bu h)(⟨n,pos,rfl⟩:jU m)(⟨q,s⟩:aC h_1);have:=NX (F:=F) (n:=n) (pos:=pos) (fW cs X S F L es q) (aag s);exact⟨this,cY this λ_=>rfl⟩
 |.lst cs,X,S,F,L,e,h=>by
  ext(⟨es,m,h_1⟩:bu h)(⟨pos,rfl⟩:zh m)(⟨q,s⟩:aC h_1);have:=N0 (F:=F) (pos:=pos) (fW cs X S F L es q) (aag s);exact⟨this,cY this λ_=>rfl⟩
 |.comp n t caps ik es bU elt,X,S,F,L,e,h=>by
  ext(⟨⟨ku,gens,sc⟩,m,h_1⟩:bu h)(⟨pos,rfl⟩:Du m)(⟨⟨target,iter,W,a⟩,hg,h_2⟩:bu h_1);obtain rfl:gens=_:=b8 hg;ext(⟨B,Z⟩:aC h_2)(⟨U,h5⟩:aC B)(⟨h_5,J⟩:aC U)(⟨h_6,I⟩:aC h_5)(⟨h_7,s⟩:aC h_6)(⟨h_8,q⟩:aC h_7);obtain rfl:a=0:=aag h_8;have pW:=λ(X':Cx) (F':ag) (L':Lk X' (S.inner target caps sc) k Φ)=>jv bU X' _ F' L' W J;have this:PE X (.ListComp ku [⟨target,iter,W,0⟩] sc pos) (tD X F Φ (.comp n t caps ik es bU elt)) :=
   I_ L (sC q) s (λX' F' L'=>(bF elt X' _ F' L' ku h5).1) (wX (aag I) J pW) (FF L (λl=>fW es X S F L l) (λl=>jv es X S F L l) (λl=>jZ es X S F L l) Z)
  exact⟨this,cY this λ_=>rfl⟩
theorem jv:∀(cs:aA) (X:Cx) (S:Sx) (F:ag) (L:Lk X S k Φ) (es:aj),bV S cs es=true->∀(j:Nat) (c:CE) (e:Expr),cs[j]?=↥c->es[j]?=↥e->PE X e (tD X F Φ c)/\PT X e (jW X F Φ c)
 |[],X,S,F,L,_,_=>λj c e h _=>by simp at h
 |_::_,X,S,F,L,[],h=>by exact(aaj h).elim
 |c::cs,X,S,F,L,e::es,h=>λj c' e' hc he=>by
  replace h:=aC h;cases j with
  |zero=>simp at hc he;subst hc he;exact bF c X S F L e h.1
  |succ j=>exact jv cs X S F L es h.2 j c' e' ⇑hc ⇑he
theorem jZ:∀(cs:aA) (X:Cx) (S:Sx) (F:ag) (L:Lk X S k Φ) (es:aj),bV S cs es=true->qJ X F Φ cs es
 |[],X,S,F,L,[],_=>trivial
 |[],X,S,F,L,_::_,h=>by exact(aaj h).elim
 |_::_,X,S,F,L,[],h=>by exact(aaj h).elim
 |c::cs,X,S,F,L,e::es,h=>by
  replace h:=aC h;exact⟨(bF c X S F L e h.1).1,λl=>bG h.1 l _,sD h.1,jZ cs X S F L es h.2⟩
theorem fW:∀(cs:aA) (X:Cx) (S:Sx) (F:ag) (L:Lk X S k Φ) (es:aj),bV S cs es=true->PA X es (sW X F Φ cs)
 |[],X,S,F,L,[],_=>PA.imp dt λ_ _ _ h=>lL h
 |[],X,S,F,L,_::_,h=>by exact(aaj h).elim
 |_::_,X,S,F,L,[],h=>by exact(aaj h).elim
 |c::cs,X,S,F,L,e::es,h=>by
  replace h:=aC h;exact PA.imp (cc (bF c X S F L e h.1).1 (fW cs X S F L es h.2) (bG h.1 es _)) λ_ _ _ h=>hZ h
theorem mI:∀(cs:aA) (X:Cx) (S:Sx) (F:ag) (L:Lk X S k Φ) (es:aj),bV S cs es=true->∀pos,PE X (.BoolOp .And es pos) (tD X F Φ (.and cs))/\PW X (.BoolOp .And es pos) (jW X F Φ (.and cs))
 |[],X,S,F,L,_,_,pos=>⟨λ_ _ _ _ _ _ ⟨_,_,_,_,_,O,_⟩=>(by cases O),λ_ _ _ _ _ _ _ b9=>by ext(⟨_,_,_,_,_,O,_⟩:b9);cases O⟩
 |[c],X,S,F,L,[e],h,pos=>by
  replace h:=aC h;exact⟨PE.imp (Ey (bF c X S F L e h.1).1) λ_ _ _ h=>Lp h,PW.imp (zP (bF c X S F L e h.1).2) λ_ _ _ h=>Ho h⟩
 |[_],X,S,F,L,[],h,_=>by exact(aaj h).elim
 |[_],X,S,F,L,_::_::_,h,_=>by exact(aaj (aC h).2).elim
 |_::_::_,X,S,F,L,[],h,_=>by exact(aaj h).elim
 |_::_::_,X,S,F,L,[_],h,_=>by exact(aaj (aC h).2).elim
 |c::c'::cs,X,S,F,L,e::e'::es,h,pos=>by
  replace h:=aC h;ext(r:mI (c'::cs) X S F L (e'::es) h.2 pos);exact⟨PE.imp (Oq (bF c X S F L e h.1).1 r.1) λ_ _ _ h=>Hq h,PW.imp (Ee (bF c X S F L e h.1).2 r.2) λ_ _ _ h=>CL h⟩
theorem o_:∀(cs:aA) (X:Cx) (S:Sx) (F:ag) (L:Lk X S k Φ) (es:aj),bV S cs es=true->∀pos,PE X (.BoolOp .Or es pos) (tD X F Φ (.or cs))/\PW X (.BoolOp .Or es pos) (jW X F Φ (.or cs))
 |[],X,S,F,L,_,_,pos=>⟨λ_ _ _ _ _ _ ⟨_,_,_,_,_,O,_⟩=>(by cases O),λ_ _ _ _ _ _ _ b9=>by ext(⟨_,_,_,_,_,O,_⟩:b9);cases O⟩
 |[c],X,S,F,L,[e],h,pos=>by
  replace h:=aC h;exact⟨PE.imp (Ey (bF c X S F L e h.1).1) λ_ _ _ h=>Ov h,PW.imp (Ed (bF c X S F L e h.1).2) λ_ _ _ h=>JB h⟩
 |[_],X,S,F,L,[],h,_=>by exact(aaj h).elim
 |[_],X,S,F,L,_::_::_,h,_=>by exact(aaj (aC h).2).elim
 |_::_::_,X,S,F,L,[],h,_=>by exact(aaj h).elim
 |_::_::_,X,S,F,L,[_],h,_=>by exact(aaj (aC h).2).elim
 |c::c'::cs,X,S,F,L,e::e'::es,h,pos=>by
  replace h:=aC h;ext(r:o_ (c'::cs) X S F L (e'::es) h.2 pos);exact⟨PE.imp (T8 (bF c X S F L e h.1).1 r.1) λ_ _ _ h=>JC h,PW.imp (L7 (bF c X S F L e h.1).2 r.2) λ_ _ _ h=>EH h⟩
end
def fA(L:Lk X S k Φ)(c:CE)(e:Expr)(h:cg S c e=true):PE X e (tD X F Φ c)/\PT X e (jW X F Φ c):=bF c X S F L e h
def lP(L:Lk X S k Φ)(cs:aA)(es:aj)(h:bV S cs es=true):qJ X F Φ cs es:=jZ cs X S F L es h
def oo(L:Lk X S k Φ)(cs:aA)(es:aj)(h:bV S cs es=true):PA X es (sW X F Φ cs):=fW cs X S F L es h
end
section
variable {T T':qI}{N N':lB}
def aH.child{q:bw}(b:∀p xs,T p xs->T' p xs)(d:∀c m p xs f,N (c++(m::q)) p xs f->N' (c++(m::q)) p xs f){n:Nat}(h:aH T N q n vs ds):aH T' N' q n vs ds :=
 h.ind (P:=λn vs ds=>aH T' N' q n vs ds) (λ_=>.nil) λn _ _ _ _ h _ a=>.cons (Rep.imp (q:=n::q) (q':=n::q) b (λc p xs f h=>d c n p xs f h) h) a
end
variable {n':Nd}
section
variable {X:Cx}{F R:ag}{τ:Addr->Option bw}{ρ:aS}{σ:St}{H:Hp}
def SI.own{i:Nat}(d:SI X F R τ ρ σ H)(c:ρ[i]?=↥↥(.ow\ds)):∃p xs,σ[i]?=↥↥(.ref p)/\H p=↥(.lst xs)/\xs.length=ds.length/\τ p=↥[i]/\aH (aY X.K H) (nd X.K R ⇑7 τ H) [i] 0 xs ds:=by
 ext(⟨v,b,a⟩:d.rep i _ c);cases a with
 |lst h r=>exact⟨_,_,b,h.1,r.length,h.2,r⟩
def mH{H:Hp}{p:Addr}{n:Nd}{o:HO}(g:eN H p n){a:Addr}(h:aY K H a ys):aY K (upd H p o) a ys:=by
 ext(⟨c,j,i,k⟩:eN.some g);have b:∀a u,H a=↥u->u≠c->a≠p:=λa u e h z=>by subst z;rw[j]at e;cases e;exact h rfl
 ext(((h|⟨d,h⟩)|h):h)
 ·exact .inl (.inl ([bt (b a _ h λz=>i _ z.symm)]\h))
 ·exact .inl (.inr ⟨d,[bt (b a _ h λz=>k _ _ z.symm)]\h⟩)
 ·exact .inr h
def SI.T2{i m:Nat}{v:V}{d:D}{p:Addr}{n:Nd}{o:HO}(g:SI X F R τ ρ σ H)(hi:ρ[i]?=↥↥d0)(hv:σ[i]?=↥↥(.ref p))(hp:eN H p n)(l:τ p=↥[i])
  (rs:aH (aY X.K H) (nd X.K R ⇑7 τ H) [i] 0 xs ds) (rk:gX X R τ H v d) (xy:eN (upd H p o) p n')
  (mk:∀{N:lB},N [i] p n' .ow->aH (aY X.K (upd H p o)) N [i] 0 xs' ds'->Rep (aY X.K (upd H p o)) N [i] (.ref p) d1)
  (hb:∀{N:lB},aH (aY X.K (upd H p o)) N [i] 0 xs ds->Rep (aY X.K (upd H p o)) N (m::[i]) v d->aH (aY X.K (upd H p o)) N [i] 0 xs' ds') :
  ∃τ',SI X F R τ' (ρ.set i ↥d1) σ (upd H p o)/\τ' p=↥[i]/\aH (aY X.K (upd H p o)) (nd X.K R ⇑7 τ' (upd H p o)) [i] 0 xs' ds':=by
 ext(⟨τt,b,rp⟩:rk);have MJ:i<ρ.length:=by
  by_cases z:i<ρ.length
  ·exact z
  ·rw[dV ⋯]at hi;cases hi
 ext(⟨o0,R7,U_,R6⟩:eN.some hp);have U:∀a,R a->a≠p:=λa s e=>by subst e;rw[g.rt _ s]at l;cases l
 have nT:∀a q,τt a=↥q->a≠p:=λa q e z=>by subst z;rw[(b _ q e).1]at l;cases l
 have W:∀a u,H a=↥u->u≠o0->a≠p:=λa u e h z=>by subst z;rw[R7]at e;cases e;exact h rfl
 have keep:∀a,a≠p->(upd H p o) a=H a:=λa h=>bt h;have Z:∀a ys,aY X.K H a ys->aY X.K (upd H p o) a ys:=λa ys h=>by
  ext(((h|⟨O,h⟩)|h):h)
  ·exact .inl (.inl ([keep a (W a _ h λz=>U_ _ z.symm)]\h))
  ·exact .inl (.inr ⟨O,[keep a (W a _ h λz=>R6 _ _ z.symm)]\h⟩)
  ·exact .inr h
 have L:∀a (z:Nd),a≠p->eN H a z->eN (upd H p o) a z:=λa z ne h=>h.at λu e=>[keep a ne]\e
 have y:∀{M:Addr->Option bw} q q' a (z:Nd),nd X.K R ⇑7 M H q a z .sc->∀t,nd X.K R ⇑7 t (upd H p o) q' a z .sc:=λq q' a z h t=>by
  ext(⟨ys,rfl,h⟩:h.DX);exact h.elim (λ⟨O,w⟩=>.inl ⟨O,[keep a (W a _ w λz=>R6 _ _ z.symm)]\w⟩) .inr
 have I:∀q a ys f,q≠[i]->nd X.K R ⇑7 τ H q a ys f->nd X.K R ⇑7 (λa=>match τt a with|↥q=>↥(q++[m,i])|none=>τ a) (upd H p o) q a ys f:=λq a ys f r h=>by
  cases f with
  |ow =>
   have ne:a≠p:=λz=>by
    subst z;have:=h.2.symm.trans l;exact r (aaV this)
   refine⟨L a ys ne h.1,?_⟩;cases z:τt a with
   |none=>simp only[z];exact h.2
   |some k=>have:=(b a k z).1;rw[h.2]at this;cases this
  |fz=>exact⟨L a ys (U a h.2) h.1,h.2⟩
  |al=>exact h.2.elim
  |sc=>exact y q q a ys h _
 have XU:(match τt p with|↥q=>↥(q++[m,i])|none=>τ p)=↥[i]:=by
  cases z:τt p with
  |none=>exact l
  |some k=>exact absurd rfl (nT p k z)
 have B:aH (aY X.K (upd H p o)) (nd X.K R ⇑7 (λa=>match τt a with|↥q=>↥(q++[m,i])|none=>τ a) (upd H p o)) [i] 0 xs' ds':=hb (aH.child Z (λc n a ys f h=>I _ a ys f (λz=>by
  have:=aa2 mo z;simp at this) h) rs) (rp.imp (q:=[]) (q':=[m,i]) Z λc a ys f h=>by
  cases f with
  |ow =>
   rw[zav]at h;exact⟨L a ys (nT a _ h.2) h.1,by simp only[h.2]⟩
  |fz=>exact⟨L a ys (U a h.2) h.1,h.2⟩
  |al=>exact h.2.elim
  |sc=>exact y _ _ a ys h _)
 refine⟨λa=>match τt a with|↥q=>↥(q++[m,i])|none=>τ a,⟨by simp[g.len],λj d' J=>?_,λa s=>?_,λa s=>?_,g.rf,λa q r=>?_,λa q r=>?_,?_⟩,XU,B⟩
 ·by_cases Y:j=i
  ·subst Y;rw[eo MJ]at J;cases J;exact⟨.ref p,hv,mk ⟨xy,XU⟩ B⟩
  ·rw[ce (ja Y)]at J;ext(⟨u,hu,ru⟩:g.rep j d' J);refine⟨u,hu,ru.imp (q:=[j]) (q':=[j]) Z λc a ys f h=>I _ a ys f (λz=>?_) h⟩;have:=aa2 p0 z;simp at this;exact Y this
 ·cases z:τt a with
  |none=>simp only[z];exact g.rt a s
  |some k=>exact absurd s (b a k z).2.1
 ·exact[keep a (U a s)]\g.rh a s
 ·by_cases x:a=p
  ·subst x;rw[aU];simp
  ·rw[keep a x];cases z:τt a with
   |none=>simp only[z]at r;exact g.th a q r
   |some k=>exact(b a k z).2.2.2
 ·cases z:τt a with
  |none=>simp only[z]at r;exact g.t0 a q r
  |some k=>exact(b a k z).2.2.1
 ·intro a u e;have ne:a≠p:=λz=>by subst z;rw[g.t0 _ _ l]at e;cases e
  exact[keep a ne]\g.same a u e
def SI.T3{i m:Nat}{v:V}{d:D}{p:Addr}{n:Nd}{o:HO}(l:SI X F R τ ρ σ H)(j:ρ[i]?=↥↥d0)(c:σ[i]?=↥↥(.ref p))(g:eN H p n)(e:τ p=↥[i])
  (rs:aH (aY X.K H) (nd X.K R ⇑7 τ H) [i] 0 xs ds) (b:gX X R τ H v d) (a:eN (upd H p o) p n')
  (mk:∀{N:lB},N [i] p n' .ow->aH (aY X.K (upd H p o)) N [i] 0 xs' ds'->Rep (aY X.K (upd H p o)) N [i] (.ref p) d1)
  (k:∀{N:lB},aH (aY X.K (upd H p o)) N [i] 0 xs ds->Rep (aY X.K (upd H p o)) N (m::[i]) v d->aH (aY X.K (upd H p o)) N [i] 0 xs' ds') :
  ∃τ',SI X F R τ' (ρ.set i ↥d1) σ (upd H p o):=(l.T2 j c g e rs b a mk k).imp λ_ h=>h.1
def SI.put{i m:Nat}{v:V}{d:D}{g:ah->ah}{p:Addr}(q:SI X F R τ ρ σ H)(j:ρ[i]?=↥↥(.ow\ds))(b:σ[i]?=↥↥(.ref p))(e:H p=↥(.lst xs))(c:τ p=↥[i])
  (rs:aH (aY X.K H) (nd X.K R ⇑7 τ H) [i] 0 xs ds) (a:gX X R τ H v d)
  (k:∀{N:lB},aH (aY X.K (upd H p (.lst (g xs)))) N [i] 0 xs ds->Rep (aY X.K (upd H p (.lst (g xs)))) N (m::[i]) v d->aH (aY X.K (upd H p (.lst (g xs)))) N [i] 0 (g xs) ds') :
  ∃τ',SI X F R τ' (ρ.set i ↥(.ow\ds')) σ (upd H p (.lst (g xs))) :=
 q.T3 (n:=.l xs) (n':=.l (g xs)) j b e c rs a aU (λh r=>.lst h r) k
end
section
variable {X:Cx}{S:Sx}{k:Nat}{F:ag}{Φ:aV}
protected def sZ(L:Lk X S k Φ)(c:CE)(e:Expr)(h:cg S c e=true):PE X e (tK X F Φ c):=by
 by_cases g:∃i,c=.v i
 ·ext(⟨i,rfl⟩:g)(⟨x,z,J⟩:bu h)(⟨p,rfl⟩:gQ z)(⟨I,j⟩:aC J)(⟨n,m⟩:aC I);unfold nY at j;simp only[zah,zbb]at j;refine PE.imp (iN (i:=i) ([L.N]\aag n) (L.Xf m) j.1.1 j.1.2) λσ H Q a=>?_;ext(⟨R,τ,ρ,r,l,b,a⟩:a);simp only[kf]at b;split at b
  ·rename_i d hd;split at b
   ·cases b;ext(⟨v,τ',g,U,u⟩:l.move hd);exact⟨v,g,a v H R τ' (aL.refl H) (λ_ h=>h) U u⟩
   ·rename_i B;cases b;ext(⟨v,g,t⟩:l.rep i d hd);exact⟨v,g,a v H R τ (aL.refl H) (λ_ h=>h) l (Cd t ⇑B)⟩
  ·cases b
 ·refine PE.imp (fA (F:=F) L c e h).1 λσ H Q a=>?_;ext(⟨R,τ,ρ,r,l,b,a⟩:a);have q:bd (aZ Φ c ρ) (λd=>ok (keep c d ρ))=ok r:=by
   cases c<;>first|exact b|exact absurd ⟨_,rfl⟩ g
  ext(⟨d,O,M⟩:aJ q);cases M;refine tD.intro l O λv H' s y=>?_;ext(⟨R',τ',n,m,j⟩:My l s y);exact a v H' R' τ' s n m j
end
structure Kp(R:ag)(H:Hp)(R':ag)(H':Hp):Prop where
 r:∀p,R p->R' p
 l:∀p (o:HO),R p->H p=↥o->H' p=↥o
 t:∀p xs,H p=↥(.tup xs)->H' p=↥(.tup xs)
 z:∀p o u,H p=↥(.iF o u)->H' p=↥(.iF o u)
def Kp.refl(R:ag)(H:Hp):Kp R H R H:=⟨λ_ h=>h,λ_ _ _ h=>h,λ_ _ h=>h,λ_ _ _ h=>h⟩
def Kp.of{R:Addr->Prop}{H:Hp}(e:aL H H')(h:∀p,R p->R' p):Kp R H R' H':=⟨h,λp xs _ h=>e _ _ h,λp xs h=>e _ _ h,λp o u h=>e _ _ h⟩
def Kp.trans{R R1 R2:ag}{H:Hp}(a:Kp R H R1 H1)(b:Kp R1 H1 R2 H2):Kp R H R2 H2 :=
 ⟨λp h=>b.r p (a.r p h),λp xs h e=>b.l p xs (a.r p h) (a.l p xs h e),λp xs h=>b.t p xs (a.t p xs h),λp o u h=>b.z p o u (a.z p o u h)⟩
def Kp.Ts{R:Addr->Prop}{H:Hp}(a:Kp R H R' H'){p:Addr}(h:aY K H p xs):aY K H' p xs:=by
 ext(((h|⟨o,h⟩)|h):h)
 ·exact .inl (.inl (a.t p xs h))
 ·exact .inl (.inr ⟨o,a.z p o _ h⟩)
 ·exact .inr h
theorem Kp.nd{K:av}{R R':ag}{H H':Hp}(a:Kp R H R' H'){q:bw}{p:Addr}{xs:Nd}{f:Fl}(h:DI.nd K R ⇑7 ⇑8 H q p xs f):DI.nd K R' ⇑7 ⇑8 H' q p xs f:=by
 cases f with
 |ow=>exact nomatch h.2
 |fz=>exact⟨h.1.at λo e=>a.l p o h.2 e,a.r p h.2⟩
 |al=>exact h.2.elim
 |sc =>
  ext(⟨ys,rfl,h⟩:h.DX);exact h.elim (λ⟨o,h⟩=>.inl ⟨o,a.z p o _ h⟩) .inr
def Kp.rep{R:Addr->Prop}{H:Hp}(a:Kp R H R' H'){k:bw}{v:V}{d:D}(h:Rep (aY K H) (DI.nd K R ⇑7 ⇑8 H) k v d):Rep (aY K H') (DI.nd K R' ⇑7 ⇑8 H') k v d :=
 h.imp (λ_ _ h=>a.Ts h) λ_ _ _ _ h=>a.nd h
def Kp.Zy{R:Addr->Prop}{H:Hp}(a:Kp R H R' H'){k:bw}{n:Nat}{v:ah}{d:aa}(h:aH (aY K H) (DI.nd K R ⇑7 ⇑8 H) k n v d):aH (aY K H') (DI.nd K R' ⇑7 ⇑8 H') k n v d :=
 h.imp (λ_ _ h=>a.Ts h) λ_ _ _ _ h=>a.nd h
inductive HC(X:Cx)(F:ag)(H':Hp)(v:V)(d:D):Prop where
 |mk (τt:Addr->Option bw) (h1:∀p q,τt p=↥q->X.H₀ p=none) (h2:Rep (aY X.K H') (nd X.K (gP X F) ⇑7 τt H') [] v d)
def gX.ret{R:Addr->Prop}{H:Hp}{v:V}{d:D}(c:SI X F R τ ρ σ H)(h:gX X R τ H v d):HC X F H v d:=by
 ext(⟨τt,b,a⟩:h);exact⟨τt,λp q e=>(b p q e).2.2.1,a.imp ⇑10 λ_ _ _ _ h=>h.mono (λh=>c.rf _ h) id id⟩
def nM(X:Cx)(F:ag)(D:Ends)(R:ag)(H:Hp):Fo×aS->Prop
 | (.nx,ρ')=>∀a H' R' τ',SI X F R' τ' ρ' a H'->Kp R H R' H'->D.nx a H'
 | (.rt d,_)=>∀v H',aL X.H₀ H'->HC X F H' v d->D.rt v H'
inductive mj(X:Cx)(F:ag)(Φ:aV)(c:CS)(D:Ends)(σ:St)(H:Hp):Prop where
 |mk (R:ag) (τ:Addr->Option bw) (ρ:aS) (r:Fo×aS) (h1:SI X F R τ ρ σ H) (h2:ir Φ c ρ=ok r) (h3:nM X F D R H r)
inductive lM(X:Cx)(F:ag)(Φ:aV)(cs:ai)(D:Ends)(σ:St)(H:Hp):Prop where
 |mk (R:ag) (τ:Addr->Option bw) (ρ:aS) (r:Fo×aS) (h1:SI X F R τ ρ σ H) (h2:bE Φ cs ρ=ok r) (h3:nM X F D R H r)
meta def OR(sc:Scope)(x:Str):Bool:=decide (sc.names.lookup x=↥.local)||decide (sc.names.lookup x=↥.cell)
def nc(S:Sx)(i:Nat):Expr->Bool
 |.Name x _=>decide (S.N[i]?=↥x)&&OR S.sc x
 |_=>false
def XN:Expr->Bool
 |.Name x _=>nY x
 |_=>true
def G8(S:Sx):aR->aj->Bool
 |[],es=>match es with
  |[]=>true
  |_::_=>false
 |i::is,es=>match es with
  |[]=>false
  |e::es=>nc S i e&&G8 S is es
def ra(S:Sx):Tg->Expr->Bool
 |.nm i,e=>nc S i e
 |.tp is,e=>bz (Bj e) λes=>G8 S is es
meta def iR(e:Expr):Bool:=decide (e.ctorIdx=8)
meta def isTup:Expr->Bool
 |.Tuple _ _ _=>true
 |_=>false
meta def Ze(S:Sx)(tg v:Expr):Bool:=match tg,v with
 |.Name x p,.ListComp _ _ sc pos=>(S.sc.names.lookup x==↥.local)&&(p.line==pos.line)&&!(sc.names.any λ(n,k)=>n==x&&(k==.local||k==.cell))
 |_,_=>false
meta def Nr(e:Expr):Option (Str×Pos):=if h:e.ctorIdx=23 then kq (motive_1:=λ_=>Option (Str×Pos)) e h (λx p=>↥(x,p))else none
def zg{e:Expr}{x:Str}{p:Pos}(h:Nr e=↥(x,p)):e=.Name x p:=by
 ext(⟨k,h⟩:dI h);exact kq (motive_1:=λe=>∀k:e.ctorIdx=23,kq (motive_1:=λ_=>Option (Str×Pos)) e k (λx p=>↥(x,p))=↥(x,p)->e=.Name x p) e k (λ_ _ _ h=>by cases h;rfl) k h
def G7(S:Sx)(i j:Nat)(tg v:Expr):Bool :=
 bz (Bj tg) λa=>bz (two a) λt=>bz (Nr t.1) λx=>bz (Nr t.2) λy=>bz (Bj v) λvs=>bz (two vs) λw =>
  decide (S.N[i]?=↥x.1)&&decide (S.N[j]?=↥y.1)&&decide (i≠j)&&decide (S.sc.names.lookup x.1=↥.local)&&decide (S.sc.names.lookup y.1=↥.local)&&decide (x.1≠y.1) &&
   decide (x.2.line=y.2.line)&&!([w.1,w.2].all (foldedForSure 8))&&!([w.1,w.2].all (constantsAlone 8))&&decide (([w.1,w.2].any λe=>match e with|.Starred ..=>true|_=>false)=false)
def Rh(S:Sx)(it:CI)(e:Expr):Bool:=match it with
 |.nC a=>bz (fc e) λw=>decide (w.1=("range" : Str))&&gq S.sc w.1&&decide (w.1∈S.bl)&&bz (one w.2) λy=>cg S a y
 |.mM a b=>bz (fc e) λw=>decide (w.1=("range" : Str))&&gq S.sc w.1&&decide (w.1∈S.bl)&&bz (two w.2) λy=>cg S a y.1&&cg S b y.2
 |.seq a=>cg S a e&&rR e
 |.Ml p es=>Xz e&&bz (S.px.pi p S.sc S.bl e) λxs=>bV S es xs
meta def EO:CI->Bool
 |.Ml p _=>decide (1100<=p)
 |_=>true
meta def Bl(s:Stmt):Option (aj×Expr):=if h:s.ctorIdx=5 then uc (motive_2:=λ_=>Option (aj×Expr)) s h (λa v _=>↥(a,v))else none
def jV{s:Stmt}{a:aj}{v:Expr}(h:Bl s=↥(a,v)):∃p,s=.Assign a v p:=by
 ext(⟨k,h⟩:dI h);exact uc (motive_2:=λs=>∀k:s.ctorIdx=5,uc (motive_2:=λ_=>Option (aj×Expr)) s k (λa v _=>↥(a,v))=↥(a,v)->∃p,s=.Assign a v p) s k (λ_ _ _ _ h=>by cases h;exact⟨_,rfl⟩) k h
meta def SO(s:Stmt):Option (Option Expr):=if h:s.ctorIdx=3 then tz (motive_2:=λ_=>Option (Option Expr)) s h (λv _=>↥v)else none
def zf{s:Stmt}{v:Option Expr}(h:SO s=↥v):∃p,s=.Return v p:=by
 ext(⟨k,h⟩:dI h);exact tz (motive_2:=λs=>∀k:s.ctorIdx=3,tz (motive_2:=λ_=>Option (Option Expr)) s k (λv _=>↥v)=↥v->∃p,s=.Return v p) s k (λ_ _ _ h=>by cases h;exact⟨_,rfl⟩) k h
meta def Xg(s:Stmt):Option Expr:=if h:s.ctorIdx=24 then wE (motive_2:=λ_=>Option Expr) s h (λv _=>↥v)else none
def o6{s:Stmt}{v:Expr}(h:Xg s=↥v):∃p,s=.Expr v p:=by
 ext(⟨k,h⟩:dI h);exact wE (motive_2:=λs=>∀k:s.ctorIdx=24,wE (motive_2:=λ_=>Option Expr) s k (λv _=>↥v)=↥v->∃p,s=.Expr v p) s k (λ_ _ _ h=>by cases h;exact⟨_,rfl⟩) k h
meta def Iw(s:Stmt):Option (Expr×nl×Expr):=if h:s.ctorIdx=7 then ox (motive_2:=λ_=>Option (Expr×nl×Expr)) s h (λo p v _=>↥(o,p,v))else none
def zk{s:Stmt}{v:Expr}{p:nl}(h:Iw s=↥(o,p,v)):∃q,s=.AugAssign o p v q:=by
 ext(⟨k,h⟩:dI h);exact ox (motive_2:=λs=>∀k:s.ctorIdx=7,ox (motive_2:=λ_=>Option (Expr×nl×Expr)) s k (λo p v _=>↥(o,p,v))=↥(o,p,v)->∃q,s=.AugAssign o p v q) s k (λ_ _ _ _ _ h=>by cases h;exact⟨_,rfl⟩) k h
meta def Nu(s:Stmt):Option (Expr×aP×aP):=if h:s.ctorIdx=12 then F3 (motive_2:=λ_=>Option (Expr×aP×aP)) s h (λt x y _=>↥(t,x,y))else none
def sT{s:Stmt}{t:Expr}{x y:aP}(h:Nu s=↥(t,x,y)):∃q,s=.If t x y q:=by
 ext(⟨k,h⟩:dI h);exact F3 (motive_2:=λs=>∀k:s.ctorIdx=12,F3 (motive_2:=λ_=>Option (Expr×aP×aP)) s k (λt x y _=>↥(t,x,y))=↥(t,x,y)->∃q,s=.If t x y q) s k (λ_ _ _ _ _ h=>by cases h;exact⟨_,rfl⟩) k h
meta def SN(s:Stmt):Option (Expr×aP×aP):=if h:s.ctorIdx=11 then wf (motive_2:=λ_=>Option (Expr×aP×aP)) s h (λt x y _=>↥(t,x,y))else none
def Ir{s:Stmt}{t:Expr}{x y:aP}(h:SN s=↥(t,x,y)):∃q,s=.While t x y q:=by
 ext(⟨k,h⟩:dI h);exact wf (motive_2:=λs=>∀k:s.ctorIdx=11,wf (motive_2:=λ_=>Option (Expr×aP×aP)) s k (λt x y _=>↥(t,x,y))=↥(t,x,y)->∃q,s=.While t x y q) s k (λ_ _ _ _ _ h=>by cases h;exact⟨_,rfl⟩) k h
meta def Nv(s:Stmt):Option (Expr×Expr×aP×aP):=if h:s.ctorIdx=9 then AT (motive_2:=λ_=>Option (Expr×Expr×aP×aP)) s h (λtg a x y _=>↥(tg,a,x,y))else none
def zi{s:Stmt}{it:Expr}{x y:aP}(h:Nv s=↥(tg,it,x,y)):∃q,s=.For tg it x y q:=by
 ext(⟨k,h⟩:dI h);exact AT (motive_2:=λs=>∀k:s.ctorIdx=9,AT (motive_2:=λ_=>Option (Expr×Expr×aP×aP)) s k (λtg it x y _=>↥(tg,it,x,y))=↥(tg,it,x,y)->∃q,s=.For tg it x y q) s k (λ_ _ _ _ _ _ h=>by cases h;exact⟨_,rfl⟩) k h
meta def zl(e:Expr):Option (Expr×Str×Pos):=if h:e.ctorIdx=20 then o1 (motive_1:=λ_=>Option (Expr×Str×Pos)) e h (λo a p=>↥(o,a,p))else none
def o7{e:Expr}{a:Str}{p:Pos}(h:zl e=↥(o,a,p)):e=.Attribute o a p:=by
 ext(⟨k,h⟩:dI h);exact o1 (motive_1:=λe=>∀k:e.ctorIdx=20,o1 (motive_1:=λ_=>Option (Expr×Str×Pos)) e k (λo a p=>↥(o,a,p))=↥(o,a,p)->e=.Attribute o a p) e k (λ_ _ _ _ h=>by cases h;rfl) k h
meta def sU(e:Expr):Option (Expr×aj×List vv×Pos):=if h:e.ctorIdx=16 then mn (motive_1:=λ_=>Option (Expr×aj×List vv×Pos)) e h (λf as a p=>↥(f,as,a,p))else none
def mE{e f:Expr}{as:aj}{a:List vv}{p:Pos}(h:sU e=↥(f,as,a,p)):e=.Call f as a p:=by
 ext(⟨k,h⟩:dI h);exact mn (motive_1:=λe=>∀k:e.ctorIdx=16,mn (motive_1:=λ_=>Option (Expr×aj×List vv×Pos)) e k (λf as a p=>↥(f,as,a,p))=↥(f,as,a,p)->e=.Call f as a p) e k (λ_ _ _ _ _ h=>by cases h;rfl) k h
meta def isNil{a:Type}:List a->Bool
 |[]=>true
 |_::_=>false
def jD{a:Type}{l:List a}(h:isNil l=true):l=[]:=by cases l<;>first|rfl|cases h
meta def J9:Stmt->Bool
 |.Raise _ _ _=>true
 |_=>false
def uB{i:Nat}{e:Expr}(h:nc S i e=true):∃x p,e=.Name x p:=by
 cases e<;>first|exact⟨_,_,rfl⟩|exact(aaj h).elim
def B0{e:Expr}(h:iR e=true):∃x g a p,e=.ListComp x g a p:=m3 (motive_1:=λe=>∃x g a p,e=.ListComp x g a p) e (aag h) λ_ _ _ _=>⟨_,_,_,_,rfl⟩
mutual
meta def qt(S:Sx):CS->Stmt->Bool
 |.asg t e,s0=>bz (Bl s0) λz=>bz (one z.1) λtg=>cg S e z.2&&ra S t tg&&!(isTup z.2&&isTup tg)&&(!iR z.2||isNm tg)
 |.par i j a b,s0=>bz (Bl s0) λz=>bz (one z.1) λtg=>cg S (.tup [a,b]) z.2&&G7 S i j tg z.2
 |.ret e,s0=>bz (SO s0) λz=>bz z λv=>cg S e v
 |.rs _,s0=>J9 s0
 |.mut p i es,s0=>bz (S.px.pm p S.sc S.bl s0) λz=>nc S i z.1&&XN z.1&&bV S es z.2
 |.mu2 p i k e,s0=>bz (S.px.p2 p S.sc S.bl s0) λz=>nc S i z.1&&XN z.1&&bV S [k,e] z.2
 |.unp is e,s0=>bz (Bl s0) λz=>bz (one z.1) λtg=>cg S e z.2&&ra S (.tp is) tg&&!(isTup z.2&&isTup tg)&&!iR z.2
 |.app i e,s0=>bz (Xg s0) λc=>bz (sU c) λz=>isNil z.2.2.1&&bz (zl z.1) λa=>decide (a.2.1=("append" : Str))&&nc S i a.1&&XN a.1&&(a.2.2.endLine==z.2.2.2.line)&&bz (one z.2.1) λv=>cg S e v
 |.aug i op e,s0=>bz (Iw s0) λz=>nc S i z.1&&XN z.1&&decide (z.2.1=if op then .Add else .Sub)&&cg S e z.2.2
 |.ex e,s0=>bz (Xg s0) λv=>cg S e v&&!iR v
 |.ifs c a b,s0=>bz (Nu s0) λz=>cg S c z.1&&jo S a z.2.1&&jo S b z.2.2
 |.LI c b,s0=>bz (SN s0) λz=>isNil z.2.2&&cg S c z.1&&jo S b z.2.1
 |.fr t it b,s0=>bz (Nv s0) λz=>isNil z.2.2.2&&ra S t z.1&&Rh S it z.2.1&&(jC z.1||EO it)&&jo S b z.2.2.1
meta def jo(S:Sx):ai->aP->Bool
 |[],ss=>match ss with
  |[]=>true
  |_::_=>false
 |c::cs,ss=>match ss with
  |[]=>false
  |s::ss=>qt S c s&&jo S cs ss
end
abbrev PlM(a:Scope->ao->Stmt->Option (Expr×aj))(m:aE):Prop:=∀{Φ:aV} {n:Nat},Φ n=m->∀{X:Cx} {sc:Scope} {bl:ao} {k:Nat},PX X sc bl k->X.N.Nodup->(∀x,X.fn x=true)->∀{st:Stmt} {x:Str} {pos:Pos} {args:aj},a sc bl st=↥(.Name x pos,args)->∀{i:Nat},X.N[i]?=↥x->L2.Loc X.env.scope x->PE X (.Name x pos) (mF i)->∀{F:ag} {cs:aA},qJ X F Φ cs args->PS X st (mj X F Φ (.mut n i cs))
structure HE(px:Px)(Φ:aV):Prop where
 m:∀(X:Cx) (sc:Scope) (bl:ao) (k:Nat),PX X sc bl k->X.N.Nodup->(∀x,X.fn x=true)->∀(p:Nat) (st:Stmt) (x:Str) (pos:Pos) (args:aj),px.pm p sc bl st=↥(.Name x pos,args)->∀(i:Nat),X.N[i]?=↥x->L2.Loc X.env.scope x->PE X (.Name x pos) (mF i) ->
  ∀(F:ag) (cs:aA),qJ X F Φ cs args->PS X st (mj X F Φ (.mut p i cs))
 m2:∀(X:Cx) (sc:Scope) (bl:ao) (k:Nat),PX X sc bl k->X.N.Nodup->(∀x,X.fn x=true)->∀(p:Nat) (st:Stmt) (x:Str) (pos:Pos) (args:aj),px.p2 p sc bl st=↥(.Name x pos,args)->∀(i:Nat),X.N[i]?=↥x->L2.Loc X.env.scope x->PE X (.Name x pos) (mF i) ->
  ∀(F:ag) (c1 c2:CE),qJ X F Φ [c1,c2] args->PS X st (mj X F Φ (.mu2 p i c1 c2))
structure ny(X:Cx)(S:Sx)(k:Nat)(Φ:aV):Prop extends Lk X S k Φ where
 oI:∀x,X.fn x=true
 px:PassesOwn (model X.prog X.w) X.A X.env X.xe
 fk:S.sc.kind=.function
 pm:HE S.px Φ
section
variable {X:Cx}{S:Sx}{k:Nat}{F:ag}{Φ:aV}
def ny.loc(L:ny X S k Φ){x:Str}(h:OR S.sc x=true):L2.Loc X.env.scope x:=by
 unfold L2.Loc;rw[L.sc];unfold OR at h;rw[zbk]at h;exact h.imp aag aag
def LS(L:ny X S k Φ){x:Str}{p:Pos}{l:Nat}{elt:Expr}{gens:List n7}{sc:Scope}:mu (.ListComp elt gens sc pos) ↥(.Name x p) l X.env=pure (Ze S (.Name x p) (.ListComp elt gens sc pos)):=by
 have b:X.env.blockKind=.function:=by unfold yaP;rw[L.sc,L.fk];rfl
 have a:(X.env.kindOf x==↥.local)=(S.sc.names.lookup x==↥.local):=by
  unfold Env.kindOf;rw[L.sc]
 unfold mu Ze;simp only[b,a];rfl
def iA{c:CE}{e:Expr}(h:cg S c e=true)(a:iR e=false)(t:Option Expr)(l:Nat)(env:Env):mu e t l env=pure false:=by
 cases e<;>first|rfl | (cases a;done) | (cases c<;>exact(aaj h).elim)
def X_:aR->HX
 |[]=>Qc
 |i::is=>Gk (p7 i) (X_ is)
def Eu(L:ny X S k Φ){i:Nat}{e:Expr}(h:nc S i e=true):PG X e (p7 i):=by
 cases e<;>try (exact(aaj h).elim;done)
 replace h:=aC h;exact tN L.nd ([L.N]\aag h.1) (L.loc h.2) (.inl (L.oI _))
def JI{i:Nat}{e:Expr}(h:nc S i e=true)(es:aj)(env:Env):hO (e::es) env=(false,zn e env)::hO es env:=by
 cases e<;>first|rfl | (exact(aaj h).elim;done)
theorem x_(L:ny X S k Φ):∀{is:aR} {es:aj},G8 S is es=true->RC X es (X_ is)/\(hO es X.env).length=is.length/\(hO es X.env).findIdx? (·.1)=none
 |[],[],_=>⟨zU,rfl,rfl⟩
 |[],_::_,h=>by exact(aaj h).elim
 |_::_,[],h=>by exact(aaj h).elim
 |i::is,e::es,h=>by
  replace h:=aC h;ext(⟨d,c,b⟩:x_ L h.2)(a:JI h.1 es X.env);refine⟨vT (Eu L h.1) d (by rw[a];rfl),by rw[a];simp[c],?_⟩;rw[a,Sk];simp[b]
set_option tactic.hygienic true in
theorem vD{H:Hp}{R:ag}{Q:St->Hp->Prop}:∀{is:aR} {vs:ah} {ds:aa} {b:bw} {n:Nat} {σ:St} {τ:Addr->Option bw} {ρ ρ':aS},aH (aY X.K H) (nd X.K R ⇑7 ⇑8 H) b n vs ds->SI X F R τ ρ σ H->dH is ds ρ=ok ρ' ->
  (∀a τ',SI X F R τ' ρ' a H->Q a H)->X_ is vs σ H Q
 |[],_,_,_,_,σ,τ,_,_,.nil,Si,e,hq=>by
  cases e;exact⟨rfl,hq σ τ Si⟩
 |[],_,_,_,_,_,_,_,_,.cons _ _,_,e,_=>by cases e
 |_::_,_,_,_,_,_,_,_,_,.nil,_,e,_=>by cases e
 |i::is,_,_,_,_,σ,τ,ρ,_,.cons (v:=v) (d:=d) h t,Si,e,hq=>by
  change (if _ then _ else _)=_ at e;split at e
  ·rename_i c;ext(⟨τ',g⟩:Si.set (i:=i) (j4 (τ':=τ) (Rep.mV h)) c);exact⟨_,_,rfl,vD t g e hq⟩
  ·cases e
meta def DG(n:Nat)(τt:Addr->Option bw):Addr->Option bw:=λp=>match τt p with|↥q=>if q.getLast?=↥n then ↥q.dropLast else none|none=>none
meta def DF(n:Nat)(τt:Addr->Option bw):Addr->Option bw:=λp=>match τt p with|↥q=>if q.getLast?=↥n then none else ↥q|none=>none
def IG{n:Nat}{p:Addr}{q:bw}(h:DG n τt p=↥q):τt p=↥(q++[n]):=by
 unfold DG at h;cases e:τt p with
 |none=>rw[e]at h;cases h
 |some k =>
  rw[e]at h;by_cases c:k.getLast?=↥n
  ·simp only[c,if_true]at h;cases h;obtain⟨ys,rfl⟩:=List.getLast?_eq_some_iff.mp c;simp
  ·simp only[c,if_false]at h;cases h
def IF{n:Nat}{p:Addr}{q:bw}(h:DF n τt p=↥q):τt p=↥q/\q.getLast?≠↥n:=by
 unfold DF at h;cases e:τt p with
 |none=>rw[e]at h;cases h
 |some k =>
  rw[e]at h;by_cases c:k.getLast?=↥n
  ·simp only[c,if_true]at h;cases h
  ·simp only[c,if_false]at h;cases h;exact⟨rfl,c⟩
theorem rL{H:Hp}{R:ag}{τt:Addr->Option bw}{n:Nat}:∀{vs:ah} {ds:aa} {m:Nat},n<m->aH (aY X.K H) (nd X.K R ⇑7 τt H) [] m vs ds->aH (aY X.K H) (nd X.K R ⇑7 (DF n τt) H) [] m vs ds
 |_,_,_,_,.nil=>.nil
 |_,_,m,hm,.cons h t=>.cons (h.imp (q':=[m]) ⇑10 λc p xs f h=>by
   cases f with
   |ow =>
    refine⟨h.1,?_⟩;have e:=h.2;unfold DF;rw[e];have:(c++[m]).getLast?≠↥n:=by rw[List.getLast?_append];simp;left
    simp only[this,if_false]
   |fz=>exact h
   |al=>exact h
   |sc=>exact h) (rL ⋯ t)
set_option tactic.hygienic true in
theorem mJ{H:Hp}{R:ag}{Q:St->Hp->Prop}:∀{is:aR} {vs:ah} {ds:aa} {n:Nat} {σ:St} {τ τt:Addr->Option bw} {ρ ρ':aS},(∀p q,τt p=↥q->τ p=none/\¬ R p/\X.H₀ p=none/\H p≠none)->aH (aY X.K H) (nd X.K R ⇑7 τt H) [] n vs ds->SI X F R τ ρ σ H->dH is ds ρ=ok ρ' ->
  (∀a τ',SI X F R τ' ρ' a H->Q a H)->X_ is vs σ H Q
 |[],_,_,_,σ,τ,_,_,_,_,.nil,Si,e,hq=>by
  cases e;exact⟨rfl,hq σ τ Si⟩
 |[],_,_,_,_,_,_,_,_,_,.cons _ _,_,e,_=>by cases e
 |_::_,_,_,_,_,_,_,_,_,_,.nil,_,e,_=>by cases e
 |i::is,_,_,n,σ,τ,τt,ρ,_,ht,.cons (v:=v) (d:=d) h t,Si,e,hq=>by
  change (if _ then _ else _)=_ at e;split at e
  ·rename_i j;have s:=Si.Tx (i:=i) (τt:=DG n τt) (λp q b=>ht p _ (IG b)) (h.imp (q':=[]) ⇑10 λc p xs f h=>by
    cases f with
    |ow =>
     refine⟨h.1,?_⟩;have e:=h.2;unfold DG;rw[e,zav];simp
    |fz=>exact h
    |al=>exact h
    |sc=>exact h) j
   refine⟨_,_,rfl,mJ (τt:=DF n τt) (λp q b=>?_) (rL (abd n) t) s e hq⟩;ext(⟨g,l⟩:IF b)(⟨r,m⟩:ht p q g);refine⟨?_,m⟩;unfold xS DG;rw[g];simp only[l,if_false];exact r
  ·cases e
def Oi{es:aj}{k:Nat}{t:HX}{n:Nat}(l:X.calm=true)(h:RC X es t)
  (hn:(hO es X.env).length=n) (p:(hO es X.env).findIdx? (·.1)=none):PG X (.Tuple es k pos) (λv σ H Q=>∃a xs,v=.ref a/\(aY X.K H a xs\/eG X.K H a xs)/\xs.length=n/\t xs σ H Q):=by
 intro pins s σ H v u Q I r hw;ext(⟨a,xs,e1,g,j,hw⟩:hw);subst e1;cases r;obtain⟨c,d,J,x⟩:∃c:aw,Vals xs c/\c.length=n/\∀(Q:aw->ap->Prop),(∀h',p6 s.heap.objs.size s.heap h'->Q c { s with heap:=h' })->⇑0 (unpackItems (.ref a) n none) Q X.xe s:=by
  ext((g|g):g)
  ·ext(⟨c,d,y,_⟩:I.tuple g);have e:c.toArray.size=n:=by simp[<- j,d.length]
   exact⟨c,d,⇑e,λQ i=>[-e]\yaA (I.ok.hd l) y λh' z=>⇑(i h' z)⟩
  ·ext(⟨c,d,m,_⟩:I.list g);have e:c.toArray.size=n:=by simp[<- j,d.length]
   exact⟨c,d,⇑e,λQ i=>[-e]\PySem.W.kun_itemsOf (I.ok.hd l) m.isList λh' z=>⇑(i h' z)⟩
 rw[assign_Tuple];refine aaf (ael ?_);unfold unpack;rw[hn,p];refine aaf (abT (x _ λh' q=>?_));have B:Inv X pins σ H { s with heap:=h' }:=I.kept (t':=s.toks) λb o e=>q b o (aax (aas e)) e;exact h pins _ σ H xs _ Q B d hw
protected def Ny(L:ny X S k Φ)(h:ra S (.tp is) tg=true):∃g,PG X tg g/\∀(v:V) (σ:St) (H:Hp) (Q:St->Hp->Prop) (R:ag) (τ:Addr->Option bw) (ρ ρ':aS) (d:D),SI X F R τ ρ σ H->gX X R τ H v d->Iy is d ρ=ok ρ' ->
  (∀a τ',SI X F R τ' ρ' a H->Q a H)->g v σ H Q:=by
 ext(⟨es,s,t⟩:bu h)(⟨nn,z,rfl⟩:jU s)(⟨y,x,u⟩:x_ L t);refine⟨_,Oi L.calm y x u,λv σ H Q R τ ρ ρ' d n q e m=>?_⟩;have len:∀(is:aR) (ds:aa) (ρ ρ':aS),dH is ds ρ=ok ρ'->ds.length=is.length:=by
  intro is;induction is with
  |nil=>intro ds ρ ρ' e;cases ds with|nil=>rfl|cons _ _=>cases e
  |cons i is r=>intro ds ρ ρ' e;cases ds with
   |nil=>cases e
   |cons d ds =>
    change (if _ then _ else _)=_ at e;split at e
    ·rw[zae,zae,r ds _ _ e]
    ·cases e
 ext(⟨τt,l,j⟩:q);cases d<;>first|exact nk e | (cases e;done)|skip
 ·rename_i ds;have e:dH is ds ρ=ok ρ':=e;cases j with
  | @tup _ p xs _ c b=>exact⟨p,xs,rfl,.inl c,[b.length]\len _ _ _ _ e,mJ l b n e m⟩
 ·rename_i f ds;have e:dH is ds ρ=ok ρ':=e;ext(⟨p,xs,rfl,c,b⟩:j.nN);exact⟨p,xs,rfl,.inr c.sq,[b.length]\len _ _ _ _ e,mJ l b n e m⟩
protected def zw(L:ny X S k Φ){t:Tg}(h:ra S t tg=true):∃g,PG X tg g/\∀(v:V) (σ:St) (H:Hp) (Q:St->Hp->Prop) (R:ag) (τ:Addr->Option bw) (ρ ρ':aS) (d:D),SI X F R τ ρ σ H->gX X R τ H v d->cw t d ρ=ok ρ' ->
  (∀a τ',SI X F R τ' ρ' a H->Q a H)->g v σ H Q:=by
 cases t with
 |nm i =>
  refine⟨p7 i,Eu L h,λv σ H Q R τ ρ ρ' d j b e c=>?_⟩;simp only[cw]at e;split at e
  ·rename_i x;cases e;ext(⟨τ',J⟩:j.set b x);exact c _ τ' J
  ·cases e
 |tp is =>
  ext(⟨es,r,y⟩:bu h)(⟨nn,M,rfl⟩:jU r)(⟨I,B,z⟩:x_ L y);refine⟨_,Et L.calm I B z,λv σ H Q R τ ρ ρ' d j b e c=>?_⟩;cases d<;>try (simp[cw]at e;done)
  rename_i ds;simp only[cw]at e;split at e
  ·cases e
  ·rename_i u;ext(⟨τt,O,n⟩:b);cases n with
   | @tup _ p xs _ s l =>
    have m:aH (aY X.K H) (nd X.K R ⇑7 ⇑8 H) [] 0 xs ds:=aH.without (P:=cy) ⇑10 (λk k' p xs f hf h=>by
     cases f with
     |ow=>cases hf
     |fz=>exact h
     |al=>exact h.2.elim
     |sc=>exact h) l ⇑u _ _
    refine⟨p,xs,rfl,s,?_,vD m j e c⟩;rw[l.length];have:∀(is:aR) (ds:aa) (ρ ρ':aS),dH is ds ρ=ok ρ'->ds.length=is.length:=by
     intro is;induction is with
     |nil=>intro ds ρ ρ' e;cases ds with|nil=>rfl|cons _ _=>cases e
     |cons i is q=>intro ds ρ ρ' e;cases ds with
      |nil=>cases e
      |cons d ds =>
       change (if _ then _ else _)=_ at e;split at e
       ·simp[q ds _ _ e]
       ·cases e
    exact this _ _ _ _ e
end
section
variable {X:Cx}{S:Sx}{k:Nat}{F:ag}{Φ:aV}
def DL(L:ny X S k Φ){t:Tg}{e:CE}{v:Expr}(he:cg S e v=true)(d:ra S t tg=true)(y:(isTup v&&isTup tg)=false)(I:yz [tg] v pos.line X.env=pure false):PS X (.Assign [tg] v pos) (mj X F Φ (.asg t e)):=by
 ext(⟨g,z,q⟩:zw (F:=F) L d);have m:(∃x p,tg=.Name x p)\/∃es n p,tg=.Tuple es n p:=by
  cases t with
  |nm i=>cases tg<;>first|exact .inl ⟨_,_,rfl⟩|exact(aaj d).elim
  |tp is=>cases tg<;>first|exact .inr ⟨_,_,_,rfl⟩|exact(aaj d).elim
 have each:(hO [tg] X.env).map (·.2)=[zn tg X.env]:=by
  rcases m with ⟨x,p,rfl⟩|⟨es,n,p,rfl⟩<;>rfl
 have hw:nF [tg] v X.env=pure none:=by
  ext((⟨x,p,rfl⟩|⟨es,n,p,rfl⟩):m)
  ·first|rfl | (cases v<;>rfl)
  ·cases v<;>first|rfl|exact absurd y (by simp[isTup])
 refine PS.imp (Ej (sZ (F:=F) L.toLk e v he) z I hw each) λD σ H j=>?_;ext(⟨R,τ,ρ,r,J,a,j⟩:j)(⟨r1,O,a⟩:aJ a)(⟨c,l,a⟩:aJ a);cases a;exact⟨R,τ,ρ,r1,J,O,λv H' R' τ' es hR B s=>q v σ H' _ R' τ' r1.2 c r1.1 B s l λb u M=>j b H' R' u M (Kp.of es hR)⟩
def NO(L:ny X S k Φ){e:CE}{v:Expr}(he:cg S e v=true)(j:ra S (.tp is) tg=true)(t:(isTup v&&isTup tg)=false)(y:yz [tg] v pos.line X.env=pure false):PS X (.Assign [tg] v pos) (mj X F Φ (.unp is e)):=by
 ext(⟨g,u,m⟩:Ny (F:=F) L j);have l:∃es n p,tg=.Tuple es n p:=by
  cases tg<;>first|exact⟨_,_,_,rfl⟩|exact(aaj j).elim
 have each:(hO [tg] X.env).map (·.2)=[zn tg X.env]:=by
  ext(⟨es,n,p,rfl⟩:l);rfl
 have hw:nF [tg] v X.env=pure none:=by
  ext(⟨es,n,p,rfl⟩:l);cases v<;>first|rfl|exact absurd t (by simp[isTup])
 refine PS.imp (Ej (sZ (F:=F) L.toLk e v he) u y hw each) λD σ H d=>?_;ext(⟨R,τ,ρ,r,z,a,d⟩:d)(⟨r1,I,a⟩:aJ a)(⟨c,i,a⟩:aJ a);cases a;exact⟨R,τ,ρ,r1,z,I,λv H' R' τ' es hR x q=>m v σ H' _ R' τ' r1.2 c r1.1 x q i λb s B=>d b H' R' s B (Kp.of es hR)⟩
protected def IU(L:ny X S k Φ){i n:Nat}{t:Tg}{J:IK}{x:Str}{p Tt:Pos}{gens:List n7}{sc:Scope}
  (he:cg S (.comp n t caps J es bU elt) (.ListComp ku gens sc pos)=true) (hn:nc S i (.Name x p)=true) (U5:mu (.ListComp ku gens sc pos) ↥(.Name x p) Tt.line X.env=pure true) :
  PS X (.Assign [.Name x p] (.ListComp ku gens sc pos) Tt) (mj X F Φ (.asg (.nm i) (.comp n t caps J es bU elt))):=by
 intro pins s σ H D I j;ext(⟨R,τ,ρ,r,Si,O,j⟩:j)(⟨r1,U,O⟩:aJ O)(⟨ρ',u,O⟩:aJ O);cases O;have U:bd (aZ Φ (.comp n t caps J es bU elt) ρ) (λd=>ok (keep (.comp n t caps J es bU elt) d ρ))=ok r1:=U;ext(⟨d,ed,U⟩:aJ U);cases U;ext(hg:Eu L hn);rw[exec_Assign_Name_used _ _ _ _ U5];refine aaf (ael (aaf ?_));ext(⟨⟨e0,g0,s0⟩,hv0,FO⟩:bu he);cases hv0;ext(⟨⟨target,iter,y,a⟩,hg1,c⟩:bu FO);obtain rfl:gens=_:=b8 hg1;ext(⟨c,h6⟩:aC c)(⟨c,h5⟩:aC c)(⟨c,h4⟩:aC c)(⟨c,h3⟩:aC c)(⟨c,h2⟩:aC c)(⟨c,h1⟩:aC c);obtain rfl:a=0:=aag c;ext(hC:wX (aag h3) h4 (λ(X':Cx) (F':ag) (L':Lk X' (S.inner target caps sc) k Φ)=>jv bU X' _ F' L' y h4));have run:⇑0 (comprehension (.ListComp ku [⟨target,iter,y,0⟩] sc pos) sc X.env (firstIterPos [⟨target,iter,y,0⟩] pos) (newList []) false (eval iter X.env) ↥(zn (.Name x p) X.env)) (λ_ Y=>SP X pins D .next Y) X.xe s:=by
  refine wY (F:=F) (k:=k) L.toLk (sC h1) h2 (λX' F' L'=>(fA (F:=F') L' elt ku h5).1) hC ?_ (use:=↥(zn (.Name x p) X.env)) (Post:=λ_ Y=>SP X pins D .next Y) I Si ed ?_
  ·exact FF L.toLk (λl=>oo (F:=F) L.toLk es l) (λl=>jv es X S F L.toLk l) (λl=>lP L.toLk es l) h6
  ·intro g C H1 W m CY hc IX sm rt;ext(⟨c1,c2,c3,c4,c5⟩:hc)(⟨R',τ',hR,eH,rk⟩:My (e:=.comp n t caps J es bU elt) Si sm rt);have I1:Inv X pins σ H1 W:=IX W.heap (.refl ..);ext(⟨Z,esC,epC,hoC,M,hrC⟩:CY);have cfs:C∉X.fs:=λz=>by
    ext(⟨_,o,ho,_⟩:I1.ok.kT.mem z);exact absurd (aao (aas ho) c2) (aa8 _)
   have I2:Inv X ((C,Z)::pins) σ H1 W:=I1.j5 λq j=>by
    ext((rfl|j):ci.mp j)
    ·exact⟨hoC,c5,c1,cfs,λv z=>by rw[M]at z;cases z⟩
    ·exact I1.pin q (aay _ j)
   simp only[cw]at u;split at u
   ·rename_i hi;cases u;ext(⟨τ2,sO⟩:eH.set rk hi);show wpAny _ _ (zn (.Name x p) X.env (.ref g)) _ _ _;refine aa1 (hg ((C,Z)::pins) W σ H1 (.ref g) (.ref g) (λB H'=>B=σ.set i ↥(.ref g)/\H'=H1) I2 rfl ⟨rfl,rfl⟩) (λ_ s2 h2=>?_) λ_ _ z=>z;ext(⟨B,H',I3,rfl,rfl⟩:h2)(hC3:(I3.pin (C,Z) (aay _ aam)).1);refine⟨m,⟨Z,esC,epC,hC3,M,hrC⟩,λh' xx=>?_⟩;have I4:Inv X pins (σ.set i ↥(.ref g)) H' s2:=I3.j5 λq j=>I3.pin q (aay _ (aap _ j));ext(I5:I4.turned (t':=s2.toks) (h':=h') (it:=C) (λb o hb e=>(xx.2 b hb).trans e) c5 c1 (.inr c2) c3 c4);exact⟨_,H',I5,j _ H' R' τ2 sO (Kp.of sm hR)⟩
   ·cases u
 exact aaf (aa1 run (λ_ Y h=>aak (aak h)) λ_ _ z=>z)
def NP(L:ny X S k Φ){e:CE}{v:Expr}(he:cg S e v=true):PS X (.Return ↥v pos) (mj X F Φ (.ret e)):=by
 refine PS.imp (mQ (sZ (F:=F) L.toLk e v he)) λD σ H a=>?_;ext(⟨R,τ,ρ,r,g,b,a⟩:a)(⟨r1,i,b⟩:aJ b);cases b;exact⟨R,τ,ρ,r1,g,i,λv H' R' τ' es hR c d=>a v H' c.same (d.ret c)⟩
def Tr(L:ny X S k Φ){e:CE}{v:Expr}(he:cg S e v=true)(b:iR v=false):PS X (.Expr v pos) (mj X F Φ (.ex e)):=by
 refine PS.imp (lR (fA (F:=F) L.toLk e v he).1 (iA he b _ _ _)) λD σ H a=>?_;ext(⟨R,τ,ρ,r,g,c,a⟩:a)(⟨d,i,c⟩:aJ c);cases c;exact tD.intro g i λv H' es j=>a σ H' R τ (g.go es) (Kp.of es λ_ h=>h)
def nM.from{D:Ends}{R R1:ag}{H:Hp}{r:Fo×aS}(h:nM X F D R H r)(c:Kp R H R1 H1):nM X F D R1 H1 r:=by
 ext(⟨e,b⟩:r);cases e with
 |nx=>exact λa H' R' τ' g k2=>h a H' R' τ' g (c.trans k2)
 |rt d=>exact h
def Tq(L:ny X S k Φ){c:CE}{a b:ai}{t:Expr}{x y:aP}(i:cg S c t=true)(l:gO X x (lM X F Φ a))(j:gO X y (lM X F Φ b)):PS X (.If t x y pos) (mj X F Φ (.ifs c a b)):=by
 refine PS.imp (vQ (fA (F:=F) L.toLk c t i).2 l j) λD σ H e=>?_;ext(⟨R,τ,ρ,r,g,d,e⟩:e)(⟨w,m,d⟩:aJ d);refine⟨R,τ,ρ,w,g,m,λH1 e1=>?_⟩;cases w with
 |true=>rw[zac rfl]at d ⊢;exact⟨R,τ,ρ,r,g.go e1,d,e.from (Kp.of e1 λ_ h=>h)⟩
 |false=>rw[zab ⇑5]at d ⊢;exact⟨R,τ,ρ,r,g.go e1,d,e.from (Kp.of e1 λ_ h=>h)⟩
def DK(L:ny X S k Φ){c:CE}{b:ai}{t:Expr}{x:aP}(y:cg S c t=true)(z:gO X x (lM X F Φ b)):PS X (.While t x [] pos) (mj X F Φ (.LI c b)):=by
 refine PS.imp (Ef L.px (fA (F:=F) L.toLk c t y).2 z) λD σ H l=>?_;ext(⟨R,τ,ρ,r,O,I,l⟩:l)(⟨n,v⟩:mU I);refine⟨λm a H'=>∃R' τ' e,SI X F R' τ' e a H'/\Kp R H R' H'/\du m _ e=ok r,⟨n,R,τ,ρ,O,Kp.refl R H,v⟩,?_⟩;rintro m p H1 ⟨R1,g,j,q,k1,e1⟩;cases m with
 |zero=>simp[du]at e1
 |succ m =>
  rw[du]at e1;ext(⟨st,es,e1⟩:aJ e1)(⟨w,B,es⟩:aJ es);refine⟨R1,g,j,w,q,B,λH2 e2=>?_⟩;cases w with
  |false =>
   rw[zab ⇑5]at es ⊢;cases es;cases e1;exact l p H2 R1 g (q.go e2) (k1.trans (Kp.of e2 λ_ h=>h))
  |true =>
   rw[zac rfl]at es ⊢;ext(⟨⟨s,i⟩,J,es⟩:aJ es);refine⟨λa H'=>∃R' τ' e,SI X F R' τ' e a H'/\Kp R H R' H'/\du m _ e=ok r,λa H' h=>⟨m,abd m,h⟩,R1,g,j,(s,i),q.go e2,J,?_⟩;have k2:Kp R H R1 H2:=k1.trans (Kp.of e2 λ_ h=>h);cases s with
   |nx=>cases es;exact λa H' R' τ' M u=>⟨R',τ',i,M,k2.trans u,e1⟩
   |rt d=>cases es;cases e1;exact l
def mi(X:Cx)(F:ag)(Φ:aV)(t:Tg)(b:ai)(R1:ag)(H1:Hp)(r:Fo×aS)(items:List DI.D)(i:Nat)(σ:St)(H:Hp):Prop :=
 ∃R' τ' a,SI X F R' τ' a σ H/\Kp R1 H1 R' H/\dD (λd ρ=>cw t d ρ) (λρ=>bE Φ b ρ) (items.drop i) a=ok r
def qb{g:TG}{t:Tg}{b:ai}{D:Ends}{R1:ag}{r:Fo×aS}{items:List DI.D}{q:bw}
  (y:∀(v:V) (σ:St) (H:Hp) (Q:St->Hp->Prop) (R:ag) (τ:Addr->Option bw) (ρ ρ':aS) (d:DI.D),SI X F R τ ρ σ H->gX X R τ H v d->cw t d ρ=ok ρ'->(∀a τ',SI X F R τ' ρ' a H->Q a H)->g v σ H Q)
  (rs:aH (aY X.K H1) (nd X.K R1 ⇑7 ⇑8 H1) q 0 xs items) (M:nM X F D R1 H1 r) (i:Nat) (x:V) (σ:St) (H:Hp) (L:xs[i]?=↥x) (h:mi X F Φ t b R1 H1 r items i σ H) :
  g x σ H λn H2=>lM X F Φ b { D with nx:=mi X F Φ t b R1 H1 r items (i+1),ct:=mi X F Φ t b R1 H1 r items (i+1),bk:=D.nx } n H2:=by
 ext(⟨R',τ',ρ',U,p,c⟩:h)(⟨d,hd,z⟩:rs.Gh L);have l:i<items.length:=by
  by_cases l:i<items.length
  ·exact l
  ·rw[dV ⋯]at hd;cases hd
 have B:items.drop i=d::items.drop (i+1):=by
  rw[zax l];rw[cb l]at hd;cases hd;rfl
 rw[B,dD]at c;ext(⟨j,e1,c⟩:aJ c)(⟨⟨s,e⟩,e2,c⟩:aJ c);refine y x σ H _ R' τ' ρ' j d U (j4 (Rep.mV (p.rep z))) e1 λa I O=>⟨R',I,j,(s,e),O,e2,?_⟩
 cases s with
 |nx=>exact λu Z W m Y J=>⟨W,m,e,Y,p.trans J,c⟩
 |rt d=>cases c;exact M
def oH{t:Tg}{b:ai}{D:Ends}{R1:ag}{r:Fo×aS}{items:List DI.D}{n:Nat}(hn:n=items.length)(e:nM X F D R1 H1 r)(σ:St)(H:Hp)(h:mi X F Φ t b R1 H1 r items n σ H):D.nx σ H:=by
 ext(⟨R',τ',c,g,d,a⟩:h);subst hn;rw[W1,dD]at a;cases a;exact e σ H R' τ' g d
def Au(ρ:aS):iF [] ρ=ρ:=by
 unfold iF;apply aey;intro i;rw[kC];cases ρ[i]? with
 |none=>rfl
 |some o=>simp
def oE{R:ag}{H:Hp}{v:V}{d:DI.D}(b:SI X F R τ ρ σ H)(es:aL H H')(r:cz X.K (gP X F) R τ fv H H' v d):
  ∃R' τ',(∀p,R p->R' p)/\SI X F R' τ' (if aW bW d then iF fv ρ else ρ) σ H'/\Rep (aY X.K H') (nd X.K R' ⇑7 ⇑8 H') [] v (aI aK d):=by
 by_cases a:aW bW d=true
 ·exact[zac a]\uu b es r
 ·rw[zab a];have e:cz X.K (gP X F) R τ [] H H' v d:=by
   ext(⟨τt,g,c⟩:r);exact⟨τt,g,Rep.lF (P:=bW) ⇑10 (λk p xs f hf h=>by
    cases f with
    |ow=>exact h
    |fz=>exact h
    |al=>cases hf
    |sc=>exact h) c ⇑a⟩
  have:=uu b es e;rw[Au]at this;exact this
def Gp{R:ag}{H:Hp}{ds:List DI.D}(b:SI X F R τ ρ σ H)(es:aL H H')(r:de X.K (gP X F) R τ fv H H' vs ds):
  ∃R' τ',(∀p,R p->R' p)/\SI X F R' τ' (if aQ bW ds then iF fv ρ else ρ) σ H'/\aH (aY X.K H') (nd X.K R' ⇑7 ⇑8 H') [] 0 vs (ak aK ds):=by
 by_cases a:aQ bW ds=true
 ·exact[zac a]\wC b es r
 ·rw[zab a];have d:de X.K (gP X F) R τ [] H H' vs ds:=by
   ext(⟨τt,e,c⟩:r);exact⟨τt,e,aH.lF (P:=bW) ⇑10 (λk p xs f hf h=>by
    cases f with
    |ow=>exact h
    |fz=>exact h
    |al=>cases hf
    |sc=>exact h) c ⇑a⟩
  have:=wC b es d;rw[Au]at this;exact this
def wiP(X:Cx)(F:ag)(Φ:aV)(p:Nat)(cs:aA):TI:=λσ H a=>∃R τ ρ xs d items,SI X F R τ ρ σ H/\bY Φ cs ρ=ok xs/\Φ p xs=ok d/\xZ d=ok items /\
 ∀J H2 vs,aL H H2->de X.K (gP X F) R τ (eE cs) H H2 vs xs->Yy X.K J H2 vs xs items->a J H2
def IT(L:ny X S k Φ){t:Tg}{p:Nat}{b:ai}{x:aP}(ht:ra S t tg=true)(hi:S.px.pi p S.sc S.bl iter=↥args)(hc:bV S cs args=true)(FT:Xz iter=true)(Z:(decide (1100<=p)||jC tg)=true)(hb:gO X x (lM X F Φ b)):PS X (.For tg iter x [] pos) (mj X F Φ (.fr t (.Ml p cs) b)):=by
 ext(⟨g,hg,ui⟩:zw (F:=F) L ht);have jE:∀y,m8 iter X.env y=pure y:=by
  intro y;cases iter<;>first|rfl | (cases FT;done)
 have pi:PI X tg iter (wiP X F Φ p cs):=λpins s σ H Rr I ⟨R,τ,ρ,xs,d,items,B,dK,ed,e,hR⟩ =>
  L.pr.i X _ _ k L.toLk.pX p iter args hi F cs tg Z (lP L.toLk cs args hc) pins s σ H R τ ρ xs d items I B dK ed e Rr hR
 refine PS.imp (kP L.px L.calm pi hg hb jE) λD σ H hq=>?_;ext(⟨R,τ,ρ,r,B,ev,hq⟩:hq)(⟨⟨items,ρ1⟩,e,ef⟩:aJ ev)(⟨xs,dK,e⟩:aJ e)(⟨d,ed,e⟩:aJ e)(⟨aaa,ei',e⟩:aJ e);cases e;refine⟨R,τ,ρ,xs,d,items,B,dK,ed,ei',λJ H2 vs e2 Jf W=>?_⟩;ext(⟨R',τ',hR,eH,rs⟩:Gp B e2 Jf)(Cb:hq.from (Kp.of e2 hR));refine⟨λi m c H'=>m=items.length - i/\i<=items.length/\mi X F Φ t b R' H2 r items i c H',⟨_,rfl,aa6 _,R',τ',_,eH,Kp.refl R' H2,[zaT]\ef⟩,?_⟩;rintro i m j H1 ⟨rfl,MJ,hf⟩;ext(⟨R1,O,U,uR,k1,e1⟩:id hf)(N9:k1.Zy rs);have Y:xp X.K H2 vs xs H1:=⟨⟨R',rs,k1.l⟩,λa ys h=>k1.Ts h⟩
 by_cases z:i<items.length
 ·refine .inr ⟨W.go i H1 R1 Y N9 z,λc H'=>mi X F Φ t b R' H2 r items (i+1) c H',λc H' h=>⟨items.length - (i+1),by left,rfl,z,h⟩,λv H3 hy=>?_⟩;ext(⟨e3,dd,hd,rd⟩:W.zd i H1 R1 v H3 Y N9 z hy);have pV:items.drop i=dd::items.drop (i+1):=by
   rw[zax z];rw[cb z]at hd;cases hd;rfl
  rw[pV,dD]at e1;ext(⟨u,eb,e1⟩:aJ e1)(⟨⟨fo,q⟩,e4,e1⟩:aJ e1);have k3:Kp R' H2 R1 H3:=k1.trans (Kp.of e3 λ_ h=>h);refine ui v j H3 _ R1 O U u dd (uR.go e3) (j4 rd) eb λc oX Hw=>⟨R1,oX,u,(fo,q),Hw,e4,?_⟩
  cases fo with
  |nx=>exact λσ3 H4 R3 M Lv k4=>⟨R3,M,q,Lv,k3.trans k4,e1⟩
  |rt d=>cases e1;exact Cb
 ·exact .inl ⟨W.stop i H1 R1 Y N9 ⋯,oH (n:=i) ⋯ Cb j H1 hf⟩
theorem aH.ints{T:qI}{N:lB}:∀(is:ae) {k:bw} {n:Nat},aH T N k n (is.map V.int) (is.map DI.D.int)
 |[],_,_=>.nil
 |i::is,_,_=>.cons ↑i (aH.ints is)
protected def NR(L:ny X S k Φ){t:Tg}{it:CI}{b:ai}{x:aP}(ht:ra S t tg=true)(B:Rh S it iter=true)(hnp:(jC tg||EO it)=true)(hb:gO X x (lM X F Φ b)):PS X (.For tg iter x [] pos) (mj X F Φ (.fr t it b)):=by
 ext(⟨g,hg,ui⟩:zw (F:=F) L ht);have jE:∀y,m8 iter X.env y=pure y:=by
  intro y;cases iter<;>first|rfl | (cases it<;>first|exact(aaj B).elim|exact(aaj (aC B).2).elim)
 have nC:∀{lo:Int} {n:Nat} {D:Ends} {R:ag} {τ:Addr->Option bw} {ρ:aS} {σ:St} {H H1:Hp} {r:Fo×aS},SI X F R τ ρ σ H->aL H H1->nM X F D R H r ->
   dD (λd ρ=>cw t d ρ) (λρ=>bE Φ b ρ) ((eg n).map λ(k:Nat)=>DI.D.int (lo+(k:Int))) ρ=ok r ->
   ∃W:Nat->Nat->L2.St->Hp->Prop,(∃m,W 0 m σ H1)/\∀i m σ H,W i m σ H ->
    ((CP lo n).stop i H/\D.nx σ H)\/((CP lo n).go i H/\∃N:L2.St->Hp->Prop,(∀j H',N j H'->∃m',m'<m/\W (i+1) m' j H')/\∀x H',(CP lo n).zd i H x H'->g x σ H' λσ2 H2=>lM X F Φ b { D with nx:=N,ct:=N,bk:=D.nx } σ2 H2):=by
  intro lo n D R τ ρ σ H H1 r q e1 z J;have u:aH (aY X.K H1) (nd X.K R ⇑7 ⇑8 H1) [] 0 ((eg n).map λ(k:Nat)=>V.int (lo+(k:Int))) ((eg n).map λ(k:Nat)=>DI.D.int (lo+(k:Int))):=by
   have:=aH.ints (T:=aY X.K H1) (N:=nd X.K R ⇑7 ⇑8 H1) ((eg n).map λ(k:Nat)=>lo+(k:Int)) (k:=[]) (n:=0);rw[zag,zag]at this;exact this
  have M:=z.from (Kp.of e1 (R':=R) λ_ h=>h);refine Cn (mi X F Φ t b R H1 r _) ⟨R,τ,ρ,q.go e1,Kp.refl R H1,[zaT]\J⟩ (λi j H' PH h=>?_) (λj H' h=>oH ⇑5 M j H' h);exact qb ui u M i ↑(lo+i) j H' (by rw[bv,u6 PH];rfl) h
 intro pins s σ H D I R5;cases it with
 |Ml p cs =>
  ext(⟨FT,hz⟩:aC B)(⟨args,ha,MD⟩:bu hz);exact IT L ht ha MD FT ([Bool.or_comm]\hnp) hb pins s σ H D I R5
 |nC a =>
  ext(⟨R,τ,ρ,r,q,Z,z⟩:R5)(⟨⟨items,ρ1⟩,l,J⟩:aJ Z)(⟨⟨y,as⟩,hv,hz⟩:bu B)(⟨p,B6,rfl⟩:cn hv)(⟨XS,MD⟩:aC hz)(⟨Y,h2⟩:aC XS)(⟨U,h1⟩:aC Y);obtain rfl:y=_:=aag U;ext(⟨e,hu,h3⟩:bu MD);obtain rfl:as=[e]:=b8 hu;have pa:PA X [e] (sW X F Φ [a]):=PA.imp (cc (fA (F:=F) L.toLk a e h3).1 dt (bG h3 _ _)) λ_ _ _ h=>by
   have:=hZ h;ext(⟨R,τ,ρ,d,q,Z,z⟩:this);exact⟨R,τ,ρ,d,q,Z,λv H' e r=>lL (z v H' e r)⟩
  refine kP L.px L.calm (rO (L.gl h1) (L.bl _ (aag h2)) pa (bG h3 _ _)) hg hb jE pins s σ H D I ?_;ext(⟨d,ed,l⟩:aJ l);cases d<;>try (simp at l;done)
  rename_i n;simp at l;ext(⟨⟨c1,c2⟩,rfl,rfl⟩:l);have mY:(cU:Int)=1000000:=rfl;refine⟨R,τ,ρ,[.int n],q,by show bd (aZ Φ a ρ) _=_;rw[ed];rfl,λvs H1 e1 O=>?_⟩;ext(⟨τt,fr,u⟩:O);cases u.ints1
  ·refine⟨n,rfl,by left,by left,?_⟩;refine nC (lo:=0) q e1 z ?_;simpa using J
 |mM a c =>
  ext(⟨R,τ,ρ,r,q,Z,z⟩:R5)(⟨⟨items,ρ1⟩,l,J⟩:aJ Z)(⟨⟨y,as⟩,hv,hz⟩:bu B)(⟨p,B6,rfl⟩:cn hv)(⟨XS,MD⟩:aC hz)(⟨Y,h2⟩:aC XS)(⟨U,h1⟩:aC Y);obtain rfl:y=_:=aag U;ext(⟨⟨e,e'⟩,hu,h34⟩:bu MD);obtain rfl:as=[e,e']:=fq hu;ext(⟨h3,h4⟩:aC h34);have pa:PA X [e,e'] (sW X F Φ [a,c]):=oo L.toLk [a,c] [e,e'] (by show(cg S a e&&(cg S c e'&&true))=true;rw[h3,h4];rfl);refine kP L.px L.calm (rN (L.gl h1) (L.bl _ (aag h2)) pa (by rw[bG h3,bG h4];rfl) (bG h4 _ _)) hg hb jE pins s σ H D I ?_;ext(⟨d,ed,l⟩:aJ l)(⟨d',ed',l⟩:aJ l);cases d<;>try (simp at l;done)
  cases d'<;>try (simp at l;done)
  rename_i m _ n;simp at l;ext(⟨⟨c1,c2,c3,c4⟩,rfl,rfl⟩:l);have mY:(cU:Int)=1000000:=rfl;refine⟨R,τ,ρ,[.int m,.int n],q,by show bd (aZ Φ a ρ) _=_;rw[ed];show bd (bd (aZ Φ c ρ) _) _=_;rw[ed'];rfl,λvs H1 e1 O=>?_⟩;ext(⟨τt,fr,u⟩:O);cases u.ints2
  ·refine⟨m,n,rfl,⟨by left,by left,by left,by left⟩,?_⟩;exact nC (lo:=m) q e1 z J
 |seq a =>
  ext(⟨R,τ,ρ,r,q,Z,z⟩:R5)(⟨⟨items,ρ1⟩,l,J⟩:aJ Z);replace B:=aC B;ext(⟨d,ed,l⟩:aJ l)(pe:(fA (F:=F) L.toLk a iter B.1).1);cases d<;>try (simp at l;done)
  ·rename_i ds;simp at l;ext(⟨rfl,rfl⟩:l);refine kP L.px L.calm (x9 pe) hg hb jE pins s σ H D I (tD.intro q ed λv H1 e1 O=>?_);ext(⟨R',τ',hR,eH,rp⟩:oE q e1 O);rw[aI]at rp;cases rp with
   | @tup _ p xs _ hp u =>
    have M:=z.from (Kp.of e1 hR);refine⟨p,rfl,⟨xs,hp⟩,oF (xs:=xs) (mi X F Φ t b R' H1 r (ak aK ds)) ⟨R',τ',_,eH,Kp.refl R' H1,[zaT]\J⟩ (λi j H' _ h=>?_) (λi x j H' hx h=>qb ui u M i x j H' hx h) (λj H' h=>oH (u.length) M j H' h)⟩;ext(⟨R2,τ2,ρ2,_,kp,_⟩:h);exact kp.Ts hp
  ·rename_i f ds;simp at l;ext(⟨rfl,rfl⟩:l);refine kP L.px L.calm (tM pe) hg hb jE pins s σ H D I (tD.intro q ed λv H1 e1 O=>?_);ext(⟨R',τ',hR,eH,rp⟩:oE q e1 O);rw[aI]at rp;ext(⟨p,xs,rfl,hp,u⟩:rp.nN);have M:=z.from (Kp.of e1 hR);refine⟨p,rfl,⟨xs,hp.sq⟩,oF (xs:=xs) (mi X F Φ t b R' H1 r (ak aK ds)) ⟨R',τ',_,eH,Kp.refl R' H1,[zaT]\J⟩ (λi j H' _ h=>?_) (λi x j H' hx h=>qb ui u M i x j H' hx h) (λj H' h=>oH (u.length) M j H' h)⟩;ext(⟨R2,τ2,ρ2,_,kp,_⟩:h);exact(kp.nd hp).sq
def pN{R:Addr->Prop}{ρ':aS}{H:Hp}{p:Addr}{q:bw}{n:Nd}{o:HO}(j:SI X F R' τ' ρ' σ H1)(es:aL H H1)(hR:∀p,R p->R' p)(d:eN H1 p n)(b:τ' p=↥q):Kp R H R' (upd H1 p o):=by
 ext(⟨r,c,i,l⟩:eN.some d);exact⟨hR,λa u g e=>by
  have ne:a≠p:=λz=>by subst z;rw[j.rt _ (hR _ g)]at b;cases b
  rw[bt ne];exact es _ _ e,λa m e=>by
  ext(e1:es _ _ e);have ne:a≠p:=λz=>by subst z;rw[c]at e1;cases e1;exact i _ rfl
  rw[bt ne];exact e1,λa o u e=>by
  ext(e1:es _ _ e);have ne:a≠p:=λz=>by subst z;rw[c]at e1;cases e1;exact l _ _ rfl
  rw[bt ne];exact e1⟩
def gX.go{R:ag}{H:Hp}{v:V}{d:DI.D}(h:gX X R τ H v d)(e:aL H H'):gX X R τ H' v d :=
 let ⟨τt,h1,h2⟩:=h;⟨τt,λp q z=>let ⟨a,b,c,d⟩:=h1 p q z;⟨a,b,c,aL.ne e d⟩,h2.imp (λ_ _ h=>aY.same e h) λ_ _ _ _ h=>nd.same e h⟩
protected def XM(L:ny X S k Φ){i:Nat}(h:nc S i o=true)(d:∀x p,o=.Name x p->nY x=true):∃x p,o=.Name x p/\X.N[i]?=↥x/\L2.Loc X.env.scope x/\PE X o (mF i):=by
 cases o<;>try (exact(aaj h).elim;done)
 rename_i x p;ext(a:d x p rfl);replace h:=aC h;unfold nY at a;simp only[zah,zbb]at a;have c:X.N[i]?=↥x:=[L.N]\aag h.1
 ext(b:L.loc h.2);exact⟨x,p,rfl,c,b,iN c (b.imp id .inl) a.1.1 a.1.2⟩
protected def Kz{e:CE}{r:DI.D×aS}{i:Nat}{ds:List DI.D}(h:kf Φ e ρ=ok r)(a:r.2[i]?=↥↥(.ow\ds)):ρ[i]?=↥↥(.ow\ds):=by
 by_cases c:∃j,e=.v j
 ·ext(⟨j,rfl⟩:c);simp only[kf]at h;split at h
  ·split at h
   ·cases h;by_cases g:i=j
    ·subst g;rw[ww]at a;simp at a
    ·rw[ce (ja g)]at a;exact a
   ·cases h;exact a
  ·cases h
 ·have h':bd (aZ Φ e ρ) (λd=>ok (keep e d ρ))=ok r:=by
   cases e<;>first|exact h|exact absurd ⟨_,rfl⟩ c
  ext(⟨d,_,m⟩:aJ h');cases m;unfold keep at a;split at a
  ·ext(⟨d',l,b⟩:Av _ _ _ _ a);split at b
   ·cases d'<;>simp[aI]at b;rename_i f ds';cases f<;>simp[aK]at b
   ·exact[b]\l
  ·exact a
protected def NT(L:ny X S k Φ){i:Nat}{e:CE}{x:Str}{v:Expr}{p I B:Pos}(hn:nc S i (.Name x p)=true)(hx:nY x=true)(he:cg S e v=true)(Y:(I.endLine==B.line)=true):PS X (.Expr (.Call (.Attribute (.Name x p) ("append" : Str) I) [v] [] B) pos) (mj X F Φ (.app i e)):=by
 ext(⟨_,_,z,hN,hl,pe⟩:XM L hn (λy q e=>by cases e;exact hx));cases z;refine PS.imp (lR (EC adO adF A2 rS pe (cc (sZ (F:=F) L.toLk e v he) dt (bG he _ _)) (hfew:=by rw[bG he];rfl) (hline:=Y) (hs:=bG he _ _))) λD σ H t=>?_;ext(⟨R,τ,ρ,r,J,b,t⟩:t)(⟨r1,U,b⟩:aJ b);split at b
 ·rename_i ds c;split at b
  ·rename_i hc;cases b;ext(c:JA c)(⟨a,xs,s,ha,hxl,hta,_⟩:J.own (Kz U c));refine⟨.ref a,s,⟨rfl,_,eG.of ha⟩,R,τ,ρ,r1,J,U,λw H1 R1 W es hR j rk=>?_⟩;ext(⟨a1,LG,M,u,aar,O,N9⟩:j.own c);rw[s]at M;cases M;have hz:sizeLine=16777216:=acI;have mY:cU=1000000:=rfl;refine⟨a,LG,w,rfl,rfl,u,by left,?_⟩;ext(⟨d,Z⟩:j.put (m:=ds.length) (g:=λys=>ys++[w]) c s u O N9 rk λrs r=>aH.snoc rs ⇑r);exact t σ _ R1 d Z (pN (n:=.l _) j es hR u O)
  ·cases b
 ·cases b
protected def NS(L:ny X S k Φ){i:Nat}{b:Bool}{e:CE}{x:Str}{v:Expr}{p:Pos}(hn:nc S i (.Name x p)=true)(J:nY x=true)(he:cg S e v=true):PS X (.AugAssign (.Name x p) (if b then .Add else .Sub) v pos) (mj X F Φ (.aug i b e)):=by
 ext(⟨_,_,z,U,M,Y⟩:XM L hn (λy q e=>by cases e;exact J));cases z;have I:W7 X (if b then .Add else .Sub) (ipI λy z=>if b then y+z else y - z):=by
  cases b
  ·exact Pe
  ·exact Pg
 refine PS.imp (Ei L.nd U M (fA (F:=F) L.toLk e v he).1 I (.inl (L.oI _))) λD σ H j=>?_;ext(⟨R,τ,ρ,r,m,c,j⟩:j)(⟨n,en,c⟩:aJ c)(⟨d,W,en⟩:aJ en)(en:Ka en);subst en;split at c
 ·rename_i a l;cases c;ext(⟨w,hw,B⟩:m.rep i _ l);cases B;have O:i<ρ.length:=by
   by_cases z:i<ρ.length
   ·exact z
   ·rw[dV ⋯]at l;cases l
  refine⟨_,hw,tD.intro m W λu H1 e1 t=>?_⟩;cases t.isInt;refine⟨_,_,rfl,rfl,?_⟩;ext(⟨g,s⟩:(m.go e1).set (i:=i) (v:=.int (if b then a+n else a - n)) (d:=.int (if b then a+n else a - n)) ⟨λ_=>none,λ_ _ h=>by simp at h,.int _⟩ O);exact j _ H1 R g s (Kp.of e1 λ_ h=>h)
 ·cases c
end
section
variable {X:Cx}{S:Sx}{k:Nat}{F:ag}{Φ:aV}
def Og(x:Str)(p:Pos):(ml x p).pos=p:=rfl
def xU{x y:Str}{px d pt u:Pos}{l:Nat}{a b:Expr}(q:env.scope.kind=.function)(n:env.scope.names.lookup x=↥.local)(m:env.scope.names.lookup y=↥.local)(c:x≠y)(p:px.line=d.line)
  (t:[a,b].all (foldedForSure 8)=false) (s:[a,b].all (constantsAlone 8)=false) (g:([a,b].any λe=>match e with|.Starred ..=>true|_=>false)=false) :
  nF [.Tuple [.Name x px,.Name y d] l pt] (.Tuple [a,b] k2 u) env=pure ↥[x,y]:=by
 have r:env.blockKind=.function:=by unfold yaP;rw[q];rfl
 have j:env.kindOf x=↥.local:=n;have i:env.kindOf y=↥.local:=m;have e1:([x,y].eraseDups.length != [x,y].length)=false:=by
  have:¬ (y==x)=true:=by simp;exact λz=>c z.symm
  have h':(y==x)=false:=⇑this
  simp[List.eraseDups_cons,List.filter,h',c]
 unfold nF;simp only[r,g,zaV,List.filterMap_nil,j,i,p,Og,List.head?_cons,zbT,Option.getD_some,t,s];simp only[zbd,yau,if_true];rw[zab ⇑5];refine(aec ?_).trans ?_
 ·intro z;exact aaj (g.symm.trans z)
 rw[zab (by
  rw[e1];simp),zab zaj,zab zaj]
def pq{R:Addr->Prop}{H:Hp}{a:bw}{v:V}{d:DI.D}(h:Rep (aY X.K H) (nd X.K R A τ H) a v d)(hf:aW anyF d=false):gX X R' τ' H v d :=
 ⟨λ_=>none,λ_ _ h=>by simp at h,Rep.without (P:=anyF) ⇑10 (λk k' p xs f hf h=>by cases hf) h hf _⟩
def NQ(L:ny X S k Φ){i j:Nat}{a b:CE}{v:Expr}(he:cg S (.tup [a,b]) v=true)(hp:G7 S i j tg v=true):PS X (.Assign [tg] v pos) (mj X F Φ (.par i j a b)):=by
 ext(⟨ts,Pp,q1⟩:bu hp)(⟨kt,pt,rfl⟩:jU Pp)(⟨⟨t1,t2⟩,z,q2⟩:bu q1);obtain rfl:ts=[t1,t2]:=fq z;ext(⟨⟨x,px⟩,u,q3⟩:bu q2);obtain rfl:t1=_:=zg u;ext(⟨⟨y,py⟩,t,q4⟩:bu q3);obtain rfl:t2=_:=zg t;ext(⟨vs,s,q5⟩:bu q4)(⟨k2,RP,rfl⟩:jU s)(⟨⟨ea,eb⟩,q,q6⟩:bu q5);obtain rfl:vs=[ea,eb]:=fq q
 ·ext(⟨q7,Qa⟩:aC q6)(⟨q8,I⟩:aC q7)(⟨q9,J⟩:aC q8)(⟨ZL,M⟩:aC q9)(⟨p,O⟩:aC ZL)(⟨n,d⟩:aC p)(⟨m,e⟩:aC n)(⟨l,U⟩:aC m)(⟨Y,W⟩:aC l);replace Y:S.N[i]?=↥x:=aag Y;replace W:S.N[j]?=↥y:=aag W;replace U:=aag U;replace e:=aag e;replace d:=aag d;replace O:=aag O;replace M:=aag M;replace J:=dZ J;replace I:=dZ I;replace Qa:=aag Qa;replace he:=aC he;ext(pa:oo (F:=F) L.toLk [a,b] [ea,eb] he.1);refine PS.imp (Of L.calm L.nd ([L.N]\Y) ([L.N]\W) U ([L.sc]\e) ([L.sc]\d) pa (xU ([L.sc]\L.fk) ([L.sc]\e) ([L.sc]\d) O M J I Qa)) λD σ H B=>?_;ext(⟨R,τ,ρ,r,Si,c,B⟩:B)(⟨d1,ed1,c⟩:aJ c)(⟨d2,Z,c⟩:aJ c);simp only[MB]at c;ext(⟨⟨f1,f2,l1,l2⟩,rfl⟩:c);refine⟨R,τ,ρ,[d1,d2],Si,by show bd (aZ Φ a ρ) _=_;rw[ed1];show bd (bd (aZ Φ b ρ) _) _=_;rw[Z];rfl,λvs H1 e1 rv=>?_⟩;ext(⟨τt,fr,rs⟩:rv)(⟨v1,v2,rfl,r1,r2⟩:rs.two)
  ·ext(⟨τ1,S1⟩:(Si.go e1).set (i:=i) (pq r1 f1) l1)(⟨g,S2⟩:S1.set (i:=j) (pq r2 f2) ⇑l2);exact⟨v1,v2,rfl,B _ H1 R g S2 (Kp.of e1 λ_ h=>h)⟩
def Bv{X:Cx}{F:ag}{Φ:aV}{c:CS}{cs:ai}{g:aP}(n:PS X st (mj X F Φ c))(m:gO X g (lM X F Φ cs)):gO X (st::g) (lM X F Φ (c::cs)):=by
 refine gO.imp (cG n m) λD σ H b=>?_;ext(⟨R,τ,ρ,r,q,e,b⟩:b)(⟨⟨i,a⟩,e1,e⟩:aJ e);refine⟨R,τ,ρ,(i,a),q,e1,?_⟩;cases i with
 |nx=>exact λj H' R' τ' p l=>⟨R',τ',a,r,p,e,b.from l⟩
 |rt d=>cases e;exact b
mutual
theorem xW(L:ny X S k Φ):∀(c:CS) (st:Stmt),qt S c st=true->PS X st (mj X F Φ c)
 |.asg t e,st,h=>by
  ext(⟨⟨O,v⟩,s,q1⟩:bu h)(⟨pos,rfl⟩:jV s)(⟨tg,B,g⟩:bu q1);obtain rfl:O=[tg]:=b8 B;ext(⟨I,u⟩:aC g)(⟨J,n⟩:aC I)(⟨d,l⟩:aC J);have d:cg S e v=true:=d;replace n:(isTup v&&isTup tg)=false:=dZ n;cases Z:iR v with
  |false=>exact DL L d l n (iA d Z _ _ _)
  |true =>
   have u:(!iR v||isNm tg)=true:=u;rw[Z]at u;ext(⟨x,p,rfl⟩:oD u)(⟨ku,gens,sc,SM,rfl⟩:B0 Z);cases e<;>try (exact(aaj d).elim)
   cases t with
   |tp is=>exact(aaj l).elim
   |nm i =>
    cases hb:Ze S (.Name x p) (.ListComp ku gens sc SM)with
    |true=>exact IU L d l ⇑[LS L,hb]
    |false=>exact DL L d l n (by
      show mu (.ListComp ku gens sc SM) ↥(.Name x p) pos.line X.env=_;rw[LS L,hb])
 |.par i j a b,st,h=>by
  ext(⟨⟨O,v⟩,s,q1⟩:bu h)(⟨pos,rfl⟩:jV s)(⟨tg,B,g⟩:bu q1);obtain rfl:O=[tg]:=b8 B;exact NQ L (aC g).1 (aC g).2
 |.ret e,st,h=>by
  ext(⟨z,s,q1⟩:bu h)(⟨pos,rfl⟩:zf s)(⟨v,B,g⟩:bu q1);obtain rfl:z=↥v:=B;exact NP L g
 |.rs c,st,h=>λ_ _ _ _ _ _ b9=>by ext(⟨R,τ,ρ,r,Si,ev,hq⟩:b9);cases ev
 |.ex e,st,h=>by
  ext(⟨v,s,q1⟩:bu h)(⟨pos,rfl⟩:o6 s);exact Tr L (aC q1).1 (dZ (aC q1).2)
 |.mut p i es,st,h=>by
  ext(⟨⟨o,args⟩,ha,q1⟩:bu h)(⟨g,n⟩:aC q1)(⟨d,l⟩:aC g)(⟨x,U,rfl,hN,Y,W⟩:XM L d (λy q e=>by cases e;exact l));exact L.pm.m X _ _ k L.toLk.pX L.nd L.oI p st x U args ha i hN Y W F es (lP L.toLk es args n)
 |.mu2 p i k e,st,h=>by
  ext(⟨⟨o,args⟩,ha,q1⟩:bu h)(⟨g,n⟩:aC q1)(⟨d,l⟩:aC g)(⟨x,U,rfl,hN,Y,W⟩:XM L d (λy q e=>by cases e;exact l));exact L.pm.m2 X _ _ _ L.toLk.pX L.nd L.oI p st x U args ha i hN Y W F k e (lP L.toLk [k,e] args n)
 |.unp is e,st,h=>by
  ext(⟨⟨O,v⟩,s,q1⟩:bu h)(⟨pos,rfl⟩:jV s)(⟨tg,B,g⟩:bu q1);obtain rfl:O=[tg]:=b8 B;ext(⟨I,u⟩:aC g)(⟨J,n⟩:aC I)(⟨d,l⟩:aC J);have d:cg S e v=true:=d;replace n:(isTup v&&isTup tg)=false:=dZ n;exact NO L d l n (iA d (dZ u) _ _ _)
 |.app i e,st,h=>by
  ext(⟨c,s,q1⟩:bu h)(⟨pos,rfl⟩:o6 s)(⟨⟨fn,as,ks,p2⟩,B,g⟩:bu q1);obtain rfl:c=_:=mE B;ext(⟨I,J⟩:aC g);obtain rfl:ks=[]:=jD I;ext(⟨⟨o,a,p1⟩,v3,q5⟩:bu J);obtain rfl:fn=_:=o7 v3;ext(⟨q6,q7⟩:aC q5)(⟨v,v4,u⟩:bu q7);obtain rfl:as=[v]:=b8 v4;ext(⟨q8,h5⟩:aC q6)(⟨q9,l⟩:aC q8)(⟨ZL,d⟩:aC q9);obtain rfl:a=_:=aag ZL;obtain⟨x,p,rfl⟩:∃x p,o=.Name x p:=uB d;exact NT L d l u h5
 |.aug i op e,st,h=>by
  ext(⟨⟨o,p,v⟩,s,q1⟩:bu h)(⟨pos,rfl⟩:zk s)(⟨g,u⟩:aC q1)(⟨I,n⟩:aC g)(⟨d,l⟩:aC I);obtain rfl:p=_:=aag n;obtain⟨x,U,rfl⟩:∃x p,o=.Name x p:=uB d;exact NS L d l u
 |.ifs c a b,st,h=>by
  ext(⟨⟨t,x,y⟩,s,q1⟩:bu h)(⟨pos,rfl⟩:sT s)(⟨g,n⟩:aC q1)(⟨d,l⟩:aC g);exact Tq L d (iK L a _ l) (iK L b _ n)
 |.LI c b,st,h=>by
  ext(⟨⟨t,x,y⟩,s,q1⟩:bu h)(⟨pos,rfl⟩:Ir s)(⟨g,n⟩:aC q1)(⟨d,l⟩:aC g);obtain rfl:y=[]:=jD d;exact DK L l (iK L b _ n)
 |.fr t it b,st,h=>by
  ext(⟨⟨tg,iter,x,y⟩,s,q1⟩:bu h)(⟨pos,rfl⟩:zi s)(⟨g,h5⟩:aC q1)(⟨I,u⟩:aC g)(⟨J,n⟩:aC I)(⟨d,l⟩:aC J);obtain rfl:y=[]:=jD d;exact NR L l n u (iK L b _ h5)
theorem iK(L:ny X S k Φ):∀(cs:ai) (M:aP),jo S cs M=true->gO X M (lM X F Φ cs)
 |[],[],_=>gO.imp tI λD σ H b9=>by ext(⟨R,τ,ρ,r,Si,ev,hq⟩:b9);cases ev;exact hq σ H R τ Si (Kp.refl R H)
 |[],_::_,h=>by exact(aaj h).elim
 |_::_,[],h=>by exact(aaj h).elim
 |c::cs,st::M,h=>by
  replace h:=aC h;have d:PS X st (mj X F Φ c):=xW L c st h.1;have l:gO X M (lM X F Φ cs):=iK L cs M h.2;exact Bv d l
end
end
def Qi{N:ao}{body:ai}{r:D}{H:Hp}(y:X.H₀=H)(hpl:ds.length<=N.length)
  (rs:aH (aY X.K H) (nd X.K F ⇑7 ⇑8 H) [] 0 vs ds) (g:qQ Φ N.length body ds=ok r)
  (k:∀v H',aL H H'->(∃τt:Addr->Option bw,(∀p q,τt p=↥q->H p=none)/\Rep (aY X.K H') (nd X.K (λp=>F p\/H p=none) ⇑7 τt H') [] v r)->Q v H') :
  lM X F Φ body { nx:=λ_ H'=>Q .b0 H',rt:=Q } (start N vs) H:=by
 subst y;unfold qQ at g;ext(⟨⟨l,j⟩,B,g⟩:aJ g);have s:vs.length=ds.length:=rs.length;refine⟨λp=>F p/\X.H₀ p≠none,λ_=>none,_,(l,j),⟨?_,λi d e=>?_,λ_ _=>rfl,λp h=>h.2,λp h=>.inl h.1,λ_ _ h=>by simp at h,λ_ _ h=>by simp at h,aL.refl _⟩,B,?_⟩
 ·unfold L2.start;simp[s]
 ·have n:i<ds.length:=by
   by_cases m:i<ds.length
   ·exact m
   ·rw[d6 ⇑m]at e;rw[h9]at e;split at e<;>simp at e
  rw[d7 ⇑n,bv]at e;have hd:ds[i]?=↥d:=by
   cases q:ds[i]? with
   |none=>rw[q]at e;cases e
   |some z=>rw[q]at e;simp at e;rw[e]
  ext(⟨v,x,u⟩:rs.get hd);refine⟨v,?_,u.imp (q:=[0+i]) (q':=[i]) ⇑10 λc p xs f h=>?_⟩
  ·unfold L2.start;rw[d7 ([zaa,s]\n),bv,x];rfl
  ·cases f with
   |ow=>exact nomatch h.2
   |fz=>exact⟨h.1,h.2,h.1.ne⟩
   |al=>exact h.2.elim
   |sc=>exact h
 ·cases l with
  |nx =>
   cases g;exact λt H' R' τ' I J=>k .b0 H' I.same ⟨λ_=>none,λ_ _ h=>by simp at h,.b0⟩
  |rt d =>
   cases g;exact λv H' es ⟨a,b,c⟩=>k v H' es ⟨a,b,c⟩
variable {mg:Str->Option Value}{ps:ao}{qual:Str}
def wF{x:Str}{f:Addr}{a:hD}{k:Nat}{N bl:ao}{cs:List (Str×GK)}{px:Px}{c:Nat->Option Str}{m:aE}{body:ai}
  (J:CQ K x qual st f a) (b:e_ N ps (aD st)) (O:jo ⟨aD st,N,c,bl,cs,px⟩ body (bB st)=true) (M:og px Φ) (I:HE px Φ)
  (e:∀y∈bl,mg y=none) (p:∀y i,(y,i)∈cs->∃u,mg y=↥u/\xE K i u)
  (n:∀g y,c g=↥y->∃(f:Addr) (a:hD) (ps:ao),fP P w K mg base u_ k f a ps (HK K ps.length (Φ g))/\mg y=↥(.ref f)/\hP K (.ref f)=true/\Binds K a ps []/\∀ds r,Φ g ds=ok r->ds.length=ps.length)
  (v:∀ds r,m ds=ok r->ds.length=ps.length/\qQ Φ N.length body ds=ok r):fP P w K mg base u_ (k+1) f a ps (HK K ps.length m):=by
 refine J.ok (N:=N) b (λvs H Q E ⟨_,_,_,h,_⟩=>h) λz A outer s H vs Q E q j=>?_;ext(⟨F,ds,r,R,l,B,t⟩:j)(⟨U,d⟩:v ds r B)
 let X:=(js u_ P w K mg base N qual (aD st) f z A outer s H E).yd
 have L:ny X ⟨aD st,N,c,bl,cs,px⟩ k Φ:=⟨⟨rfl,rfl,b.nd,rfl,q,e,λg y h=>⟨n g y h⟩,p,M⟩,λ_=>rfl,O3,b.kind,I⟩
 exact⟨lM X F Φ body,iK L body _ O,Qi rfl (by have:=aa2 mo b.pre;rw[zar]at this;left) l d t⟩
structure Ent(P:aG)(w:World)(K:av)(mg:aT)(base:Heap)(k:Nat)(y:Str)(m:aE):Prop where
 ex:∃(f:Addr) (fd:hD) (ps:ao),fP P w K mg base u_ k f fd ps (HK K ps.length m)/\mg y=↥(.ref f)/\hP K (.ref f)=true/\Binds K fd ps []/\∀ds r,m ds=ok r->ds.length=ps.length
def Ent.up{k k':Nat}{y:Str}{m:aE}(h:Ent P w K mg base k y m)(a:k<=k'):Ent P w K mg base k' y m:=by
 ext(⟨f,d,ps,c,b⟩:h.ex);exact⟨f,d,ps,c.mono a,b⟩
def ent{x:Str}{f:Addr}{a:hD}{k:Nat}{N bl:ao}{cs:List (Str×GK)}{px:Px}{b:Nat->Option Str}{m:aE}{body:ai}
  (d:CQ K x qual st f a) (hmg:mg x=↥(.ref f)) (n:Binds K a ps []) (p:e_ N ps (aD st)) (t:jo ⟨aD st,N,b,bl,cs,px⟩ body (bB st)=true) (s:og px Φ) (q:HE px Φ) (e:∀y∈bl,mg y=none) (l:∀y i,(y,i)∈cs->∃u,mg y=↥u/\xE K i u)
  (j:∀g y,b g=↥y->Ent P w K mg base k y (Φ g)) (c:∀ds r,m ds=ok r->ds.length=ps.length/\qQ Φ N.length body ds=ok r):Ent P w K mg base (k+1) x m :=
 ⟨f,a,ps,wF d p t s q e l (λg y h=>(j g y h).ex) c,hmg,d.kp,n,λds r h=>(c ds r h).1⟩
def bM{b:Type}(P:b->Prop):List b->Prop
 |[]=>True
 |a::l=>P a/\bM P l
theorem bM.mem{b:Type}{P:b->Prop}:∀{l:List b},bM P l->∀a∈l,P a
 |[],_,_,h=>by cases h
 |_::_,h,_,hm=>(ci.mp hm).elim (λe=>e▸h.1) (bM.mem h.2 _)
theorem bM.tab{c:Type}{P:Nat->c->Prop}:∀{l:List (Nat×c)},bM (λp=>P p.1 p.2) l->∀g y,l.lookup g=↥y->P g y
 |[],_,_,_,h=>by cases h
 | (k,b)::l,h,g,y,e=>by
  rw[zam]at e;cases a:g==k with
  |true=>rw[a]at e;cases e;exact[eq_of_beq a]\h.1
  |false=>rw[a]at e;exact bM.tab h.2 g y e
def bM.two{b a:Type}{P:b->a->Prop}{l:List (b×a)}(h:bM (λp=>P p.1 p.2) l)(y:b)(i:a)(c:(y,i)∈l):P y i:=bM.mem h _ c
def UD{b:Type}{l:List b}(h:l.length=1):∃a,l=[a]:=List.length_eq_one_iff.mp h
def JS{c:Type}{l:List c}(h:l.length=2):∃a b,l=[a,b]:=by
 cases l with
 |nil=>cases h
 |cons a l=>ext(⟨b,rfl⟩:UD (FB h));exact⟨a,b,rfl⟩
def OU{d:Type}{l:List d}(h:l.length=3):∃a b c,l=[a,b,c]:=by
 cases l with
 |nil=>cases h
 |cons a l=>ext(⟨b,c,rfl⟩:JS (FB h));exact⟨a,b,c,rfl⟩
meta def pS:aa->Option (ae)
 |[]=>↥[]
 |.int i::ds=>(pS ds).map (i :: ·)
 |_::_=>none
theorem pR:∀ns:ae,pS (ns.map D.int)=↥ns
 |[]=>rfl
 |n::ns=>by simp[pS,pR ns]
theorem vY:∀{ds:aa} {ns:ae},pS ds=↥ns->ds=ns.map D.int
 |[],ns,h=>by simp[pS]at h;subst h;rfl
 |d::ds,ns,h=>by
  cases d<;>simp[pS]at h;ext(⟨ms,a,rfl⟩:h);rw[vY a];rfl
def t4:aE
 |[.sc\ds]=>match pS ds with
  |some ns=>if ns.length<=63 then ok (.bl true)else none
  |none=>none
 |_=>none
def JO(h:ns.length<=63):t4 [.sc\(ns.map D.int)]=ok (.bl true):=by
 simp[t4,pR,h]
protected def Fj{n:Nat}{b:ai}(h:∀ns:ae,ns.length<=63->qQ Φ n b [.sc\(ns.map D.int)]=ok (.bl true)):∀ds r,t4 ds=ok r->ds.length=1/\qQ Φ n b ds=ok r:=by
 intro ds r e
 match ds,e with
 |[.sc\ds],e =>
  simp only[t4]at e;split at e
  ·rename_i ns c;split at e
   ·rename_i a;cases e;ext(rfl:vY c);exact⟨rfl,h ns a⟩
   ·cases e
  ·cases e
def OX(K:av)(H:Hp)(a:Addr)(ns:ae)(m:aE)(c:m [.sc\(ns.map D.int)]=ok (.bl true))(e:Ly H)(d:eG K H a (ns.map V.int)):HK K 1 m [.ref a] H (λv _=>v=.bl true) λ_ _ _=>False:=by
 refine⟨λ_=>True,_,.bl true,rfl,.cons (.lst ?_ (aH.ints ns)) .nil,c,λv H' _ g=>by ext(⟨τt,_,b⟩:g);cases b;rfl⟩;ext(((h|h)|h):d)
 ·ext((z|⟨o,xs,z⟩):e a)
  ·rw[h]at z;cases z
  ·rw[h]at z;cases z
 ·exact .inl h
 ·exact .inr h
section
variable {X:Cx}{pins:au}{σ:St}{H:Hp}{s:ap}{h':Heap}
def Iz(I:Inv X pins σ H s)(hf:∀b∈ch,qE X pins H b)(k:∀b u,b∉ch->s.heap.get? b=↥u->h'.get? b=↥u):Inv X pins σ H { s with heap:=h',toks:=t' }:=by
 have i:∀b u,H b=↥u->b∉ch:=λb u e z=>by rw[(hf b z).1]at e;cases e
 refine I.step (g':=s.gens) (d':=s.drawn) (ch:=ch) (λb c=>⟨(hf b c).2.2.2.1,(hf b c).2.1,(hf b c).2.2.2.2.1,(hf b c).2.2.2.2.2⟩) (λb o _ _ a e _=>k b o a e) (λb o _ _ a e _=>⟨o.slots,k b o a e⟩) (λ_ _ _ _ n=>n)
  (λb o a e=>⟨o,k b o a e⟩) (λ_ _ e=>e) (λ_ _ _ e=>e) (λm g=>?_) (λb u e=>?_) I.bare
 ·ext(⟨o,es,ep,d,r⟩:g);exact⟨o,es,ep,k _ o (λz=>(hf _ z).2.1 rfl) d,r⟩
 ·exact(I.cJ b u e).lO λv=>k b v (i b u e)
def IA{T:Addr}{o:HO}(I:Inv X pins σ H s)(hf:∀b∈ch,qE X pins H b)(k:∀b u,b∉ch->s.heap.get? b=↥u->h'.get? b=↥u)(g:s.heap.objs.size<=T)(new:cQ (upd H T o) h' T o):
  Inv X pins σ (upd H T o) { s with heap:=h',toks:=t' }:=by
 have l:∀b u,H b=↥u->b∉ch:=λb u e z=>by rw[(hf b z).1]at e;cases e
 have d:H T=none:=I.cJ.fresh g;have ne:∀b (u:Obj),s.heap.get? b=↥u->b≠T:=λb u e z=>absurd (aas e) ([z]\lZ.mpr g);have up:∀b u,H b=↥u->upd H T o b=↥u:=λb u e=>[bt (dX e d)]\e
 refine I.step (g':=s.gens) (d':=s.drawn) (ch:=ch) (λb c=>⟨(hf b c).2.2.2.1,(hf b c).2.1,(hf b c).2.2.2.2.1,(hf b c).2.2.2.2.2⟩) (λb o _ _ a e _=>k b o a e) (λb o _ _ a e _=>⟨o.slots,k b o a e⟩) (λb u _ e n=>[bt (ne b u e)]\n)
  (λb o a e=>⟨o,k b o a e⟩) (λ_ _ e=>up _ _ e) (λ_ _ _ e=>up _ _ e) (λm j=>?_) (Ah (λb u e=>?_) d new) I.bare
 ·ext(⟨o,es,ep,i,r⟩:j);exact⟨o,es,ep,k _ o (λz=>(hf _ z).2.1 rfl) i,r⟩
 ·exact(I.cJ b u e).lO λv=>k b v (l b u e)
end
def Itz(K:av)(a b:Addr):It :=
  ⟨λi H=>∃xs ys x y,eG K H a xs/\eG K H b ys/\xs[i]?=↥x/\ys[i]?=↥y,
   λi H v H'=>∃T x y,(∀xs,eG K H a xs->xs[i]?=↥x)/\(∀ys,eG K H b ys->ys[i]?=↥y)/\H T=none/\v=.ref T/\H'=upd H T (.tup [x,y]),
   λi H=>∃xs ys,eG K H a xs/\eG K H b ys/\(xs.length<=i\/ys.length<=i)⟩
def zq{H:Hp}{T:Addr}{x y:V}{u v:Value}(b:RelV x u)(a:RelV y v)(e:h.get? T=some { cls:=.type "tuple",data:=.seq #[u,v] }):cQ H h T (.tup [x,y]) :=
 ⟨by rw[kD];simp,[u,v],.cons b (.cons a .nil),⟨_,e,rfl,_,rfl⟩⟩
def dv{a b:Addr}{o u:Obj}(e:h.get? a=↥o)(c:h.get? b=↥u)(d:o.cls≠u.cls):a≠b:=λz=>by
 subst z;rw[e]at c;cases c;exact d rfl
def Dz{tp:Pos}{a b z TI TO:Addr}(Y:TI≠TO)(HV:i1≠i2):
  Turn P w K (.Tuple elts n1 tp) (Itz K a b) [z,TI,TO,i1,i2] z (λi h=>IsZip h z TI TO .none/\tt h TI (.ref i1) (.ref i2)/\(∃x y,tt h TO x y)/\h.IsListIter i1 a i/\h.IsListIter i2 b i):=by
 have apart:∀{h:Heap} {x y:Value} {xs ys:bq} {i:Nat},IsZip h z TI TO .none->tt h TI (.ref i1) (.ref i2)->tt h TO x y->h.IsListIter i1 a i->h.IsListIter i2 b i->h.IsList a xs->h.IsList b ys->GM z TI TO i1 i2 a b:=by
  intro h x y xs ys i d l j l1 l2 ha hb;ext(⟨t,e1,c1,_⟩:l1)(⟨o2,e2,c2,_⟩:l2)(⟨oa,J,M,_⟩:ha)(⟨ob,B,L,_⟩:hb);exact⟨dv l d ⇑5,dv j d ⇑5,dv e1 d (by rw[c1];simp),dv e2 d (by rw[c2];simp),Y,dv l e1 (by rw[c1];simp),dv l e2 (by rw[c2];simp),dv j e1 (by rw[c1];simp),dv j e2 (by rw[c2];simp),HV,
   dv J d (by rw[M];simp),dv J j (by rw[M];simp),dv J e1 (by rw[M,c1];simp),dv J e2 (by rw[M,c2];simp),dv B d (by rw[L];simp),dv B j (by rw[L];simp),dv B e1 (by rw[L,c1];simp),dv B e2 (by rw[L,c2];simp)⟩
 refine⟨by simp,λi h st c g=>?_,λi h h' st k=>?_,?_,?_,λA i s Q E st hQ=>FV st.1 hQ⟩
 ·ext(⟨d,l,⟨x,y,j⟩,⟨t,e1,_,d1⟩,⟨o2,e2,_,d2⟩⟩:st);simp only[zau,zaw,or_false]at g;ext((rfl|rfl|rfl|rfl|rfl):g)
  ·exact⟨_,d,λv q=>by cases q⟩
  ·exact⟨_,l,λv q=>by cases q⟩
  ·exact⟨_,j,λv q=>by cases q⟩
  ·exact⟨t,e1,λv q=>by rw[d1]at q;cases q⟩
  ·exact⟨o2,e2,λv q=>by rw[d2]at q;cases q⟩
 ·ext(⟨d,l,⟨x,y,j⟩,l1,l2⟩:st);exact⟨k z ⇑5 _ d,k TI ⇑5 _ l,⟨x,y,k TO ⇑5 _ j⟩,l1.at λo e=>k i1 ⇑5 o e,l2.at λo e=>k i2 ⇑5 o e⟩
 ·intro X Z hw hK g i pins s σ H E I hf st W;subst Z hw hK;ext(⟨xs,ys,x,y,q1,r,ex,ey⟩:W)(⟨d,l,⟨x0,y0,j⟩,l1,l2⟩:st)(⟨aO,R,p,_⟩:I.list q1)(⟨n,CV,p',_⟩:I.list r)(⟨u,hu,ru⟩:R.get ex)(⟨u',U4,U⟩:CV.get ey)(D:apart d l j l1 l2 p.isList p'.isList);refine Vi D d l j l1 l2 p.isList p'.isList (x:=u) (y:=u') ⇑hu ⇑U4 λh1 z1 t a1 b1 t1 Xm k1=>⟨_,rfl,?_⟩
  refine wpAny_letOwnedTupleGo_zip z1 λh2 z2 m=>?_;have O:s.heap.objs.size≠z:=aaT (aas d);have kk:∀c o,c∉[z,TI,TO,i1,i2]->s.heap.get? c=↥o->h2.get? c=↥o:=λc o g e=>by
   simp only[zau,zaw,or_false,not_or]at g;exact m.extBut c o g.1 (k1 c o g.1 g.2.2.1 g.2.2.2.1 g.2.2.2.2 e)
  have hT:h2.get? s.heap.objs.size=some { cls:=.type "tuple",data:=.seq #[u,u'] }:=m.extBut _ _ O t1;have hn:H s.heap.objs.size=none:=I.cJ.fresh (aat _);refine⟨.ref s.heap.objs.size,upd H s.heap.objs.size (.tup [x,y]),IA (s:=s) (h':=h2) (t':=s.toks) I hf kk (aat _) (zq ru U hT),rfl,⟨_,x,y,λzs d=>[I.lU d q1]\ex,λzs d=>[I.lU d r]\ey,hn,rfl,rfl⟩,⟨z2,m.extBut _ _ D.TIz (k1 _ _ D.TIz D.TITO D.TIi1 D.TIi2 l),⟨_,_,m.extBut _ _ D.TOz t⟩,a1.extBut m.extBut D.i1z,b1.extBut m.extBut D.i2z⟩,λc g=>?_⟩;rw[bt]
  ·exact(hf c g).1
  ·intro z;subst z;simp only[zau,zaw,or_false]at g;ext((e|e|e|e|e):g)
   ·exact absurd (aas d) ([-e]\aa8 _)
   ·exact absurd (aas l) ([-e]\aa8 _)
   ·exact absurd (aas j) ([-e]\aa8 _)
   ·ext(⟨_,w,_⟩:l1);exact absurd (aas w) ([-e]\aa8 _)
   ·ext(⟨_,w,_⟩:l2);exact absurd (aas w) ([-e]\aa8 _)
 ·intro X Z hw hK g i pins s σ H E I hf st W;subst Z hw hK;ext(⟨xs,ys,q1,r,hl⟩:W)(⟨d,l,⟨x0,y0,j⟩,l1,l2⟩:st)(⟨aO,R,p,_⟩:I.list q1)(⟨n,CV,p',_⟩:I.list r);have e1:=R.length;have e2:=CV.length;refine XP (I.ok.hd g) (apart d l j l1 l2 p.isList p'.isList) d l j l1 l2 p.isList p'.isList (by simp;left) λh1 k1=>⟨rfl,Iz (t':=s.toks) I hf λc o g e=>?_⟩
  simp only[zau,zaw,or_false,not_or]at g;exact k1 c o g.1 g.2.2.1 g.2.2.2.1 g.2.2.2.2 e
variable {ta:TA}
def Oh{l p:Pos}(J:Gl X "zip")(B:X.mg "zip" = none)(L:PA X [e1,e2] ta)(hs:∀es,cm (e1::es) X.env=(false,eval e1 X.env)::cm es X.env)(O:∀es,cm (e2::es) X.env=(false,eval e2 X.env)::cm es X.env):
  PI X (.Tuple elts n1 l) (.Call (.Name "zip" p) [e1,e2] [] pos) (λσ H R=>ta σ H λvs H1=>∃a b,vs=[.ref a,.ref b]/\(∃xs,eG X.K H1 a xs)/\(∃ys,eG X.K H1 b ys)/\R (Itz X.K a b) H1):=by
 intro pins s σ H R I h;refine Call_ (gR I J B boot_zip (abk (dO (L pos pins s σ H _ I h) λU c M=>?_) (hs _) (by rw[O];rfl)));ext(⟨vs,H1,d,r1,q1⟩:M)(⟨a,b,e,⟨xs,q1⟩,⟨ys,r⟩,q⟩:q1);subst e;ext(⟨u,v,rfl,n,m⟩:vals2 r1);cases n;cases m;ext(⟨W,_,y,_⟩:d.list q1)(⟨g,_,x,_⟩:d.list r);refine call_zip_2 y.isList x.isList λh' z t o l1 l2 sz k=>FV z ?_;refine⟨c.heap.objs.size+4,[c.heap.objs.size+4,c.heap.objs.size+2,c.heap.objs.size+3,c.heap.objs.size,c.heap.objs.size+1],_,_,H1,rfl,d.kept (t':=c.toks) k,Dz (aax (abd _)) (aax (abd _)),⟨z,t,⟨_,_,o⟩,l1,l2⟩,λb i=>?_,q⟩;have j:c.heap.objs.size<=b:=by
  simp only[zau,zaw,or_false]at i;rcases i with rfl|rfl|rfl|rfl|rfl<;>first|exact aaS .. |exact aat _
 exact d.Kw j (d.cJ.fresh j)
def qr(sc:Scope)(bl:ao)(e:Expr):Option (aj):=(fc e).bind λz=>(two z.2).bind λ_=>if z.1=("zip" : Str)/\gq sc z.1=true/\z.1∈bl then ↥z.2 else none
def sE{sc:Scope}{bl:ao}{e:Expr}(h:qr sc bl e=↥args):∃p pos a b,e=.Call (.Name ("zip" : Str) p) [a,b] [] pos/\args=[a,b]/\gq sc ("zip" : Str)=true/\("zip" : Str)∈bl:=by
 ext(⟨⟨x,as⟩,c,h⟩:bT h)(⟨⟨a,b⟩,hw,h⟩:bT h)(⟨d,h⟩:gT h);cases h;ext(⟨rfl,i,g⟩:d)(⟨p,pos,rfl⟩:cn c)(rfl:fq hw);exact⟨p,pos,a,b,rfl,rfl,i,g⟩
def mS{a b:Expr}(h:qJ X F Φ cs [a,b]):(∃c d,cs=[c,d]/\PE X a (tD X F Φ c)/\PE X b (tD X F Φ d))/\PA X [a,b] (sW X F Φ cs)/\(∀es,cm (a::es) X.env=(false,eval a X.env)::cm es X.env)/\(∀es,cm (b::es) X.env=(false,eval b X.env)::cm es X.env):=by
 match cs,h with
 |[c,d],h =>
  ext(⟨j,i,_,g,e,_,_⟩:h);exact⟨⟨c,d,rfl,j,g⟩,PA.imp (cc j (PA.imp (cc g (PA.imp dt λ_ _ _ h=>lL h) (e _)) λ_ _ _ h=>hZ h) (i _)) λ_ _ _ h=>hZ h,i,e⟩
 |[],h=>exact h.elim
 |[_],h=>exact h.2.2.2.elim
 |_::_::_::_,h=>exact h.2.2.2.2.2.2.elim
def Rep.to0{R:ag}{H:Hp}{k:bw}{v:V}{d:D}(e:aL H H')(h:Rep (aY K H) (nd K R ⇑7 ⇑8 H) k v d):Rep (aY K H') (nd K R ⇑7 ⇑8 H') k' v d :=
 (Rep.mV h (k':=k')).imp (λ_ _ h=>aY.same e h) λ_ _ _ _ h=>nd.same e h
def Ij{p q:Addr}{g:Fl}{a b:aa}:Yy K (Itz K p q) H2 [.ref p,.ref q] [.lst f a,.lst g b] (ak aK (f8 (λx y=>.tup [x,y]) a b)):=by
 have len:(ak aK (f8 (λx y=>D.tup [x,y]) a b)).length=min a.length b.length:=by rw[aN];simp
 have two:∀{H':Hp} {R':ag},aH (aY K H') (nd K R' ⇑7 ⇑8 H') [] 0 [.ref p,.ref q] (ak aK [.lst f a,.lst g b]) ->
   ∃xs ys,eG K H' p xs/\eG K H' q ys/\aH (aY K H') (nd K R' ⇑7 ⇑8 H') [0] 0 xs (ak aK a)/\aH (aY K H') (nd K R' ⇑7 ⇑8 H') [1] 0 ys (ak aK b):=by
  intro H' R' h;rw[ak,aI,ak,aI,ak]at h;cases h with
  |cons h t=>cases t with
   |cons h' t=>cases h with
    |lst h r=>cases h' with
     |lst h' k=>exact⟨_,_,h.sq,h'.sq,r,k⟩
 refine⟨λi H' R' _ h j=>?_,λi H' R' x J _ h j s=>?_,λi H' R' _ h j=>?_⟩
 ·ext(⟨xs,ys,e,d,r1,c⟩:two h);rw[len]at j;have l1:=r1.length;have l2:=c.length;rw[aN,zaa]at l1 l2;exact⟨xs,ys,xs[i]'⋯,ys[i]'⋯,e,d,aaE _,aaE _⟩
 ·ext(⟨xs,ys,e,d,r1,c⟩:two h)(⟨T,u,v,H,B,z,rfl,rfl⟩:s)(⟨d1,e1,n⟩:r1.Gh (H xs e))(⟨I,e2,m⟩:c.Gh (B ys d));have es:aL H' (upd H' T (.tup [u,v])):=aL.upd z;refine⟨es,.tup [d1,I],?_,.tup (aY.of aU) (.cons (n.to0 es) (.cons (m.to0 es) .nil))⟩;rw[aN,bv]at e1 e2 ⊢;ext(⟨c1,q1,rfl⟩:io.mp e1)(⟨c2,l,rfl⟩:io.mp e2);rw[List.getElem?_zipWith,q1,l];simp[aI,ak]
 ·ext(⟨xs,ys,e,d,r1,c⟩:two h);rw[len]at j;have l1:=r1.length;have l2:=c.length;rw[aN,zaa]at l1 l2;exact⟨xs,ys,e,d,by left⟩
def Nh:PlI (qr) (Ii):=by
 intro Φ n i X sc bl k L e args J F cs tg z B pins s σ H R τ ρ xs d items I Y W c U Z hR;ext(⟨p,pos,a,b,rfl,rfl,O,M⟩:sE J);cases tg<;>try (cases z;done)
 ext(⟨_,u,m,l⟩:mS B);refine Oh (L.gl O) (L.bl _ M) u m l pins s σ H Z I ⟨R,τ,ρ,xs,Y,W,λvs H1 e1 j=>?_⟩;have g:=j;ext(⟨τt,fr,t⟩:j);rw[i]at c;unfold Ii at c;split at c
 ·cases c;cases U;ext(⟨v,w,rfl,r,q⟩:t.two);cases r with
  |lst y _=>cases q with
   |lst x _=>exact⟨_,_,rfl,⟨_,y.sq⟩,⟨_,x.sq⟩,hR _ H1 _ e1 g Ij⟩
 ·cases c
theorem aH.GS{T:qI}{N:lB}{k:bw}:∀(j:Nat) {n:Nat} {vs:ah} {ds:aa},aH T N k n vs ds->aH T N k (n+j) (vs.drop j) (ds.drop j)
 |0,_,_,_,h=>h
 |j+1,_,_,_,.nil=>.nil
 |j+1,n,_,_,.cons h t=>by
  rw[show n+(j+1)=n+1+j by left];exact aH.GS j t
theorem aH.LP{T:qI}{N:lB}{k:bw}:∀(j:Nat) {n:Nat} {vs:ah} {ds:aa},aH T N k n vs ds->aH T N k n (vs.take j) (ds.take j)
 |0,_,_,_,_=>[zbw,zbw]\.nil
 |j+1,_,_,_,.nil=>.nil
 |j+1,n,_,_,.cons h t=>.cons h (aH.LP j t)
meta def iy{a:Type}(b:Bool)(k:Nat)(xs:List a):List a:=if b then xs.drop k else xs.take k
def TQ(K:av)(b:Bool):V->Option Int->Option Int->Hp->VK->Prop:=λx c d H Q=>∃(a:Addr) (xs:ah) (k:Nat),x=.ref a/\eG K H a xs/\c=(if b then ↥(k:Int) else none)/\d=(if b then none else ↥(k:Int))/\∀p,H p=none->Q (.ref p) (upd H p (.lst (iy b k xs)))
def tj(b:Bool):SlR X (TQ X.K b):=by
 intro pins s σ H x v z y J L B Q I i t m l h;ext(⟨a,xs,k,rfl,p,rfl,rfl,q⟩:h);cases i;ext(⟨c,r,u,d⟩:I.list p)(g:dP u);have hlen:c.length=xs.length:=r.length.symm;refine⟨"list",_,C3.lookup,g.typeIs,Pv g t m l .none ⇑5 ?_ ([zad,hlen]\d)⟩;have e:slicePick c.toArray (if b then ↥(k:Int) else none) (if b then none else ↥(k:Int)) none=(iy b k c).toArray:=by
  cases b with
  |true=>exact slicePick_from' c.toArray k
  |false=>exact slicePick_upto' c.toArray k
 have j:Vals (iy b k xs) (iy b k c):=by
  cases b with
  |true=>exact r.drop k
  |false=>exact r.take k
 have n:(iy b k xs).length<=xs.length:=by
  cases b with
  |true=>show(xs.drop k).length<=_;rw[zbo];left
  |false=>show(xs.take k).length<=_;rw[zar];left
 exact[e]\⟨.ref s.heap.objs.size,_,I.OT (t':=s.toks) j (aav n d),rfl,q _ I.fresh⟩
def cutD(b:Bool)(xs:aa):O D:=match two xs with
 |some z=>match z.1 with
  |.lst _ ds=>match z.2 with
   |.int k=>if 0<=k then ok (.ow\(ak bp (iy b k.toNat ds)))else none
   |_=>none
  |_=>none
 |none=>none
protected def K2{b:Bool}{x y d:D}(h:cutD b [x,y]=ok d):∃(f:Fl) (ds:aa) (k:Nat),x=.lst f ds/\y=.int k/\d=.ow\(ak bp (iy b k ds)):=by
 cases x<;>first|exact nk h | (cases h;done) | (cases y<;>first|exact nk h | (cases h;done)|skip)
 ext(⟨c,a⟩:rX h);rename_i f ds k;exact⟨f,ds,k.toNat,rfl,by rw[Int.toNat_of_nonneg c],a.symm⟩
meta def SQ(b:Bool)(e:Expr):Option Expr:=match e with
 |.Slice a c st _=>match st with
  |none=>match b with
   |true=>match c with
    |none=>a
    |some _=>none
   |false=>match a with
    |none=>c
    |some _=>none
  |some _=>none
 |_=>none
protected def Iu{b:Bool}{e k:Expr}(h:SQ b e=↥k):∃p,e=.Slice (if b then ↥k else none) (if b then none else ↥k) none p:=by
 cases e<;>first|exact nk h | (cases h;done)|skip
 rename_i a c st p;cases st with
 |some _=>cases h
 |none=>cases b with
  |true=>cases c with
   |some _=>cases h
   |none=>cases h;exact⟨p,rfl⟩
  |false=>cases a with
   |some _=>cases h
   |none=>cases h;exact⟨p,rfl⟩
def nh(b:Bool)(_:Scope)(_:ao)(e:Expr):Option (aj):=(xK e).bind λz=>(SQ b z.2).bind λk=>↥[z.1,k]
def sF{b:Bool}{sc:Scope}{bl:ao}{e:Expr}(h:nh b sc bl e=↥args):∃a k p pos,e=.Subscript a (.Slice (if b then ↥k else none) (if b then none else ↥k) none p) pos/\args=[a,k]:=by
 ext(⟨⟨a,s⟩,c,h⟩:bT h)(⟨k,hw,h⟩:bT h);cases h;ext(⟨pos,rfl⟩:lI c)(⟨p,rfl⟩:Iu hw);exact⟨a,k,p,pos,rfl,rfl⟩
def G0{b:Bool}:RB (nh b) (cutD b):=by
 intro Φ n I X sc bl k L e args he F cs Z;ext(⟨a,m,p,pos,rfl,rfl⟩:sF he)(⟨c,c',rfl⟩:Z.c2)(⟨h1,_,_,h2,_,_,_⟩:Z);have this:PE X (.Subscript a (.Slice (if b then ↥m else none) (if b then none else ↥m) none p) pos) (tD X F Φ (.cM n [c,c'])):=by
  have go:∀{tl z:TO},PO X (if b then ↥m else none) tl->PO X (if b then none else ↥m) z->(∀(H1:Hp) (R:ag) (τ:Addr->Option bw) (ρ:aS) (k:Nat) (σ:St) (Q:Option Int->Option Int->Hp->Prop),SI X F R τ ρ σ H1->aZ Φ c' ρ=ok ↑k->(∀H2,aL H1 H2->Q (if b then ↥(k:Int) else none) (if b then none else ↥(k:Int)) H2)->tl σ H1 λl H2=>z σ H2 λu W=>Q l u W)->PE X (.Subscript a (.Slice (if b then ↥m else none) (if b then none else ↥m) none p) pos) (tD X F Φ (.cM n [c,c'])):=by
   intro tl z pl pu hh;refine PE.imp (vU (tj b) h1 pl pu) λσ H Q J=>?_;ext(⟨R,τ,ρ,d,g,t,J⟩:J)(⟨x,y,ex,ey,t⟩:T6 t);rw[I]at t;ext(⟨f,ds,j,rfl,rfl,rfl⟩:K2 t);refine tD.intro g ex λv H1 e1 r1=>hh H1 R τ ρ j σ (λl u W=>TQ X.K b v l u W Q) (g.go e1) ey λH2 e2=>?_;ext(r:(r1.go e2).mono (fv':=gJ (.cM n [c,c'])) λi hi=>aa0 _ hi)(⟨τt,fr,rp⟩:r)(⟨q,xs,rfl,hn,Y⟩:rp.nN)(U:e1.trans e2);refine⟨q,xs,j,rfl,hn.sq,rfl,rfl,λl s=>J _ _ (U.trans (aL.upd s)) (cz.qT (U.free s) (U.trans (aL.upd s)) aU ?_)⟩;have B:∃n',aH (aY X.K H2) (nd X.K R (lg (gP X F) τ (gJ (.cM n [c,c']))) τt H2) [] n' (iy b j xs) (iy b j ds):=by
    cases b with
    |true=>exact⟨_,Y.GS j⟩
    |false=>exact⟨_,Y.LP j⟩
   ext(⟨n',B⟩:B);exact(B.gM g fr).imp (λ_ _ h=>aY.same (aL.upd s) h) λ_ _ _ _ h=>nd.same (aL.upd s) h
  cases b with
  |true =>
   refine go (tJ h2) tL λH1 R τ ρ k σ Q g O M=>tD.intro g O λv H2 e2 r=>?_;cases r.isInt;exact⟨k,rfl,M H2 e2⟩
  |false =>
   refine go tL (tJ h2) λH1 R τ ρ k σ Q g O M=>tD.intro g O λv H2 e2 r=>?_;cases r.isInt;exact⟨k,rfl,M H2 e2⟩
 exact⟨this,cY this λ_=>by cases b<;>rfl⟩
section
open PySem.SeqAt
open PySem.AutoSeq1 (wpAny_loadPart')
open PySem.MeetsSeq PySem.MeetsSeq2 PySem.MeetsSeq3
def kn(g:Bool)(ns ms:ae):Bool:=bif g then !HT.lexLt ns ms else HT.lexLt ns ms
meta def M0(g:Bool)(a c:Int):Bool:=bif g then decide (a ≥ c)else decide (a<c)
def Eb(A:aF)(s:ap)(a:Int)(t:Tok)(c:Int)(u:Tok)(prog:aG)(w:World)(E:aB)(Q:aB)(h:Q (.bool (decide (a ≥ c))) s):⇑1 (richCompare .GtE (.int a t) (.int c u)) Q E s :=
 (ybG h:⇑1 (j_ .GtE (.int a t) (.int c u)) Q E s)
def Ea(A:aF)(s:ap)(a:Int)(t:Tok)(c:Int)(u:Tok)(prog:aG)(w:World)(E:aB)(Q:aB)(h:Q (.bool (decide (a<c))) s):⇑1 (richCompare .Lt (.int a t) (.int c u)) Q E s :=
 (ybF h:⇑1 (j_ .Lt (.int a t) (.int c u)) Q E s)
def BP(g:Bool)(a c:Int)(ns ms:ae):kn g (a::ns) (c::ms)=if a=c then kn g ns ms else M0 g a c:=by
 by_cases e:a=c
 ·subst e;cases g<;>simp[kn,HT.dY]
 ·cases g<;>simp only[kn,M0,HT.dY,e,ja e,if_false]<;>by_cases q:a<c<;>by_cases q':c<a<;>simp[q,q']<;>left
def Fs{vs ws:aw}{m n:Nat}(g:Bool)(e:im vs ns)(d:im ws ms)(hz:vs.zip ws=[])(b:ns.length+n=ms.length+m):kn g ns ms=M0 g m n:=by
 cases e with
 |nil=>cases d with
  |nil=>simp only[zaX]at b;cases g<;>simp[kn,M0,HT.kB]<;>left
  |cons c u h=>simp only[zaX,zae]at b;cases g<;>simp[kn,M0,HT.cN,show ∀(x:Int) l,HT.lexLt [] (x::l)=true from λ_ _=>rfl]<;>left
 |cons a t h=>cases d with
  |nil=>simp only[zaX,zae]at b;cases g<;>simp[kn,M0,HT.cN,show ∀(x:Int) l,HT.lexLt [] (x::l)=true from λ_ _=>rfl]<;>left
  |cons c u h=>rw[Sc]at hz;cases hz
def iJ(g:Bool)(l b:Addr)(items r:bq)(n n2:Nat)(dd Cy:Option Addr)(sl Z:Array (Option Value))(ns ms:ae)(W:im items.toList ns)(U:im r.toList ms):
  Meets ((match g with|false=>mX.«tuple.__lt__» |true=>mX.«tuple.__ge__») ⟨[.ref l,.ref b],[]⟩) (λ_ R s=>s.heap.get? l=some { cls:=.type "tuple",dict:=dd,data:=.seq items n,slots:=sl }/\s.heap.get? b=some { cls:=.type "tuple",dict:=Cy,data:=.seq r n2,slots:=Z }/\R (.ok (.ret (.bool (kn g ns ms)))) s) :=
 .of_wp λprog w A R s h=>by
  ext(⟨B,gl,d,tk,p⟩:s)(⟨hl,hb,h⟩:h);have f2:=AutoSeq1.sub_tuple_tuple;have z1:items.size=ns.length:=by rw[<- W.length];simp
  have z2:r.size=ms.length:=by rw[<- U.length];simp
  obtain⟨G,M⟩:∃G,G=g:=⟨g,rfl⟩
  rw[<- M]at h;cases g<;>(
   wp_walk using Kh hl,Kh hb,wpAny_forIn_list _ (λrest b I=>b.1=none/\I=⟨B,gl,d,tk,p⟩/\∃(vs ws:aw) (m H:ae),rest=vs.zip ws/\im vs m/\im ws H/\m.length+r.size=H.length+items.size/\R (.ok (.ret (.bool (kn G m H)))) ⟨B,gl,d,tk,p⟩) _
   case turn =>
    rintro ⟨y,x⟩ rest b I ⟨O,rfl,vs,ws,m,H,i,k,j,hlen,hR⟩;cases k with
    |nil=>rw[List.zip_nil_left]at i;cases i
    |cons a t z=>cases j with
     |nil=>rw[List.zip_nil_right]at i;cases i
     |cons c u v =>
      rw[Sc]at i;injection i with hyx U8
      injection hyx with hy hx
      subst hy hx;rw[BP]at hR;simp only[zae]at hlen;ext(⟨e,he,Y⟩:HT.GC A.in1 ⟨B,gl,d,tk,p⟩ a t c u);refine aaf (he prog w _ _ ?_);cases e with
      |true =>
       rw[zac (Y.mp rfl)]at hR
       wp_walk
       exact⟨rfl,rfl,_,_,_,_,U8,z,v,by left,hR⟩
      |false =>
       have lY:¬ a=c:=λq=>absurd (Y.mpr q) aaj;rw[zab lY]at hR;subst M;ext(L:Eb A.in1 ⟨B,gl,d,tk,p⟩ a t c u prog w)(J:Ea A.in1 ⟨B,gl,d,tk,p⟩ a t c u prog w)
       wp_walk using L,J
       exact⟨_,rfl,by simpa [M0]using hR⟩
   case fin =>
    rintro ⟨b1,b2⟩ I ⟨O,rfl,vs,ws,m,H,i,k,j,hlen,hR⟩;simp only at O;subst O;rw[Fs _ k j i.symm hlen]at hR;subst M
    wp_walk
    exact⟨_,rfl,by simpa [M0,yaS]using hR⟩
   case h=>exact⟨rfl,rfl,items.toList,r.toList,ns,ms,rfl,W,U,by left,h⟩)
def OP{A:aF}{s:ap}{l b:Addr}{items d:bq}{Q:aB}(q:IsTup s.heap l items)(u:IsTup s.heap b d)(t:im items.toList ns)(r:im d.toList ms)
  (p:A.units<cLine) (h:Q (.bool (HT.lexLt ns ms)) s):⇑1 (j_ .Lt (.ref l) (.ref b)) Q E s:=by
 ext(⟨⟨y,v,data,k⟩,g,i,n,hd⟩:id q)(⟨⟨B,z,data2,j⟩,e,c,m,a⟩:id u);simp only at i hd c a;subst i hd c a;exact Tp (op:=.Lt) ⟨_,g,rfl⟩ ⟨_,e,rfl⟩ ad2 Fk (C7 _ _) (iJ false l b items d n m v z k j ns ms t r)
  ⟨g,e,show lp (HT.lexLt ns ms)≠Ls/\Q (.bool (HT.lexLt ns ms)) s from⟨(λx=>nomatch x),h⟩⟩ p
end
def TN(K:av):R2:=λx y H Q=>∃a b ns ms,x=.ref a/\y=.ref b/\aY K H a (ns.map V.int)/\aY K H b (ms.map V.int)/\Q (.bl (kn true ns ms)) H
def EI(B:X.A.units<cLine):oV X (j_ .GtE) (TN X.K):=by
 intro pins s σ H x y v u Q I p m h;ext(⟨a,b,ns,ms,rfl,rfl,L,J,q⟩:h);cases p;cases m;ext(⟨R,r1,⟨⟨O,M,data,l⟩,g,i,n,hd⟩,_⟩:I.tuple L)(⟨t,r,⟨⟨W,U,data2,j⟩,e,d,z,c⟩,_⟩:I.tuple J);simp only at i hd d c;subst i hd d c;ext(k:iJ true a b R.toArray t.toArray n z M U l j ns ms (intsAre_of r1) (intsAre_of r));have q':lp (kn true ns ms)≠Ls/\EP X pins σ Q (.bool (kn true ns ms)) s:=⟨(λx=>nomatch x),⟨.bl _,H,I,rfl,q⟩⟩
 exact Tp (op:=.GtE) ⟨_,g,rfl⟩ ⟨_,e,rfl⟩ PySem.F.slot_tuple_ge PySem.F.entry_tuple_ge (PySem.F.args_tuple_ge_2 _ _) k ⟨g,e,q'⟩ B
def Sh(xs:aa):O D:=match two xs with
 |some z=>match z.1 with
  |.tup a=>match z.2 with
   |.tup b=>match intsOf a with
    |some ns=>match intsOf b with
     |some ms=>ok (.bl (kn true ns ms))
     |none=>none
    |none=>none
   |_=>none
  |_=>none
 |none=>none
protected def V0{x y d:D}(h:Sh [x,y]=ok d):∃ns ms:ae,x=.tup (ns.map D.int)/\y=.tup (ms.map D.int)/\d=.bl (kn true ns ms):=by
 cases x<;>first|exact nk h | (cases h;done) | (cases y<;>first|exact nk h | (cases h;done)|skip)
 rename_i a b;have h:(match intsOf a with|↥ns=>(match intsOf b with|↥ms=>ok (D.bl (kn true ns ms))|none=>none)|none=>none)=ok d:=h;cases c:intsOf a with
 |none=>rw[c]at h;exact nk h
 |some ns=>cases e:intsOf b with
  |none=>rw[c,e]at h;cases h
  |some ms =>
   rw[c,e]at h;cases h;exact⟨ns,ms,by rw[eu c],by rw[eu e],rfl⟩
def Ha(_:Scope)(_:ao)(e:Expr):Option (aj):=(Nw e).bind λz=>(one z.2.2).bind λr=>if z.2.1=[.GtE]then ↥[z.1,r] else none
def K8{sc:Scope}{bl:ao}{e:Expr}(h:Ha sc bl e=↥args):∃l r p,e=.Compare l [.GtE] [r] p/\args=[l,r]:=by
 ext(⟨⟨l,d,c⟩,a,h⟩:bT h)(⟨r,hw,h⟩:bT h)(⟨b,h⟩:gT h);cases h;ext(rfl:b)(⟨p,rfl⟩:zj a)(rfl:b8 hw);exact⟨l,r,p,rfl,rfl⟩
def VY:RB Ha Sh:=by
 intro Φ n m X sc bl k L e args U F cs s;ext(⟨l,r,p,rfl,rfl⟩:K8 U);have q:X.A.units<cLine:=by have:=L.room.units;left
 ext(⟨c,c',rfl⟩:s.c2)(⟨z,_,_,t,_,_,_⟩:s);have j:∀{σ:St} {H:Hp} {R:ag} {τ:Addr->Option bw} {ρ:aS} {d:D} {Q:VK},SI X F R τ ρ σ H->aZ Φ (.cM n [c,c']) ρ=ok d->(∀b H2,d=.bl b->aL H H2->Q (.bl b) H2)->NG (TN X.K) (tD X F Φ c) (tD X F Φ c') σ H Q:=by
  intro σ H R τ ρ d Q i g a;ext(⟨x,y,Y,W,g⟩:T6 g);rw[m]at g;ext(⟨ns,ms,rfl,rfl,rfl⟩:V0 g);refine tD.intro i Y λv H1 e1 r1=>tD.intro (i.go e1) W λu H2 e2 J=>?_;ext(⟨_,_,O⟩:r1.go e2)(⟨_,_,M⟩:J);cases O with
  |tup t1 I=>cases M with
   |tup t2 B =>
    cases I.ofInts;cases B.ofInts;exact⟨_,_,ns,ms,rfl,rfl,t1,t2,a _ H2 rfl (e1.trans e2)⟩
 refine⟨PE.imp (zX (EI q) z t (ET _ ⇑4 ⇑4)) λσ H Q a=>?_,PT.imp (zQ (EI q) z t (ET _ ⇑4 ⇑4)) λσ H Q a=>?_⟩
 ·ext(⟨R,τ,ρ,d,i,g,a⟩:a);exact j i g λb H2 e es=>a _ H2 es (by subst e;exact .bl)
 ·ext(⟨R,τ,ρ,b,i,g,a⟩:a)(⟨d,ed,Z⟩:aJ g);refine j i ed λb' H2 e es=>?_;subst e;cases Z;exact⟨_,rfl,a H2 es⟩
abbrev y6(h:Heap)(z TI TO a:Addr)(f:Bool):Prop :=
 h.get? z=some { cls:=.type "zip",dict:=none,data:=.fields #[vi a,.bool f,.bool false,.ref TI,.ref TO],slots:=#[] }
variable {oa:Obj}
section
variable {prog:aG}{w:World}{A:aF}{E:aB}{s:ap}
def Dc{a:Addr}{o:Obj}{Q:Option Obj->ap->Prop}(b:s.heap.get? a=↥o)(h:Q ↥o s):⇑1 (loadIfAlive a) Q E s:=by
 have h':Q (s.heap.get? a) s:=[b]\h
 exact λ_ _ _=>h'
def Ie{z TI TO a:Addr}{f:Bool}{Q:Bool->ap->Prop}(hz:y6 s.heap z TI TO a f)(e:s.heap.get? a=↥oa)(c:∀h',y6 h' z TI TO a true->i6 z s.heap h'->Q false { s with heap:=h' }):
  ⇑1 (jg (.ref z)) Q E s:=by
 unfold jg;refine aaf (aeg hz rfl (x:=vi a) rfl ?_);show wpAny _ _ (loadIfAlive ((a:Int).toNat) >>= _) _ _ _;rw[zao];refine aaf (Dc e ?_);simp only[Option.isNone_some,zaq,if_false];refine aaf (aeg hz rfl (x:=.bool f) rfl ?_);cases f with
 |true =>
  rw[zab (show ¬ ((lp true != lp true)=true) from zaj)];exact aak (c s.heap hz (ybT _ _))
 |false =>
  rw[zac (show(lp false != lp true)=true from rfl)];exact aaf (wpAny_setField_rec hz ⇑5 λb g d=>aak (c b g d))
def Nf{z TI TO a:Addr}{f:Bool}{xs ys:bq}{Q:aB}(D:GM z TI TO i1 i2 l1 l2)
  (hz:y6 s.heap z TI TO a f) (L:s.heap.get? a=↥oa) (W:tt s.heap TI (.ref i1) (.ref i2))
  (u:s.heap.IsListIter i1 l1 k1) (t:s.heap.IsListIter i2 l2 k2) (B:s.heap.IsList l1 xs) (H:s.heap.IsList l2 ys)
  (M:∀x y,xs[k1]?=↥x->ys[k2]?=↥y->∀h',y6 h' z TI TO a true->h'.IsListIter i1 l1 (k1+1)->h'.IsListIter i2 l2 (k2+1)->tt h' s.heap.objs.size x y->h'.objs.size=s.heap.objs.size+1 ->
   (∀c o,c≠z->c≠i1->c≠i2->s.heap.get? c=↥o->h'.get? c=↥o)->Q (.ref s.heap.objs.size) { s with heap:=h' })
  (l:xs[k1]?=none\/ys[k2]?=none->A.handled=none/\∀h' e,(∀c o,c≠z->c≠i1->c≠i2->s.heap.get? c=↥o->h'.get? c=↥o)->(∃o,h'.get? e=↥o/\o.cls=.type "StopIteration")->E (.ref e) { s with heap:=h' }) :
  ⇑1 (mX.«zip.__next__» ⟨[.ref z],[]⟩) (λfin I=>∃v,fin=.done (.ret v)/\Q v I) E s:=by
 show wpAny _ _ (field (.ref z) 2 >>= _) _ _ _;refine aaf (aeg hz rfl (x:=.bool false) rfl ?_);show wpAny _ _ (field (.ref z) 3 >>= _) _ _ _;refine aaf (aeg hz rfl (x:=.ref TI) rfl ?_);refine aaf (wpAny_seqItems W rfl ?_);show wpAny _ _ (jg (.ref z) >>= _) _ _ _;refine aaf (Ie hz L λh₁ U d=>?_);simp only[zaq,if_false];refine aaf ?_;rw[<- Array.forIn_toList];simp only[zbS,List.forIn_nil];refine aaf (aaf (abT ?_));show wpAny _ _ (r9 (.ref i1) >>= _) _ _ _;cases n:xs[k1]? with
 |none =>
  ext(⟨q,l⟩:l (.inl n));refine aaf (Vl q (u.extBut d.extBut D.i1z) (B.extBut d.extBut D.l1z) n λi e g r=>?_);exact l i e (λc o c1 c2 p x=>g _ _ c2 (d.extBut _ _ c1 x)) r
 |some x =>
  refine aaf (Tl (u.extBut d.extBut D.i1z) (B.extBut d.extBut D.l1z) n λi O g=>aak ?_);refine aak ?_;refine aaf (aaf (abT ?_));show wpAny _ _ (r9 (.ref i2) >>= _) _ _ _;cases m:ys[k2]? with
  |none =>
   ext(⟨q,l⟩:l (.inr m));refine aaf (Vl q ((t.extBut d.extBut D.i2z).extBut g.extBut D.i12.symm) ((H.extBut d.extBut D.l2z).extBut g.extBut D.l2i1) m λb e k r=>?_);exact l b e (λc o c1 c2 p x=>k _ _ p (g.extBut _ _ c2 (d.extBut _ _ c1 x))) r
  |some y =>
   refine aaf (Tl ((t.extBut d.extBut D.i2z).extBut g.extBut D.i12.symm) ((H.extBut d.extBut D.l2z).extBut g.extBut D.l2i1) m λb R k=>aak ?_);refine aak ?_;refine aak ?_;have j:b.objs.size=s.heap.objs.size:=by rw[k.1,g.1,d.1]
   refine aaf (wpAny_newTuple ?_ (by show 2<=_;rw[kD];decide));refine aak ⟨_,rfl,?_⟩;show Q (.ref b.objs.size) _;have Y:∀{c o},b.get? c=↥o->c≠b.objs.size:=λe=>aax (aas e);have J:∀c o,c≠z->c≠i1->c≠i2->s.heap.get? c=↥o->(b.push { cls:=.type "tuple",data:=.seq #[x,y] }).get? c=↥o:=λc o c1 c2 p e=>aaq _ (k.extBut _ _ p (g.extBut _ _ c2 (d.extBut _ _ c1 e)));rw[j];refine M x y n m _ (aaq _ (k.extBut _ _ D.i2z.symm (g.extBut _ _ D.i1z.symm U))) ((O.extBut k.extBut D.i12).at λo e=>aaq _ e) (R.at λo e=>aaq _ e) ?_ ⇑[uo,j] J;exact[-j]\aaC _ rfl
def rn{z TI TO a:Addr}{f:Bool}{xs ys:bq}{Q:Option Value->ap->Prop}(D:GM z TI TO i1 i2 l1 l2)
  (hz:y6 s.heap z TI TO a f) (l:s.heap.get? a=↥oa) (q:tt s.heap TI (.ref i1) (.ref i2))
  (p:s.heap.IsListIter i1 l1 k1) (n:s.heap.IsListIter i2 l2 k2) (r:s.heap.IsList l1 xs) (t:s.heap.IsList l2 ys)
  (m:∀x y,xs[k1]?=↥x->ys[k2]?=↥y->∀h',y6 h' z TI TO a true->h'.IsListIter i1 l1 (k1+1)->h'.IsListIter i2 l2 (k2+1)->tt h' s.heap.objs.size x y->h'.objs.size=s.heap.objs.size+1 ->
   (∀c o,c≠z->c≠i1->c≠i2->s.heap.get? c=↥o->h'.get? c=↥o)->Q ↥(.ref s.heap.objs.size) { s with heap:=h' })
  (g:xs[k1]?=none\/ys[k2]?=none->A.handled=none/\∀h',(∀c o,c≠z->c≠i1->c≠i2->s.heap.get? c=↥o->h'.get? c=↥o)->Q none { s with heap:=h' }):⇑1 (om (.ref z)) Q E s:=by
 have d:s.TypeIs (.ref z) "zip":=⟨_,hz,rfl⟩
 unfold om;exact aaf (adZ (acW (name:=sh "__next__") d Ga
  (abN Ga d PySem.F.entry_zip_next
   (Nf D hz l q p n r t (λx y e1 e2 h' a1 a2 a3 a4 a5 a6=>aak (m x y e1 e2 h' a1 a2 a3 a4 a5 a6)) λz=>⟨(g z).1,λh' e j ⟨o,i,k⟩=>aaf (FX (T:="StopIteration") (b:=true) ⟨o,i,k⟩ Os (aak ((g z).2 _ j)))⟩) (PySem.F.args_zip_next_1 _))))
end
def Ng:yaB (.type "zip") "__len__" = pure none:=by rw[typeLookup_type,VM];kernel_rfl
def Sw:yaB (.type "zip") "__length_hint__" = pure none:=by rw[typeLookup_type,VM];kernel_rfl
section
variable {prog:aG}{w:World}{A:aF}{E:aB}{s:ap}
def Ic{z:Addr}(b:s.TypeIs (.ref z) "zip"){Q:Bool->ap->Prop}(h:Q true s):⇑1 (va (.ref z)) Q E s:=by
 unfold va;refine aaf (wpAny_specialOf b Ng ?_);refine Ki (λa=>absurd a ⇑4) (λ_=>?_);refine Ki (λa=>absurd a ⇑4) (λ_=>?_);refine aaf (wpAny_specialOf b Sw ?_);exact aak h
end
structure Zl(h:Heap)(z TI TO i1 i2 l1 l2 S:Addr)(xs ys:bq)(i:Nat):Prop where
 st:(IsZip h z TI TO .none/\∃a b,tt h TO a b)\/∃a f oa,y6 h z TI TO a f/\h.get? a=↥oa/\S<a
 ti:tt h TI (.ref i1) (.ref i2)
 w1:h.IsListIter i1 l1 i
 w2:h.IsListIter i2 l2 i
 q1:h.IsList l1 xs
 q2:h.IsList l2 ys
structure Below(z TI TO i1 i2 l1 l2 S:Addr):Prop where
 D:GM z TI TO i1 i2 l1 l2
 z:z<S
 TI:TI<S
 TO:TO<S
 i1:i1<S
 i2:i2<S
 l1:l1<S
 l2:l2<S
section
variable {prog:aG}{w:World}{A:aF}{E:aB}{s:ap}{z TI TO i1 i2 l1 l2 S:Addr}{xs ys:bq}{i:Nat}
def Zl.keep(B:Below z TI TO i1 i2 l1 l2 S)(Z:Zl h z TI TO i1 i2 l1 l2 S xs ys i)(c:∀b o,b≠S->h.get? b=↥o->h'.get? b=↥o):Zl h' z TI TO i1 i2 l1 l2 S xs ys i:=by
 have n:∀{b},b<S->b≠S:=λh=>aax h;refine⟨?_,c _ _ (n B.TI) Z.ti,Z.w1.at λo e=>c _ o (n B.i1) e,Z.w2.at λo e=>c _ o (n B.i2) e,Z.q1.at λo e=>c _ o (n B.l1) e,Z.q2.at λo e=>c _ o (n B.l2) e⟩;ext((⟨g,a,b,d⟩|⟨a,f,oa,g,d,j⟩):Z.st)
 ·exact .inl ⟨c _ _ (n B.z) g,a,b,c _ _ (n B.TO) d⟩
 ·exact .inr ⟨a,f,oa,c _ _ (n B.z) g,c _ _ (aaT j) d,j⟩
def Ia{x y:Value}{Q:Option Value->ap->Prop}(B:Below z TI TO i1 i2 l1 l2 S)(Z:Zl s.heap z TI TO i1 i2 l1 l2 S xs ys i)(v:S<s.heap.objs.size)(l:xs[i]?=↥x)(k:ys[i]?=↥y)
  (r:∀h',Zl h' z TI TO i1 i2 l1 l2 S xs ys (i+1)->tt h' s.heap.objs.size x y->h'.objs.size=s.heap.objs.size+1->(∀c o,c≠z->c≠TO->c≠i1->c≠i2->s.heap.get? c=↥o->h'.get? c=↥o)->Q ↥(.ref s.heap.objs.size) { s with heap:=h' }) :
  ⇑1 (om (.ref z)) Q E s:=by
 have D:=B.D;ext((⟨j,a,b,J⟩|⟨a,f,oa,j,q,d⟩):Z.st)
 ·refine Vi D j Z.ti J Z.w1 Z.w2 Z.q1 Z.q2 l k λh' g O a1 m t1 p k1=>r h' ?_ t1 p k1;exact⟨.inr ⟨s.heap.objs.size,false,_,g,t1,v⟩,k1 _ _ D.TIz D.TITO D.TIi1 D.TIi2 Z.ti,a1,m,Z.q1.at λo e=>k1 _ o D.l1z D.l1TO D.l1i1 D.l1i2 e,Z.q2.at λo e=>k1 _ o D.l2z D.l2TO D.l2i1 D.l2i2 e⟩
 ·refine rn D j q Z.ti Z.w1 Z.w2 Z.q1 Z.q2 (λM L u t h' g a1 m t1 p k1=>r h' ?_ (by rw[l]at u;rw[k]at t;cases u;cases t;exact t1) p λc o c1 _ I H e=>k1 c o c1 I H e) λz=>by rw[l,k]at z;simp at z
  have n:∀{b},b<S->a≠b:=λh=>aaT (ade h d);exact⟨.inr ⟨a,true,oa,g,k1 _ _ (n B.z) (n B.i1) (n B.i2) q,d⟩,k1 _ _ D.TIz D.TIi1 D.TIi2 Z.ti,a1,m,Z.q1.at λo e=>k1 _ o D.l1z D.l1i1 D.l1i2 e,Z.q2.at λo e=>k1 _ o D.l2z D.l2i1 D.l2i2 e⟩
def Ig{Q:Option Value->ap->Prop}(j:A.handled=none)(B:Below z TI TO i1 i2 l1 l2 S)(Z:Zl s.heap z TI TO i1 i2 l1 l2 S xs ys i)(g:xs[i]?=none\/ys[i]?=none)
  (l:∀h',(∀c o,c≠z->c≠TO->c≠i1->c≠i2->s.heap.get? c=↥o->h'.get? c=↥o)->Q none { s with heap:=h' }):⇑1 (om (.ref z)) Q E s:=by
 have D:=B.D;ext((⟨d,a,b,u⟩|⟨a,f,oa,d,m,n⟩):Z.st)
 ·exact XP j D d Z.ti u Z.w1 Z.w2 Z.q1 Z.q2 g l
 ·exact rn D d m Z.ti Z.w1 Z.w2 Z.q1 Z.q2 (λx y q p=>by rw[q,p]at g;simp at g) λ_=>⟨j,λh' k=>l h' λc o c1 _ t r e=>k c o c1 t r e⟩
end
structure WU(xs ys:bq)(lo:Addr)(h:Heap)(as:aX):Prop where
 above:∀a∈as,lo<a
 nd:as.Nodup
 pairs:∀(j:Nat) (a:Addr),as[j]?=↥a->∃x y,xs[j]?=↥x/\ys[j]?=↥y/\tt h a x y
section
variable {prog:aG}{w:World}{A:aF}{s:ap}{R:Result->ap->Prop}{z TI TO i1 i2 l1 l2 S:Addr}{xs ys:bq}
def H_(hh:A.handled=none)(B:Below z TI TO i1 i2 l1 l2 S)(hn:min xs.size ys.size<=sizeLine)(res:Value) 
  (hR:∀h' tk d c as,(∀b o,b≠S->b≠z->b≠TO->b≠i1->b≠i2->h₁.get? b=↥o->h'.get? b=↥o)->h'.get? S=some { cls:=.type "list",dict:=none,data:=.seq d c,slots:=#[] }->as.length=min xs.size ys.size->WU xs ys S h' as ->
   d.toList=as.map em->R (.ok (.ret res)) { s with heap:=h',toks:=tk }) :
  ∀(k i:Nat) (h:Heap) (tk c:Nat) (d:bq) (as:aX),min xs.size ys.size - i=k->i<=min xs.size ys.size->Zl h z TI TO i1 i2 l1 l2 S xs ys i->(∀b o,b≠S->b≠z->b≠TO->b≠i1->b≠i2->h₁.get? b=↥o->h.get? b=↥o) ->
   h.get? S=some { cls:=.type "list",dict:=none,data:=.seq d c,slots:=#[] }->d.toList=as.map em->as.length=i->WU xs ys S h as ->
   qS (model prog w) A (.builtin "list.extend.loop" ⟨[.ref S,.ref z,res],[]⟩) R { s with heap:=h,toks:=tk }:=by
 have nz:S≠z:=aaT B.z;have nO:S≠TO:=aaT B.TO;have n1:S≠i1:=aaT B.i1;have n2:S≠i2:=aaT B.i2;have r:∀{a:Addr},S<a->a≠z/\a≠TO/\a≠i1/\a≠i2:=λh=>⟨aaT (ade B.z h),aaT (ade B.TO h),aaT (ade B.i1 h),aaT (ade B.i2 h)⟩
 intro k;induction k with
 |zero =>
  intro i h tk c d as hk hi Z Y M L J l;refine acY zI ?_;rw[K5 kx _];show wpAny _ A.in1 (om (.ref z) >>= _) _ _ _;have FZ:xs[i]?=none\/ys[i]?=none:=by
   ext((q|q):ybQ xs.size ys.size)
   ·exact .inl (hG ⋯)
   ·exact .inr (hG ⋯)
  refine aaf (Ig (s:={ s with heap:=h,toks:=tk }) (A:=A.in1) hh B Z FZ λh' W=>?_);refine aak (hR h' tk d c as (λb o O I H v u e=>W b o I H v u (Y b o O I H v u e)) (W S _ nz nO n1 n2 M) ⋯ ⟨l.above,l.nd,λj a g=>?_⟩ L);ext(⟨x,y,e1,e2,e3⟩:l.pairs j a g)(⟨a1,a2,a3,a4⟩:r (l.above a (aa3 g)));exact⟨x,y,e1,e2,W a _ a1 a2 a3 a4 e3⟩
 |succ k ih =>
  intro i h tk c d as hk hi Z Y M L J l;have dm:i<min xs.size ys.size:=by left
  have hx:xs[i]?=↥(xs[i]'⋯):=acp _;have hy:ys[i]?=↥(ys[i]'⋯):=acp _;have t:d.size=i:=by rw[<- zan,L,zaa,J]
  have p:S<h.objs.size:=aas M;refine acY zI ?_;rw[K5 kx _];show wpAny _ A.in1 (om (.ref z) >>= _) _ _ _;refine aaf (Ia (s:={ s with heap:=h,toks:=tk }) B Z p hx hy λh' Z' ht hz U=>?_);dsimp only at ht hz U ⊢;ext(Ck:U S _ nz nO n1 n2 M);have up:∀b o,b≠S->h'.get? b=↥o->(h'.update S (ej (·.push (em h.objs.size)))).get? b=↥o:=λb o m e=>(acd _ _ (ada m)).trans e;show wpAny _ A.in1 (Vr S (·.push (em h.objs.size)) >>= _) _ _ _;refine aaf ?_;refine aee Ck rfl (aak ⟨plainId_quiet kx _,ih (i+1) _ tk _ (d.push (em h.objs.size)) (as++[h.objs.size]) ⋯ dm (Z'.keep B up)
   (λb o O I H v u e=>up b o O (U b o I H v u (Y b o O I H v u e))) (abM _ Ck rfl) (by rw[zaI,L,zak];rfl) (by rw[zaf,J];rfl) ⟨?_,?_,?_⟩⟩) (by rw[t];left) (by show(d.push (em h.objs.size)).size<=sizeLine+1;rw[Array.size_push,t];left)
  ·intro a n;ext((n|n):c0.mp n)
   ·exact l.above a n
   ·exact[am.mp n]\p
  ·refine oy.mpr ⟨l.nd,gc.mpr ⟨x2,acG⟩,λa n b m e=>?_⟩;rw[am.mp m]at e;subst e;ext(⟨j,g⟩:g8.mp n)(⟨_,_,_,_,e⟩:l.pairs j _ g);exact absurd (aas e) (aa8 _)
  ·intro j b g;ext((q|q|q):adR j as.length)
   ·rw[d7 q]at g;ext(⟨x',y',e1,e2,e3⟩:l.pairs j b g)(m:l.above b (aa3 g))(⟨a1,a2,a3,a4⟩:r m);exact⟨x',y',e1,e2,up b _ (aaT m) (U b _ a1 a2 a3 a4 e3)⟩
   ·subst q;have m:h.objs.size=b:=⇑g
    subst m;exact⟨_,_,[J]\hx,[J]\hy,up _ _ (aaT p) ht⟩
   ·have Vg:(as++[h.objs.size])[j]?=none:=dV (by rw[zaf,zaC];left);rw[Vg]at g;exact nk g
def Bc(x:A.handled=none)(B:Below z TI TO i1 i2 l1 l2 S)(hn:min xs.size ys.size<=sizeLine)(Z:Zl s.heap z TI TO i1 i2 l1 l2 S xs ys 0)(r:IsZip s.heap z TI TO .none)(res:Value)(d:Nat)(p:s.heap.get? S=some { cls:=.type "list",data:=.seq #[] d })
  (hR:∀h' tk g c as,(∀b o,b≠S->b≠z->b≠TO->b≠i1->b≠i2->s.heap.get? b=↥o->h'.get? b=↥o)->h'.get? S=some { cls:=.type "list",dict:=none,data:=.seq g c,slots:=#[] }->as.length=min xs.size ys.size->WU xs ys S h' as ->
   g.toList=as.map em->R (.ok (.ret res)) { s with heap:=h',toks:=tk }) :
  wpAny (model prog w) A.in1 (g7 (.ref S) (.ref z) res)
   (λfin i=>match fin with|.done f=>R (.ok f) i|.again c'=>c'.quiet=true/\qS (model prog w) A c' R i) (λe i=>R (.error e) i) s:=by
 have k:S≠z:=aaT B.z;have n:s.TypeIs (.ref z) "zip":=⟨_,r,rfl⟩
 unfold g7;refine aaf (wpAny_typeOf (T:="zip") n ?_);have l:wq (.ref S) (.ref z)=false:=by simp[wq,k]
 have I:(fy "zip" == fy "list")=false:=by decide
 have H:(fy "zip" == fy "tuple")=false:=by decide
 simp only[l,I,H,Bool.or_false,zaq,if_false];refine aaf (FV r ?_);refine aaf (abT (Ic n ?_));refine Ki (λ_=>?_) (λu=>absurd rfl u);refine aaf (acH ?_);refine aaf ?_;show wpAny _ _ (Vr S (·.push .none) >>= λ_=>Vr S (·.pop)) _ _ _;refine aaf (aee p rfl ?_);ext(t:abM (ej (·.push ft)) p rfl);refine aee (hz:=by seq_fits) t rfl ?_;ext(J:abM (ej (·.pop)) t rfl);have q:∀b o,b≠S->s.heap.get? b=↥o->((s.heap.update S (ej (·.push ft))).update S (ej (·.pop))).get? b=↥o:=λb o m e=>(acd _ _ (ada m)).trans ((acd _ _ (ada m)).trans e);refine aak ⟨plainId_quiet kx _,?_⟩;exact H_ x B hn res (s:=s) (h₁:=s.heap) hR (min xs.size ys.size) 0 _ s.toks _ #[] [] (Nat.sub_zero _) (aa6 _) (Z.keep B q) (λb o l _ _ _ _ e=>q b o l e) J rfl rfl ⟨(λ_ y=>nomatch y),acG,λj a v=>by simp at v⟩
def Ib(n:A.handled=none)(B:Below z TI TO i1 i2 l1 l2 S)(hn:min xs.size ys.size<=sizeLine)(Z:Zl s.heap z TI TO i1 i2 l1 l2 S xs ys 0)(x:IsZip s.heap z TI TO .none)(g:s.heap.get? S=some { cls:=.type "list",data:=.seq #[] })
  (hR:∀h' tk a c as,(∀b o,b≠S->b≠z->b≠TO->b≠i1->b≠i2->s.heap.get? b=↥o->h'.get? b=↥o)->h'.get? S=some { cls:=.type "list",dict:=none,data:=.seq a c,slots:=#[] }->as.length=min xs.size ys.size->WU xs ys S h' as ->
   a.toList=as.map em->R (.ok (.ret .none)) { s with heap:=h',toks:=tk }) :
  wpAny (model prog w) A.in1 (mX.«list.__init__» ⟨[.ref S,.ref z],[]⟩)
   (λfin d=>match fin with|.done f=>R (.ok f) d|.again c'=>c'.quiet=true/\qS (model prog w) A c' R d) (λe d=>R (.error e) d) s:=by
 show wpAny _ _ (do let old <- xL (.ref S);wy (.ref S) (λ_=>#[]);letGo old.toList.reverse;g7 (.ref S) (.ref z) .none) _ _ s;refine aaf ?_;unfold xL;refine aaf (wpAny_seqItems g rfl (aak ?_));show wpAny _ _ (Vr S (λ_=>#[]) >>= λ_=>letGo (#[]:bq).toList.reverse >>= λ_=>g7 (.ref S) (.ref z) .none) _ _ s;refine aaf (aee g rfl ?_);ext(H:abM (ej (λ_=>(#[]:bq))) g rfl);have i:∀b o,b≠S->s.heap.get? b=↥o->(s.heap.update S (ej (λ_=>(#[]:bq)))).get? b=↥o :=
  λb o p e=>(acd _ _ (ada p)).trans e
 refine aaf (wpAny_letGo ?_);refine Bc n B hn (Z.keep B i) (i _ _ (aax B.z) x) .none _ H λh' tk a c as m y l q k=>?_;exact hR h' tk a c as (λb o j v u t r e=>m b o j v u t r (i b o j e)) y l q k
end
section
variable {prog:aG}{w:World}{A:aF}{E:aB}{s:ap}{z TI TO i1 i2 l1 l2:Addr}{xs ys:bq}
def Ih{Q:aB}(u:A.handled=none)(D:GM z TI TO i1 i2 l1 l2)(hn:min xs.size ys.size<=sizeLine)(hz:IsZip s.heap z TI TO .none)(n:tt s.heap TI (.ref i1) (.ref i2)){a b:Value}(p:tt s.heap TO a b)(m:s.heap.IsListIter i1 l1 0)(j:s.heap.IsListIter i2 l2 0)(q1:s.heap.IsList l1 xs)(k:s.heap.IsList l2 ys)
  (v:∀h' tk d c as,(∀b o,b≠z->b≠TO->b≠i1->b≠i2->s.heap.get? b=↥o->h'.get? b=↥o)->h'.get? s.heap.objs.size=some { cls:=.type "list",dict:=none,data:=.seq d c,slots:=#[] }->as.length=min xs.size ys.size->WU xs ys s.heap.objs.size h' as ->
   d.toList=as.map em->Q (.ref s.heap.objs.size) { s with heap:=h',toks:=tk }) :
  ⇑1 (call (.type "list") [.ref z]) Q E s:=by
 refine callType_codes (Q₁:=λi g=>i=.ref s.heap.objs.size/\g={ s with heap:=s.heap.push { cls:=.type "list",data:=.seq #[] } }) PySem.F.called_list (PySem.F.typeCall_list_1 _) PySem.F.entry_list_init
  (code_list_new _ ⟨rfl,rfl⟩) λi g h₁=>?_
 ext(⟨rfl,rfl⟩:h₁);have l:(s.heap.push { cls:=.type "list",data:=.seq #[] }).get? s.heap.objs.size=some { cls:=.type "list",data:=.seq #[] }:=aaC _ rfl;have up:∀b o,s.heap.get? b=↥o->(s.heap.push { cls:=.type "list",data:=.seq #[] }).get? b=↥o:=λb o e=>aaq _ e;have B:Below z TI TO i1 i2 l1 l2 s.heap.objs.size:=⟨D,aas hz,aas n,aas p,(by ext(⟨_,e,_⟩:m);exact aas e),(by ext(⟨_,e,_⟩:j);exact aas e),(by ext(⟨_,e,_⟩:q1);exact aas e),(by ext(⟨_,e,_⟩:k);exact aas e)⟩
 refine⟨⟨_,l,rfl⟩,PySem.F.args_list_init_2 _ _,Ib (A:=A.in1) u B hn ⟨.inl ⟨up _ _ hz,a,b,up _ _ p⟩,up _ _ n,m.at λo e=>up _ o e,j.at λo e=>up _ o e,q1.at λo e=>up _ o e,k.at λo e=>up _ o e⟩ (up _ _ hz) l λh' tk d c as t J r x q=>?_⟩;exact⟨rfl,v h' tk d c as (λb o j I H y e=>t b o (aax (aas e)) j I H y (up b o e)) J r x q⟩
end
def rW(xs:aa):O D:=match xs with
 |[]=>none
 |x::xs=>match x with
  |.int a=>match xs with
   |[]=>none
   |y::ys=>match y with
    |.int b=>match ys with
     |[]=>if gE a b then ok ↑(a*b) else none
     |_::_=>none
    |_=>none
  |_=>none
def wm{x y d:D}(h:rW [x,y]=ok d):∃a b,x=.int a/\y=.int b/\gE a b=true/\d=.int (a*b):=by
 cases x<;>first|exact nk h | (cases h;done) | (cases y<;>first|exact nk h | (cases h;done)|skip)
 ext(⟨e,c⟩:rX h);exact⟨_,_,rfl,rfl,e,c.symm⟩
def oP(_:Scope)(_:ao)(st:Stmt):Option (Expr×aj):=match Iw st with
 |some z=>if z.2.1=.Mult then ↥(z.1,[z.2.2]) else none
 |none=>none
def yP{sc:Scope}{bl:ao}(h:oP sc bl st=↥(o,args)):∃v pos,st=.AugAssign o .Mult v pos/\args=[v]:=by
 unfold oP at h;cases a:Iw st with
 |none=>rw[a]at h;exact nk h
 |some z =>
  ext(⟨c,p,v⟩:z);rw[a]at h;ext(⟨pos,rfl⟩:zk a);replace h:(if p=.Mult then ↥(c,[v]) else none)=↥(o,args):=h;by_cases b:p=.Mult
  ·rw[zac b]at h;subst b;cases h;exact⟨v,pos,rfl,rfl⟩
  ·rw[zab b]at h;cases h
def Pf:W7 X .Mult (λx y H Q=>∃i j,x=.int i/\y=.int j/\gE i j=true/\Q ↑(i*j) H):=by
 intro pins s σ H x y v u Q I r1 a h;ext(⟨i,j,e1,e2,b,q⟩:h);subst e1;subst e2;ext(⟨t,rfl⟩:r1)(⟨t',rfl⟩:a);exact imul_int ⟨.int _,H,I.tok _,⟨_,rfl⟩,q⟩ (v_ b)
protected def Kc:PlM oP rW:=by
 intro Φ n q X sc bl k L hN W st x pos args he i hi Z pe F cs M;ext(⟨v,pos',rfl,rfl⟩:yP he)(⟨c,rfl⟩:M.c1);refine PS.imp (Ei hN hi Z M.1 Pf (.inl (W _))) λD σ H s=>?_;ext(⟨R,τ,ρ,r,J,e,s⟩:s)(⟨xs,I,e⟩:aJ e)(⟨y,ey,I⟩:aJ I);cases I;have p:∃a b,y=.int b/\ρ[i]?=↥↥↑a/\gE a b=true/\r=(.nx,ρ.set i ↥↑(a*b)):=by
  have e:tW Φ n i (lX [c] [y] ρ)=ok r:=e;unfold tW at e;split at e
  ·rename_i d0 g;ext(⟨d',j,B⟩:aJ e);rw[q]at j;unfold lX at j g B;split at j
   ·rename_i l;ext(⟨a,b,e1,e2,_,_⟩:wm (y:=aI aK y) j);cases y<;>first | (cases e2;done) | (cases l;done)
   ·rename_i l;ext(⟨a,b,rfl,rfl,t,rfl⟩:wm j);rw[zab l]at g;rw[zab l]at B;cases B;exact⟨a,b,rfl,g,t,rfl⟩
  ·cases e
 ext(⟨a,b,rfl,g,t,rfl⟩:p)(⟨w,hw,Y⟩:J.rep i _ g);cases Y;have eP:i<ρ.length:=by
  by_cases z:i<ρ.length
  ·exact z
  ·rw[dV ⋯]at g;cases g
 refine⟨_,hw,tD.intro J ey λu H1 e1 U=>?_⟩;cases U.isInt;refine⟨_,_,rfl,rfl,t,?_⟩;ext(⟨m,O⟩:(J.go e1).set (i:=i) (v:=.int (a*b)) (d:=.int (a*b)) ⟨λ_=>none,λ_ _ h=>by simp at h,.int _⟩ eP);exact s _ H1 R m O (Kp.of e1 λ_ h=>h)
def k9(f:Str)(sc:Scope)(bl:ao)(e:Expr):Option (aj):=(fc e).bind λz=>(one z.2).bind λ_=>if z.1=f/\gq sc z.1=true/\z.1∈bl then ↥z.2 else none
def m_{f:Str}{sc:Scope}{bl:ao}{e:Expr}(h:k9 f sc bl e=↥args):∃p pos a,e=.Call (.Name f p) [a] [] pos/\args=[a]/\gq sc f=true/\f∈bl:=by
 ext(⟨⟨x,as⟩,b,h⟩:bT h)(⟨a,hw,h⟩:bT h)(⟨c,h⟩:gT h);cases h;ext(⟨rfl,g,d⟩:c)(⟨p,pos,rfl⟩:cn b)(rfl:b8 hw);exact⟨_,_,_,rfl,rfl,g,d⟩
def Inv.UI{pins:au}{H:Hp}{s:ap}(I:Inv X pins σ H s)(k:∀b u,s.heap.get? b=↥u->h'.get? b=↥u)(up:∀b u,H b=↥u->H' b=↥u)
  (a:∀b u,H' b=↥u->H b=↥u\/(s.heap.objs.size<=b/\cQ H' h' b u)):Inv X pins σ H' { s with heap:=h',toks:=t' }:=by
 refine I.step (g':=s.gens) (d':=s.drawn) (ch:=[]) (λb g=>nomatch g) (λb o _ _ _ e _=>k b o e) (λb o _ _ _ e _=>⟨o.slots,k b o e⟩) (λb u _ e n=>?_)
  (λb o _ e=>⟨o,k b o e⟩) (λ_ _ e=>up _ _ e) (λ_ _ _ e=>up _ _ e) (λm d=>?_) (λb u e=>?_) I.bare
 ·cases q:H' b with
  |none=>rfl
  |some v =>
   ext((z|⟨z,_⟩):a b v q)
   ·rw[n]at z;exact nk z
   ·exact absurd (aas e) (lZ.mpr z)
 ·ext(⟨o,es,ep,c,r⟩:d);exact⟨o,es,ep,k _ o c,r⟩
 ·ext((e|⟨_,e⟩):a b u e)
  ·exact(I.cJ b u e).lO (k b)
  ·exact e
def qU(H:Hp):List (Addr×V×V)->Hp
 |[]=>H
 |q::r=>upd (qU H r) q.1 (.tup [q.2.1,q.2.2])
theorem lV{H:Hp}{b:Addr}{u:HO}(e:H b=↥u):∀{r:List (Addr×V×V)},(∀q∈r,H q.1=none)->qU H r b=↥u
 |[],_=>e
 |q::r,h=>by
  have c:b≠q.1:=λz=>by rw[z,h q zbm]at e;cases e
  show upd (qU H r) q.1 _ b=_;exact[bt c]\lV e λq a=>h q (aap _ a)
theorem Aa{H:Hp}:∀{r:List (Addr×V×V)},(r.map (·.1)).Nodup->∀q∈r,qU H r q.1=↥(.tup [q.2.1,q.2.2])
 |[],_,_,h=>nomatch h
 |q'::r,hn,q,h=>by
  show upd (qU H r) q'.1 _ q.1=_;ext(a:gc.mp hn)((rfl|h):ci.mp h)
  ·exact aU
  ·have:q.1≠q'.1:=λz=>a.1 (by show q'.1∈_;rw[<- z];exact abD h);exact[bt this]\Aa a.2 q h
theorem wc{H:Hp}{b:Addr}{u:HO}:∀{r:List (Addr×V×V)},qU H r b=↥u->H b=↥u\/∃q∈r,q.1=b/\u=.tup [q.2.1,q.2.2]
 |[],e=>.inl e
 |q::r,e=>by
  replace e:upd (qU H r) q.1 (.tup [q.2.1,q.2.2]) b=↥u:=e;by_cases z:b=q.1
  ·subst z;rw[aU]at e;cases e;exact .inr ⟨q,aam,rfl,rfl⟩
  ·rw[bt z]at e;ext((h|⟨q',c,a⟩):wc e)
   ·exact .inl h
   ·exact .inr ⟨q',aap _ c,a⟩
def tLZ(K:av)(ta:TA):TE:=λσ H Q=>ta σ H λvs H1=>∃a b xs ys,vs=[.ref a,.ref b]/\eG K H1 a xs/\eG K H1 b ys /\
 ∀(l:Addr) (r:List (Addr×V×V)),H1 l=none->(∀q∈r,H1 q.1=none)->(r.map (·.1)).Nodup->l∉r.map (·.1)->r.map (·.2)=xs.zip ys->Q (.ref l) (upd (qU H1 r) l (.lst (r.map λq=>V.ref q.1)))
def Jw{p:Pos}(hc:X.calm=true)(hgl:Gl X "list")(W:X.mg "list" = none)(hg:Gl X "zip")(Y:X.mg "zip" = none)(ha:PA X [e1,e2] ta)(hs:∀es,cm (e1::es) X.env=(false,eval e1 X.env)::cm es X.env)(RZ:∀es,cm (e2::es) X.env=(false,eval e2 X.env)::cm es X.env):
  PE X (.Call (.Name "list" p') [.Call (.Name "zip" p) [e1,e2] [] pos] [] pos') (tLZ X.K ta):=by
 intro pins s σ H Q I h;refine acK (gR I hgl W boot_list ?_);refine abk ?_;show wpAny _ _ (spliced ((false,eval (.Call (.Name "zip" p) [e1,e2] [] pos) X.env)::nw pos' (cm [] X.env))) _ _ s;refine aeh ?_;refine Call_ (gR I hg Y boot_zip (abk (dO (ha pos pins s σ H _ I h) λus d b9=>?_) (hs _) (by rw[RZ];rfl)));ext(⟨vs,H1,n,r1,q1⟩:b9)(⟨a,b,xs,ys,e,q1,q2,l⟩:q1);subst e;ext(⟨u,v,rfl,ru,rv⟩:vals2 r1);cases ru;cases rv;ext(⟨aO,rx,O,XS⟩:n.list q1)(⟨g,ry,M,MD⟩:n.list q2);refine call_zip_2 O.isList M.isList λh' z t o l1 l2 sz k=>aew ?_;have MI:h'.IsList a aO.toArray:=O.isList.at λo e=>k _ o e;have Ai:h'.IsList b g.toArray:=M.isList.at λo e=>k _ o e;have cls:∀{x y:Addr} {o u:Obj},h'.get? x=↥o->h'.get? y=↥u->o.cls≠u.cls->x≠y:=λh1 h2 h3=>dv h1 h2 h3;have al:@LT.lt Nat _ a d.heap.objs.size:=by ext(⟨_,e,_⟩:O.isList);exact aas e
 have bl:@LT.lt Nat _ b d.heap.objs.size:=by ext(⟨_,e,_⟩:M.isList);exact aas e
 have D:GM (d.heap.objs.size+4) (d.heap.objs.size+2) (d.heap.objs.size+3) d.heap.objs.size (d.heap.objs.size+1) a b:=by
  constructor<;>first|exact aax ⋯|exact aaT ⋯
 have lx:=rx.length;have ly:=ry.length;have hn:min aO.toArray.size g.toArray.size<=sizeLine:=by simp;left
 refine Ih (s:={ d with heap:=h' }) (n.ok.hd hc) D hn z t o l1 l2 MI Ai λh'' tk acc c as Z hS hl m iS=>?_;dsimp only at Z hS m ⊢;have hlen:as.length=(xs.zip ys).length:=by rw[hl,zaY];simp;left
 have keep:∀b o,d.heap.get? b=↥o->h''.get? b=↥o:=λb o e=>by
  have:@LT.lt Nat _ b d.heap.objs.size:=aas e;exact Z b o (aax ⋯) (aax ⋯) (aax ⋯) (aax ⋯) (k b o e)
 have fresh:∀c,d.heap.objs.size<=c->H1 c=none:=λc h=>n.cJ.fresh h;have hS5:h'.objs.size=d.heap.objs.size+5:=sz
 let r:List (Addr×V×V):=as.zip (xs.zip ys)
 have r1:r.map (·.1)=as:=List.map_fst_zip ⋯;have r2:r.map (·.2)=xs.zip ys:=WF ⋯;have B:∀c∈as,@LT.lt Nat _ h'.objs.size c:=m.above;have i:∀q∈r,H1 q.1=none:=λq l=>fresh _ (by have:=B q.1 ([-r1]\abD l);left);have ug:H1 h'.objs.size=none:=fresh _ ⋯;have XZ:h'.objs.size∉r.map (·.1):=[r1]\λz=>absurd (B _ z) (aa8 _)
 have nH:(r.map (·.1)).Nodup:=[r1]\m.nd
 have FW:(as.map V.ref)=r.map λq=>V.ref q.1:=by rw[<- r1,zag];rfl
 refine⟨.ref h'.objs.size,upd (qU H1 r) h'.objs.size (.lst (r.map λq=>V.ref q.1)),?_,rfl,l _ r ug i nH XZ r2⟩;refine Inv.UI (s:=d) (t':=tk) n keep (λb u e=>?_) λb u e=>?_
 ·rw[bt λz=>by rw[z,ug]at e;cases e];exact lV e i
 ·by_cases zb:b=h'.objs.size
  ·subst zb;rw[aU]at e;cases e;refine .inr ⟨by left,?_,acc.toList,c,?_,[Array.toArray_toList]\hS⟩
   ·rw[<- FW,zaa,hlen,zaY];left
   ·rw[<- FW,iS];clear iS FW m hl hlen r1 B nH r r2 i XZ hS Z keep;induction as with
    |nil=>exact .nil
    |cons a as ih=>exact .cons rfl ih
  ·rw[bt zb]at e;ext((e|⟨q,l,rfl,rfl⟩):wc e)
   ·exact .inl e
   ·have Y:q.1∈as:=[-r1]\abD l
    refine .inr ⟨by have:=B _ Y;left,?_⟩;ext(⟨j,hj⟩:g8.mp l);have C1:as[j]?=↥q.1/\(xs.zip ys)[j]?=↥q.2:=by
     have:=lc.mp hj;exact this
    ext(⟨x,y,ex,ey,hp⟩:m.pairs j q.1 C1.1);obtain⟨e1,e2⟩:xs[j]?=↥q.2.1/\ys[j]?=↥q.2.2:=lc.mp C1.2;ext(⟨u1,U,L⟩:rx.get e1)(⟨u2,R,J⟩:ry.get e2);rw[MU,U]at ex;rw[MU,R]at ey;cases ex;cases ey;exact zq L J hp
meta def pairD(x y:D):D:=.tup [x,y]
def UA(xs:aa):O D:=match two xs with
 |some z=>match z.1 with
  |.lst _ a=>match z.2 with
   |.lst _ b=>ok (.ow\(ak bp (f8 pairD a b)))
   |_=>none
  |_=>none
 |none=>none
def OO{x y d:D}(h:UA [x,y]=ok d):∃f a g b,x=.lst f a/\y=.lst g b/\d=.ow\(ak bp (f8 pairD a b)):=by
 cases x<;>first|exact nk h | (cases h;done)|skip
 cases y<;>first|exact nk h | (cases h;done)|skip
 cases h;exact⟨_,_,_,_,rfl,rfl,rfl⟩
def G_(sc:Scope)(bl:ao)(e:Expr):Option (aj):=(fc e).bind λz=>(one z.2).bind λi=>if z.1=("list" : Str)/\gq sc z.1=true/\z.1∈bl then qr sc bl i else none
def G9{sc:Scope}{bl:ao}{e:Expr}(h:G_ sc bl e=↥args):∃p pos i,e=.Call (.Name ("list" : Str) p) [i] [] pos/\gq sc ("list" : Str)=true/\("list" : Str)∈bl/\qr sc bl i=↥args:=by
 ext(⟨⟨x,as⟩,c,h⟩:bT h)(⟨a,hw,h⟩:bT h)(⟨d,b⟩:gT h)(⟨rfl,j,g⟩:d)(⟨p,pos,rfl⟩:cn c)(rfl:b8 hw);exact⟨p,pos,a,rfl,j,g,b⟩
theorem vL{T:qI}{N:lB}(c:∀k k' p xs f,N k p xs f->N k' p xs f):∀{r:List (Addr×V×V)} {xs ys:ah} {a b:aa} {k1 k2 k:bw} {n1 d n:Nat},aH T N k1 n1 xs a->aH T N k2 d ys b->r.map (·.2)=xs.zip ys->(∀q∈r,T q.1 [q.2.1,q.2.2])->aH T N k n (r.map λq=>V.ref q.1) (f8 pairD a b)
 |[],xs,ys,a,b,_,_,_,_,_,_,r1,r2,e,_=>by
  have l1:=r1.length;have l2:=r2.length;ext(l:aa2 mo e);rw[zaY]at l;have:f8 pairD a b=[]:=List.eq_nil_of_length_eq_zero (by rw[List.length_zipWith];simp at l;left);exact[this]\.nil
 |q::r,xs,ys,a,b,k1,k2,k,n1,d,n,r1,r2,e,ht=>by
  cases r1 with
  |nil=>cases e
  |cons t t1=>cases r2 with
   |nil=>cases e
   |cons s t2 =>
    have e1:q.2=(_,_):=(acX e).1;ext(e2:(acX e).2);refine .cons (.tup (ht q aam) ?_) (vL c t1 t2 e2 λq m=>ht q (aap _ m));rw[e1];ext(j:Rep.jz (T':=T) (N':=N) (g:=id) ⇑10 c t (0::n::k))(i:Rep.jz (T':=T) (N':=N) (g:=id) ⇑10 c s (1::n::k));rw[eX]at j i;exact .cons j (.cons i .nil)
theorem gG(g:Fl->Fl):∀a b:aa,ak g (f8 pairD a b)=f8 pairD (ak g a) (ak g b)
 |[],_=>by cases ‹aa› <;> rfl
 |_::_,[]=>rfl
 |x::a,y::b=>by
  show aI g (pairD x y)::ak g (f8 pairD a b)=_;rw[gG g a b];rfl
def Uz:RB G_ UA:=by
 intro Φ n t X sc bl k L e args he F cs hs;ext(⟨p,pos,i,rfl,h1,h2,u⟩:G9 he)(⟨p',pos',a,b,rfl,rfl,h3,h4⟩:sE u)(⟨⟨c,d,rfl,_,_⟩,pa,U,O⟩:mS hs);have this:PE X (.Call (.Name ("list" : Str) p) [.Call (.Name ("zip" : Str) p') [a,b] [] pos'] [] pos) (tD X F Φ (.cM n [c,d])):=by
  refine PE.imp (Jw L.calm (L.gl h1) (L.bl _ h2) (L.gl h3) (L.bl _ h4) pa U O) λσ H Q m=>?_;ext(⟨R,τ,ρ,d',I,j,m⟩:m)(⟨xs,dK,j⟩:aJ j);rw[t]at j;refine⟨R,τ,ρ,xs,I,dK,λvs H1 e1 r1=>?_⟩;ext(⟨τt,M,Z⟩:r1);have s:∃x y,xs=[x,y]:=by
   unfold UA at j;cases hw:two xs with
   |none=>rw[hw]at j;exact nk j
   |some z=>exact⟨z.1,z.2,fq hw⟩
  ext(⟨x,y,rfl⟩:s)(⟨f,da,g,db,rfl,rfl,rfl⟩:OO j)(⟨v,w,rfl,Y,W⟩:Z.two);cases Y with
  |lst hx ax=>cases W with
   |lst hy ay =>
    refine⟨_,_,_,_,rfl,hx.sq,hy.sq,λl r s J hn XZ u=>m _ _ ?_ ?_⟩
    ·intro b o e;ext(B:e1 b o e);rw[bt λz=>by rw[z,s]at B;cases B];exact lV B J
    ·have sm:aL H1 (upd (qU H1 r) l (.lst (r.map λq=>V.ref q.1))):=λb o e=>by
      rw[bt λz=>by rw[z,s]at e;cases e];exact lV e J
     refine cz.qT (e1.free s) (e1.trans sm) aU ?_;rw[gG];refine vL nd.sg ((ax.gM I M (k':=[]) (n':=0)).imp (λ_ _ h=>aY.same sm h) λ_ _ _ _ h=>nd.same sm h) ((ay.gM I M (k':=[]) (n':=0)).imp (λ_ _ h=>aY.same sm h) λ_ _ _ _ h=>nd.same sm h) u λq m=>?_;have Cb:q.1≠l:=λz=>XZ ([-z]\abD m);exact aY.of ([bt Cb]\Aa hn q m)
 exact⟨this,cY this λ_=>rfl⟩
section
variable {prog:aG}{w:World}{A:aF}{E:aB}{s:ap}
theorem wb{fin:Bool}{Q:Bool->ap->Prop}:∀{c d:aw} {ns ms:ae} (i:Nat),im c ns->im d ms->fin=decide (c.length<d.length)->Q (HT.lexLt ns ms) s->PySem.W.KatLex prog w A true fin Q (c.zip d) i s
 |_,_,_,_,i,.nil,.nil,hf,h=>by subst hf;exact h
 |_,_,_,_,i,.nil,.cons _ _ _,hf,h=>by subst hf;exact h
 |_,_,_,_,i,.cons _ _ _,.nil,hf,h=>by subst hf;exact h
 |_,_,_,_,i,.cons (ns:=ns) a t h1,.cons (ns:=ms) b u h2,hf,h=>by
  rw[HT.dY]at h;refine PySem.W.kat_cons (wpAny_eqBool_int (PySem.W.kat_go (λe=>?_) λe=>?_))
  ·have e:a=b:=⇑e
   rw[zac e]at h;exact PySem.W.kat_yes (wb (i+1) h1 h2 (by rw[hf];simp) h)
  ·have e:¬ a=b:=⇑e
   rw[zab e]at h;refine PySem.W.kat_no ?_;rw[zbz];cases i==0 with
   |true=>exact oneLt_int h
   |false=>exact RF _ _ (lt_int h)
end
meta def cH(ns:ae):D:=.tup (ns.map D.int)
theorem aH.WS{T:qI}{N:lB}{q:bw}:∀{n:Nat} {vs ws:ah} {ds es:aa},aH T N q n vs ds->aH T N q (n+ds.length) ws es->aH T N q n (vs++ws) (ds++es)
 |_,_,_,_,_,.nil,h=>h
 |n,_,_,_,_,.cons (ds:=ds) h t,h'=>.cons h (aH.WS t (by
   rw[zae,zbq ds.length 1,<- zaG]at h';exact h'))
def jY{H:Hp}{p a:Addr}{o:HO}(b:H p=↥(.lst xs))(h:aY K H a ys):aY K (upd H p o) a ys:=by
 ext(((h|⟨c,h⟩)|h):h)
 ·exact .inl (.inl (by rw[bt (λz=>by subst z;rw[b]at h;cases h)];exact h))
 ·exact .inl (.inr ⟨c,by rw[bt (λz=>by subst z;rw[b]at h;cases h)];exact h⟩)
 ·exact .inr h
protected def z4{n i:Nat}{xs:aa}{r:Fo×aS}(a:tW Φ n i (lX cs xs ρ)=ok r)(b:aQ bW xs=false):∃d d',ρ[i]?=↥↥d/\Φ n (d::xs)=ok d'/\r=(.nx,ρ.set i ↥d'):=by
 unfold lX at a;rw[zab ([b]\zaj)]at a;unfold tW at a;split at a
 ·rename_i d hd;ext(⟨d',e,c⟩:aJ a);cases c;exact⟨d,d',hd,e,rfl⟩
 ·cases a
protected def EY{n i:Nat}{xs:aa}{r:Fo×aS}(a:tW Φ n i (lX cs xs ρ)=ok r)(b:aQ bW xs=true):∃d d',Φ n (d::ak aK xs)=ok d':=by
 unfold lX at a;rw[zac b]at a;unfold tW at a;split at a
 ·rename_i d hd;ext(⟨d',c,e⟩:aJ a);exact⟨d,d',c⟩
 ·cases a
def EF:D->Option (aa)
 |.lst f ds=>if cy f then ↥ds else none
 |_=>none
protected def yc{d:D}(h:EF d=↥ds):d=.ow\ds:=by
 cases d<;>first|exact nk h | (cases h;done)|skip
 rename_i f es;have h:(if cy f then ↥es else none)=↥ds:=h;cases f<;>first | (cases h;rfl) | (cases h;done)
def Co(xs:aa):O D:=match two xs with
 |some z=>match EF z.1 with
  |some ds=>match EF z.2 with
   |some es=>if aQ anyF es=false/\ds.length+es.length<=cU then ok (.ow\(ds++es))else none
   |none=>none
  |none=>none
 |none=>none
def Az{x y d:D}(h:Co [x,y]=ok d):∃ds es,x=.ow\ds/\y=.ow\es/\aQ anyF es=false/\ds.length+es.length<=cU/\d=.ow\(ds++es):=by
 have h:(match EF x with|↥ds=>(match EF y with|↥es=>if aQ anyF es=false/\ds.length+es.length<=cU then ok (.ow\(ds++es))else none|none=>none)|none=>none)=ok d:=h;cases a:EF x with
 |none=>rw[a]at h;exact nk h
 |some ds=>cases b:EF y with
  |none=>rw[a,b]at h;cases h
  |some es =>
   rw[a,b]at h;ext(⟨⟨g,e⟩,c⟩:rX h);exact⟨ds,es,yc a,yc b,g,e,c.symm⟩
def vk(m:Str)(st:Stmt):Option (Expr×aj):=(Xg st).bind λc=>(sU c).bind λz=>(zl z.1).bind λy=>if y.2.1=m/\z.2.2.1.isEmpty=true/\(y.2.2.endLine==z.2.2.2.line)=true then ↥(y.1,z.2.1) else none
def o5{m:Str}{as:aj}(h:vk m st=↥(o,as)):∃d b pos,st=.Expr (.Call (.Attribute o m d) as [] b) pos/\(d.endLine==b.line)=true:=by
 ext(⟨c,j,h⟩:bT h)(⟨⟨f,n,l,b⟩,i,h⟩:bT h)(⟨⟨k,a,d⟩,g,h⟩:bT h)(⟨e,h⟩:gT h);cases h;ext(⟨pos,rfl⟩:o6 j)(rfl:mE i)(rfl:o7 g)(rfl:JK e.2.1)(rfl:e.1);exact⟨d,b,pos,rfl,e.2.2⟩
def Hb(_:Scope)(_:ao)(st:Stmt):Option (Expr×aj):=(vk ("extend" : Str) st).bind λz=>(one z.2).bind λ_=>↥z
protected def QI:PlM Hb Co:=by
 intro Φ n j X sc bl k L hN qH st x pos args p i hi hl pe F cs e;ext(⟨⟨o,as⟩,h1,p⟩:bT p)(⟨v,h2,p⟩:bT p);cases p;ext(rfl:b8 h2)(⟨p1,p2,pos',rfl,ug⟩:o5 h1)(⟨c,rfl⟩:e.c1);refine PS.imp (lR (EC adO PySem.F.slot_list_extend PySem.F.type_list_extend BK pe (cc e.1 dt (e.2.1 _)) (hfew:=by rw[e.2.1];rfl) (hline:=ug) (hs:=e.2.1 _))) λD σ H O=>?_;ext(⟨R,τ,ρ,r,Y,s,O⟩:O)(⟨xs,W,s⟩:aJ s)(⟨y,ey,W⟩:aJ W);cases W;have I:∃ds es,y=.ow\es/\ρ[i]?=↥↥(.ow\ds)/\aQ anyF es=false/\ds.length+es.length<=cU/\r=(.nx,ρ.set i ↥(.ow\(ds++es))):=by
  cases J:aQ bW [y]with
  |true =>
   ext(⟨d,d',h⟩:EY s J);rw[j]at h;ext(⟨ds,es,_,q,_⟩:Az h);cases y<;>first|exact nk q | (cases q;done)|skip
   rename_i f MS;cases f<;>cases q
  |false =>
   ext(⟨d,d',h,h',rfl⟩:z4 s J);rw[j]at h';ext(⟨ds,es,rfl,rfl,q,h4,rfl⟩:Az h');exact⟨ds,es,rfl,h,q,h4,rfl⟩
 ext(⟨ds,es,rfl,U,hf,hc,rfl⟩:I)(⟨a,xs,M,ha,hxl,hta,_⟩:Y.own U);refine⟨.ref a,M,⟨rfl,_,eG.of ha⟩,tD.intro Y ey λu H1 e1 ru=>?_⟩;ext(B:Y.go e1)(⟨a1,LG,Pp,t,aar,FQ,N9⟩:B.own U);rw[M]at Pp;cases Pp;ext(⟨τt,fr,rp⟩:ru)(⟨b,Z,rfl,hb,rz⟩:rp.nN);have J:sizeLine=16777216:=acI;have mY:cU=1000000:=rfl;have hzl:=rz.length;refine⟨a,b,LG,Z,rfl,rfl,t,hb.1,by left,?_⟩;ext(⟨z,sO⟩:B.put (m:=0) (g:=λys=>ys++Z) (v:=.int 0) (d:=.int 0) U M t FQ N9 ⟨λ_=>none,λ_ _ h=>by simp at h,.int 0⟩ λrs _=>aH.WS rs (rz.without (P:=anyF) (λ_ _ h=>jY t h) (λ_ _ _ _ _ h=>by cases h) hf _ _));exact O σ _ R z sO (pN (n:=.l _) B e1 (λ_ h=>h) t FQ)
section
variable {α β:Type}
meta def cA:az->List α->ae->Option α
 |c'::cs,v::vs,c=>if c'=c then ↥v else cA cs vs c
 |_,_,_=>none
meta def setC:az->List α->ae->α->List α
 |c'::cs,v'::vs,c,v=>(if c'=c then v else v')::setC cs vs c v
 |_,_,_,_=>[]
meta def bo(cs:az)(c:ae):az:=if c∈cs then cs else cs++[c]
meta def nq(cs:az)(as:List α)(c:ae)(a:α):List α:=if c∈cs then as else as++[a]
def bQ(cs:az)(vs:List α)(c:ae)(v:α):List α:=if c∈cs then setC cs vs c v else vs++[v]
end
section
variable {zs:List (ae×Addr×Value)}{c:ae}
theorem ki:∀(zs:List (ae×Addr×Value)) (c:ae),(atKey zs c).map (·.2)=cA (zs.map (·.1)) (zs.map (·.2.2)) c
 |[],_=>rfl
 |z::zs,c=>by
  ext(a:ki zs c);unfold atKey at a ⊢;rw[X5];show _=if z.1=c then ↥z.2.2 else cA (zs.map (·.1)) (zs.map (·.2.2)) c
  by_cases e:z.1=c
  ·rw[zaK e,zac e];rfl
  ·exact[zaP e,zab e]\a
theorem eB:∀(zs:List (ae×Addr×Value)) (c:ae),(atKey zs c).isSome=true ↔ c∈zs.map (·.1)
 |[],c=>by simp[atKey]
 |z::zs,c=>by
  ext(a:eB zs c);unfold atKey at a ⊢;rw[X5,zal,zau];by_cases e:z.1=c
  ·rw[zaK e];simp[e]
  ·rw[zaP e];exact[a]\⟨.inr,λh=>h.resolve_left λz=>e z.symm⟩
def gx(a:Addr)(v:Value):(r_ zs c a v).map (·.1)=bo (zs.map (·.1)) c:=by
 unfold r_ bo;by_cases h:c∈zs.map (·.1)
 ·rw[zac ((eB zs c).mpr h),zac h,zag];refine aaW λz _=>?_;show(putAt c v z).1=z.1;unfold putAt;split<;>rfl
 ·rw[zab (λz=>h ((eB zs c).mp z)),zab h,zak];rfl
def nB(a:Addr)(v:Value):(r_ zs c a v).map (·.2.1)=nq (zs.map (·.1)) (zs.map (·.2.1)) c a:=by
 unfold r_ nq;by_cases h:c∈zs.map (·.1)
 ·rw[zac ((eB zs c).mpr h),zac h,zag];refine aaW λz _=>?_;show(putAt c v z).2.1=z.2.1;unfold putAt;split<;>rfl
 ·rw[zab (λz=>h ((eB zs c).mp z)),zab h,zak];rfl
theorem vP(v:Value):∀zs:List (ae×Addr×Value),(zs.map (putAt c v)).map (·.2.2)=setC (zs.map (·.1)) (zs.map (·.2.2)) c v
 |[]=>rfl
 |z::zs=>by
  show(putAt c v z).2.2::((zs.map (putAt c v)).map (·.2.2))=(if z.1=c then v else z.2.2)::setC (zs.map (·.1)) (zs.map (·.2.2)) c v;rw[vP v zs];unfold putAt;by_cases e:z.1=c
  ·rw[zac e,zac e]
  ·rw[zab e,zab e]
def nA(a:Addr)(v:Value):(r_ zs c a v).map (·.2.2)=bQ (zs.map (·.1)) (zs.map (·.2.2)) c v:=by
 unfold r_ bQ;by_cases h:c∈zs.map (·.1)
 ·exact[zac ((eB zs c).mpr h),zac h]\vP v zs
 ·rw[zab (λz=>h ((eB zs c).mp z)),zab h,zak];rfl
end
theorem vg{c:ae}{v:V}{u:Value}(r:RelV v u):∀{cs:az} {xs:ah} {a:aw},Vals xs a->Vals (setC cs xs c v) (setC cs a c u)
 |[],_,_,h=>by cases h<;>exact .nil
 |c'::cs,_,_,h=>by
  cases h with
  |nil=>exact .nil
  |cons h t =>
   refine .cons ?_ (vg r t);show RelV (if c'=c then v else _) (if c'=c then u else _);by_cases e:c'=c
   ·exact[zac e,zac e]\r
   ·exact[zab e,zab e]\h
theorem rB{v:V}{u:Value}(r:RelV v u):∀{xs:ah} {a:aw},Vals xs a->Vals (xs++[v]) (a++[u])
 |_,_,.nil=>.cons r .nil
 |_,_,.cons h t=>.cons h (rB r t)
def vh{cs:az}{a:aw}(h:Vals xs a){c:ae}{v:V}{u:Value}(r:RelV v u):Vals (bQ cs xs c v) (bQ cs a c u):=by
 unfold bQ;by_cases e:c∈cs
 ·exact[zac e,zac e]\vg r h
 ·exact[zab e,zab e]\rB r h
theorem lH:∀{cs:az} {xs:ah} {a:aw} (_:Vals xs a) (c:ae),CO (cA cs xs c) (cA cs a c)
 |[],_,_,_,_=>by cases ‹Vals _ _› <;> exact nv
 |c'::cs,_,_,h,c=>by
  cases h with
  |nil=>exact nv
  |cons h t =>
   show CO (if c'=c then ↥_ else _) (if c'=c then ↥_ else _);by_cases e:c'=c
   ·exact[zac e,zac e]\h
   ·exact[zab e,zab e]\lH t c
section
variable {X:Cx}{pins:au}{σ:St}{H:Hp}{s:ap}{p b:Addr}{cs:az}{as:aX}{xs:ah}{ep:Nat}{c:ae}{A:aF}{E:aB}
theorem items_int:∀{c:ae} {a:aw},Vals (c.map V.int) a->ItemsAre (ov X.prog X.w) c a
 |[],_,h=>by cases h;exact .nil
 |i::c,_,h=>by
  cases h with
  |cons h t =>
   ext(⟨t',rfl⟩:h);exact .cons (by simp[ov,Value.isInt]) (items_int t)
def pP(I:Inv X pins σ H s)(h:aY X.K H b (c.map V.int)):(vb (ov X.prog X.w)).is s.heap c b:=by
 ext(⟨i,a,⟨o,g,e,n,d⟩,_⟩:I.tuple h);exact⟨o,i.toArray,n,g,e,d,⇑(items_int a)⟩
def oN(I:Inv X pins σ H s)(h:H p=↥(.ext (DO p cs as xs ep)))(k:dw (aY X.K H) as cs):
  ∃(zs:List (ae×Addr×Value)) (o:Obj) (es:Array mB),zs.map (·.1)=cs/\zs.map (·.2.1)=as/\Vals xs (zs.map (·.2.2))/\s.heap.get? p=↥o/\o.ExactDict/\o.data=.dict es ep /\
   s.heap.DictOfH (vb (ov X.prog X.w)) p zs/\es.toList=zs.map (entryOfKey (vb (ov X.prog X.w)))/\cs.length<=sizeLine/\(p==kb)=false:=by
 obtain⟨⟨zs,o,es,e1,e2,e3,d,a,hd,g,m,n,l⟩,_⟩:=(show cQ H s.heap p (.ext (DO p cs as xs ep)) from I.cJ p _ h)
 refine⟨zs,o,es,e1,e2,e3,d,a,hd,⟨o,es,ep,d,a,hd,g,λz i=>?_,[e1]\m⟩,g,n,l⟩;ext(⟨j,e⟩:g8.mp i);exact pP I (k.tup j z.2.1 z.1 (by rw[<- e2,bv,e];rfl) (by rw[<- e1,bv,e];rfl))
def dict_cls(I:Inv X pins σ H s)(h:H p=↥(.ext (DO p cs as xs ep))):s.TypeIs (.ref p) "dict" /\ ∀b,em p=.ref b->∃a,s.heap.get? b=↥a/\a.dict=none:=by
 obtain⟨⟨g,o,es,e1,e2,e3,e,d,_⟩,_⟩:=(show cQ H s.heap p (.ext (DO p cs as xs ep)) from I.cJ p _ h)
 exact⟨⟨o,e,d.1⟩,λb q=>by cases q;exact⟨o,e,d.2.1⟩⟩
def yH{v:V}{r:Value}{Q:Unit->ap->Prop}(B:A.units+1<cLine)(I:Inv X pins σ H s)(h:H p=↥(.ext (DO p cs as xs ep)))(k:dw (aY X.K H) as cs)(j:aY X.K H b (c.map V.int))(n:RelV v r)(dm:cs.length<sizeLine)
  (L:∀e l,Inv X pins σ (upd H p (.ext (DO p (bo cs c) (nq cs as c b) (bQ cs xs c v) e))) l->Q () l) :
  wpAny (model X.prog X.w) A (setItem (.ref p) (.ref b) r) Q E s:=by
 ext(⟨d,o,es,e1,e2,e3,ho,hx,hd,dd,_,i,J⟩:oN I h k);have y:d.length<=sizeLine:=by rw[<- e1,zaa]at i;exact i
 refine wpAny_setItem_heap (hsz:=y) (adG B) (pP I j) dd λh' Wu m=>?_;ext(⟨q,MS,e,g,U,R,O,_,M⟩:Wu);refine L e _ (I.write (x:=p) ([h]\nv) (λb q j z=>(m.2 b j).trans z) ⟨q,g⟩ ⟨⟨r_ d c b r,q,MS,?_,?_,?_,g,U,R,O,?_,?_,J⟩,⟨q,g⟩,?_⟩)
 ·rw[gx,e1]
 ·rw[nB,e1,e2]
 ·exact[nA,e1]\vh e3 n
 ·exact[-e1,-gx (zs:=d) (c:=c) b r]\M
 ·unfold bo;split
  ·exact i
  ·rw[zaf,zaC];left
 ·rintro h1 Sf ⟨RJ,t,a,f1,f2,Z,Y,W⟩ u;exact⟨RJ,t,a,f1,f2,Z,u _ Y,W⟩
def Jy:PE X (.Dict [] [] pos) (λ_ H Q=>∀p,H p=none->Q (.ref p) (upd H p (.ext (DO p [] [] [] 0)))):=λpins s σ H Q I h=>by
 have e:kb<s.heap.objs.size:=ade ⇑4 (show cr<s.heap.objs.size from(I.mod.glob.keeps I.bk).lt);refine wpAny_Dict_empty ⟨.ref s.heap.objs.size,_,I.laid (a:=s.heap.objs.size) (o:=.ext (DO s.heap.objs.size [] [] [] 0)) (t':=s.toks) (λ_ _ q=>aaq _ q) (aat _) ?_,rfl,h _ (I.cJ.fresh (aat _))⟩;have g:(s.heap.push { cls:=.type "dict",data:=.dict #[] }).get? s.heap.objs.size=some { cls:=.type "dict",data:=.dict #[] }:=aaC _ rfl;refine⟨⟨[],_,#[],rfl,rfl,.nil,g,⟨rfl,rfl,rfl⟩,rfl,rfl,acG,aa6 _,beq_eq_false_iff_ne.mpr (ada (aax e))⟩,⟨_,g⟩,?_⟩;rintro u v ⟨t,i,d,r,n,m,l,k⟩ j;exact⟨t,i,d,r,n,m,j _ l,k⟩
end
def ou{k:bw}{v:V}{d:D}(h:Rep T N k v d)(hf:aW anyF d=false):Rep T N' k' v d:=by
 have:=Rep.gen (T':=T) (N':=N') (g:=id) (P:=anyF) (C:=λ_ _=>True) (I:=λ_ _=>True) ⇑10 trivial (λ_ _ e=>e) (λ_ _ _ _ e _=>e) (λk k' p xs f _ a _=>nomatch a) h (k':=k') trivial hf;rw[eX]at this;exact this
theorem pk{T:qI}{N:lB}:∀{cs:az} {k:bw} {n:Nat} {xs:ah} {ds:aa} (_:aH T N k n xs ds) (c:ae),(cA cs xs c=none/\cA cs ds c=none)\/∃v d k',cA cs xs c=↥v/\cA cs ds c=↥d/\Rep T N k' v d/\d∈ds
 |[],_,_,_,_,_,_=>by cases ‹aH _ _ _ _ _ _› <;> exact .inl ⟨rfl,rfl⟩
 |c'::cs,_,_,_,_,r,c=>by
  cases r with
  |nil=>exact .inl ⟨rfl,rfl⟩
  | @cons _ _ v d vs ds h t =>
   by_cases e:c'=c
   ·exact .inr ⟨v,d,_,abi e,abi e,h,aam⟩
   ·have e1:∀{b:Type} (a:b) (l:List b),cA (c'::cs) (a::l) c=cA cs l c:=λa l=>aec e;rw[e1,e1];ext((h|⟨v',d',k',m,j,i,g⟩):pk (cs:=cs) t c)
    ·exact .inl h
    ·exact .inr ⟨v',d',k',m,j,i,aap _ g⟩
theorem vM{T:qI}{N:lB}{c:ae}{v:V}{d:D}(a:∀k,Rep T N k v d):∀{cs:az} {k:bw} {n:Nat} {xs:ah} {ds:aa},aH T N k n xs ds->aH T N k n (setC cs xs c v) (setC cs ds c d)
 |[],_,_,_,_,r=>by cases r<;>exact .nil
 |c'::cs,_,_,_,_,r=>by
  cases r with
  |nil=>exact .nil
  |cons h t =>
   refine .cons ?_ (vM a t);show Rep _ _ _ (if c'=c then v else _) (if c'=c then d else _);by_cases e:c'=c
   ·exact[zac e,zac e]\a _
   ·exact[zab e,zab e]\h
def BC{v:V}{d:D}(a:∀k,Rep T N k v d){k:bw}{n:Nat}(h:aH T N k n xs ds):aH T N k n (xs++[v]) (ds++[d]):=h.snoc (a _)
def D9{c:ae}{v:V}{d:D}(a:∀k,Rep T N k v d){cs:az}{k:bw}{n:Nat}(r:aH T N k n xs ds):aH T N k n (bQ cs xs c v) (bQ cs ds c d):=by
 unfold bQ;by_cases e:c∈cs
 ·exact[zac e,zac e]\vM a r
 ·exact[zab e,zab e]\BC a r
def pO{cs:az}(k:dw T as cs){b:Addr}{c:ae}(n:T b (c.map V.int)):dw T (nq cs as c b) (bo cs c):=by
 unfold nq bo;by_cases e:c∈cs
 ·exact[zac e,zac e]\k
 ·rw[zab e,zab e];refine⟨by rw[zaf,zaf,k.len];rfl,λj a c' d g=>?_⟩;by_cases l:j<as.length
  ·rw[d7 l]at d;rw[d7 ([-k.len]\l)]at g;exact k.tup j a c' d g
  ·rw[d6 ⋯]at d;rw[d6 (by rw[<- k.len];left),<- k.len]at g;cases i:j - as.length with
   |zero =>
    rw[i]at d g;cases d;cases g;exact n
   |succ m=>rw[i]at d;cases d
def cz.newD{R:Addr->Prop}{H:Hp}{p:Addr}(e:H p=none)(g:H' p=↥(.ext (DO p [] [] [] 0))):cz K G R τ fv H H' (.ref p) (.cF .ow [] []):=by
 refine⟨λq=>if q=p then ↥[] else none,λq k d=>?_,.cF (ep:=0) (as:=[]) (xs:=[]) ⟨g,by simp⟩ ⟨rfl,λj a c h=>by simp at h⟩ .nil⟩;by_cases b:q=p
 ·subst b;exact e
 ·simp[b]at d
meta def GW(xs:aa):O D:=match xs with
 |[]=>ok (.cF .ow [] [])
 |_::_=>none
meta def uD(_:Scope)(_:ao)(e:Expr):Option (aj):=match e with
 |.Dict [] [] _=>↥[]
 |_=>none
def KW:RB uD GW:=by
 intro Φ n c X m bl k L e args a F cs j;have l:∃pos,e=.Dict [] [] pos/\args=[]:=by
  unfold uD at a;split at a
  ·cases a;exact⟨_,rfl,rfl⟩
  ·cases a
 ext(⟨pos,rfl,rfl⟩:l);cases cs with
 |cons _ _=>exact j.elim
 |nil =>
  have this:PE X (.Dict [] [] pos) (tD X F Φ (.cM n [])):=by
   refine PE.imp (Jy (X:=X) (pos:=pos)) λσ H Q g p i=>?_;ext(⟨R,τ,ρ,d,q,b,g⟩:g);have b:Φ n []=ok d:=b;rw[c]at b;cases b;exact g _ _ (aL.upd i) (cz.newD i aU)
  exact⟨this,cY this λ_=>rfl⟩
meta def three{d:Type}:List d->Option (d×d×d)
 |[a,b,c]=>↥(a,b,c)
 |_=>none
def DE{e:Type}{l:List e}{z:e×e×e}(h:three l=↥z):l=[z.1,z.2.1,z.2.2]:=by
 rcases l with _|⟨a,_|⟨b,_|⟨c,_|⟨d,l⟩⟩⟩⟩<;>cases h;rfl
meta def iw:D->Option (az×aa)
 |.cF _ cs vs=>↥(cs,vs)
 |_=>none
def keyOf:D->Option (ae)
 |.tup a=>intsOf a
 |_=>none
def l_{d:D}{z:az×aa}(h:iw d=↥z):∃f,d=.cF f z.1 z.2:=by
 cases d<;>first | (cases h;done) | (cases h;exact⟨_,rfl⟩)
def lW{d:D}{c:ae}(h:keyOf d=↥c):d=.tup (c.map D.int):=by
 cases d<;>first | (cases h;done)|skip
 rw[eu (show intsOf _=↥c from h)]
def GY(xs:aa):O D:=match two xs with
 |some z=>match iw z.1 with
  |some d=>match keyOf z.2 with
   |some c=>match cA d.1 d.2 c with
    |some v=>if aW anyF v=false then ok v else none
    |none=>none
   |none=>none
  |none=>none
 |none=>none
def K0{xs:aa}{r:D}(h:GY xs=ok r):∃f cs vs c,xs=[.cF f cs vs,.tup (c.map D.int)]/\cA cs vs c=↥r/\aW anyF r=false:=by
 unfold GY at h;cases g:two xs with
 |none=>rw[g]at h;cases h
 |some z =>
  rw[g]at h;have h:(match iw z.1 with|↥d=>(match keyOf z.2 with|↥c=>(match cA d.1 d.2 c with|↥v=>if aW anyF v=false then ok v else none|none=>none)|none=>none)|none=>none)=ok r:=h;cases e:iw z.1 with
  |none=>rw[e]at h;cases h
  |some d =>
   rw[e]at h;have h:(match keyOf z.2 with|↥c=>(match cA d.1 d.2 c with|↥v=>if aW anyF v=false then ok v else none|none=>none)|none=>none)=ok r:=h;cases b:keyOf z.2 with
   |none=>rw[b]at h;cases h
   |some c =>
    rw[b]at h;have h:(match cA d.1 d.2 c with|↥v=>if aW anyF v=false then ok v else none|none=>none)=ok r:=h;cases a:cA d.1 d.2 c with
    |none=>rw[a]at h;cases h
    |some v =>
     rw[a]at h;ext(⟨hf,rfl⟩:rX (show(if aW anyF v=false then ok v else none)=ok r from h))(⟨f,e1⟩:l_ e);exact⟨f,d.1,d.2,c,by rw[fq g,e1,lW b],a,hf⟩
def ZD(K:av):R2:=λx y H Q=>∃p b cs as xs ep c v,x=.ref p/\y=.ref b/\H p=↥(.ext (DO p cs as xs ep))/\dw (aY K H) as cs/\aY K H b (c.map V.int)/\cA cs xs c=↥v/\Q v H
def JY(m:X.A.units+1<cLine):LA X (ZD X.K):=by
 intro value slice pins s σ H x y v u Q I k j h n;ext(⟨p,b,cs,as,xs,ep,c,w,rfl,rfl,t,z,J,B,q⟩:h);cases k;cases j;ext(⟨g,o,es,e1,e2,e3,O,M,hd,d,_,R,U⟩:oN I t z)(e:lH (cs:=cs) e3 c);rw[B]at e;ext(⟨u,L,l⟩:CO.some_of e);have:(atKey g c).map (·.2)=↥u:=[ki,e1]\L
 ext(⟨q',a,rfl⟩:io.mp this);exact ac1 (x:=q'.2) d.typeIs zv.lookup
  (yaj (Q:=λr i=>r=q'.2/\EP X pins σ Q r i) (adG m) (pP I J) d a ⟨rfl,w,H,I.tok _,l,q⟩) n
def ng(_:Scope)(_:ao)(e:Expr):Option (aj):=match xK e with
 |some z=>↥[z.1,z.2]
 |none=>none
def Q8:RB ng GY:=by
 intro Φ n i X sc bl k L e args a F cs q;unfold ng at a;cases m:xK e with
 |none=>rw[m]at a;cases a
 |some z =>
  rw[m]at a;cases a;ext(⟨pos,rfl⟩:lI m)(⟨⟨c1,c2,rfl,U,O⟩,_⟩:mS q);have this:PE X (.Subscript z.1 z.2 pos) (tD X F Φ (.cM n [c1,c2])):=by
   refine PE.imp (EB (JY (ME L.room)) U O q.2.2.2.2.2.1) λσ H Q l=>?_;ext(⟨R,τ,ρ,d,t,g,l⟩:l)(⟨xs,b,g⟩:aJ g);rw[i]at g;ext(⟨f,cs,vs,c,rfl,r,hf⟩:K0 g)(⟨x,ex,b⟩:aJ b)(⟨ys,Gs,b⟩:aJ b)(⟨y,ey,V_⟩:aJ Gs);cases V_;cases b;refine tD.intro t ex λv H1 e1 r1=>tD.intro (t.go e1) ey λu H2 e2 J=>?_;ext(⟨I,f1,q1⟩:r1)(⟨B,f2,M⟩:J);cases q1 with
   |cF Z hk Y=>cases M with
    |tup W j =>
     cases j.ofInts;ext((⟨_,p⟩|⟨w,d',k',g1,s,g3,_⟩):pk Y c)
     ·rw[r]at p;cases p
     ·rw[r]at s;cases s;refine⟨_,_,_,_,_,_,c,w,rfl,rfl,e2 _ _ Z.dat,hk.imp λ_ _ h=>aY.same e2 h,W,g1,l w H2 (e1.trans e2) ⟨λ_=>none,λ_ _ h=>by simp at h,?_⟩⟩;exact(ou (N':=nd X.K R (lg (gP X F) τ (gJ (.cM n [c1,c2]))) ⇑8 H1) (k':=[]) g3 hf).imp (λ_ _ h=>aY.same e2 h) λ_ _ _ _ h=>nd.same e2 h
  exact⟨this,cY this λ_=>rfl⟩
def wU(xs:aa):O D:=match three xs with
 |some z=>match z.1 with
  |.cF f cs vs=>match keyOf z.2.2 with
   |some c=>if cy f=true/\aW anyF z.2.1=false/\cs.length<cU then ok (.cF .ow (bo cs c) (bQ cs vs c z.2.1))else none
   |none=>none
  |_=>none
 |none=>none
protected def wR{d:D}{xs:aa}{r:D}(h:wU (d::xs)=ok r):∃cs vs c x,d=.cF .ow cs vs/\xs=[x,.tup (c.map D.int)]/\aW anyF x=false/\cs.length<cU/\r=.cF .ow (bo cs c) (bQ cs vs c x):=by
 unfold wU at h;cases b:three (d::xs)with
 |none=>rw[b]at h;cases h
 |some z =>
  rw[b]at h;ext(e0:DE b)(⟨d',x,y⟩:z);obtain⟨rfl,rfl⟩:d=d'/\xs=[x,y]:=acX e0;cases d<;>first | (cases h;done)|skip
  rename_i f cs vs;have h:(match keyOf y with|↥c=>if cy f=true/\aW anyF x=false/\cs.length<cU then ok (D.cF .ow (bo cs c) (bQ cs vs c x))else none|none=>none)=ok r:=h;cases a:keyOf y with
  |none=>rw[a]at h;cases h
  |some c =>
   rw[a]at h;ext(⟨⟨hf,e,g⟩,rfl⟩:rX (show(if cy f=true/\aW anyF x=false/\cs.length<cU then ok (D.cF .ow (bo cs c) (bQ cs vs c x))else none)=ok r from h));cases f<;>first | (cases hf;done)|exact⟨cs,vs,c,x,rfl,by rw[lW a],e,g,rfl⟩
def uC(_:Scope)(_:ao)(st:Stmt):Option (Expr×aj):=(Bl st).bind λz=>(one z.1).bind λt=>(xK t).bind λy=>↥(y.1,[z.2,y.2])
def yQ{sc:Scope}{bl:ao}(h:uC sc bl st=↥(o,args)):∃v i pos' pos,st=.Assign [.Subscript o i pos'] v pos/\args=[v,i]:=by
 ext(⟨⟨d,v⟩,c,h⟩:bT h)(⟨t,b,h⟩:bT h)(⟨⟨e,i⟩,a,h⟩:bT h);cases h;ext(rfl:b8 b)(⟨pos,rfl⟩:jV c)(⟨pos',rfl⟩:lI a);exact⟨v,i,pos',pos,rfl,rfl⟩
mutual
theorem any_map(g:Fl->Fl):∀d:D,aW anyF (aI g d)=aW anyF d
 |.b0=>rfl
 |.bl _=>rfl
 |.int _=>rfl
 |.str _=>rfl
 |.tup ds=>xo g ds
 |.lst _ ds=>rfl
 |.cF _ _ ds=>rfl
theorem xo(g:Fl->Fl):∀ds:aa,aQ anyF (ak g ds)=aQ anyF ds
 |[]=>rfl
 |d::ds=>by show(aW _ _||aQ _ _)=(aW _ d||aQ _ ds);rw[any_map g d,xo g ds]
end
mutual
theorem yY:∀d:D,aW anyF d=false->aW bW d=false
 |.b0,_=>rfl
 |.bl _,_=>rfl
 |.int _,_=>rfl
 |.str _,_=>rfl
 |.tup ds,h=>A8 ds h
 |.lst _ ds,h=>nomatch h
 |.cF _ _ ds,h=>nomatch h
theorem A8:∀ds:aa,aQ anyF ds=false->aQ bW ds=false
 |[],_=>rfl
 |d::ds,h=>by
  ext(h:Ox h);show(aW _ d||aQ _ ds)=false;rw[yY d h.1,A8 ds h.2];rfl
end
theorem any_ints:∀c:ae,aQ anyF (c.map D.int)=false
 |[]=>rfl
 |i::c=>any_ints c
def NJ{i:Expr}{l:Nat}:mu value ↥(.Subscript o i pos') l env=pure false:=by
 unfold mu;cases value<;>rfl
def Eh{x:Str}{j:Pos}{i:Expr}{e to g:TE}(L:X.A.units+1<cLine)(J:PE X value e)(M:PE X (.Name x j) to)(U:PE X i g):
  PS X (.Assign [.Subscript (.Name x j) i pos'] value pos) (λD σ H=>e σ H λv H1=>to σ H1 λo H2=>g σ H2 λy a=>∃q b cs as xs ep c,o=.ref q/\y=.ref b/\a q=↥(.ext (DO q cs as xs ep))/\dw (aY X.K a) as cs/\aY X.K a b (c.map V.int)/\cs.length<sizeLine /\
   ∀d,D.nx σ (upd a q (.ext (DO q (bo cs c) (nq cs as c b) (bQ cs xs c v) d)))):=by
 intro pins s σ H D I h;refine wpAny_Assign_Subscript (dO (J pins s σ H _ I h) λr l ⟨v,H1,I1,p,q1⟩=>dO (M pins l σ H1 _ I1 q1) λu k ⟨o,H2,I2,n,z⟩=>dO (U pins k σ H2 _ I2 z) λB s3 b9=>?_) NJ;ext(⟨y,a,I3,m,q,b,cs,as,xs,ep,c,Z,Y,hd,R,W,O,t⟩:b9);subst Z Y;obtain rfl:u=em q:=n;obtain rfl:B=em b:=m;exact yH L I3 hd R W p O λd s4 I4=>⟨σ,_,I4,t d⟩
def SI.Ou{R:Addr->Prop}{H:Hp}{i:Nat}{cs:az}(d:SI X F R τ ρ σ H)(c:ρ[i]?=↥↥(.cF .ow cs ds)):
  ∃p as xs ep,σ[i]?=↥↥(.ref p)/\H p=↥(.ext (DO p cs as xs ep))/\τ p=↥[i]/\dw (aY X.K H) as cs/\aH (aY X.K H) (nd X.K R ⇑7 τ H) [i] 0 xs ds:=by
 ext(⟨v,b,a⟩:d.rep i _ c);cases a with
 |cF h k r=>exact⟨_,_,_,_,b,h.1,h.2,k,r⟩
def KV:PlM uC wU:=by
 intro Φ n j X sc bl k L hN qH st x pos args he i hi hl pe F cs hs;ext(⟨v,ix,p1,p2,rfl,rfl⟩:yQ he)(⟨⟨c1,c2,rfl,h1,h2⟩,_⟩:mS hs);refine PS.imp (Eh (ME L.room) h1 pe h2) λD σ H Y=>?_;ext(⟨R,τ,ρ,r,B,z,Y⟩:Y)(⟨xs,s,z⟩:aJ z)(⟨y,ey,s⟩:aJ s)(⟨ys,Gs,s⟩:aJ s);cases s;ext(⟨a,ek,V_⟩:aJ Gs);cases V_;have O:∃cs vs c,a=.tup (c.map DI.D.int)/\ρ[i]?=↥↥(.cF .ow cs vs)/\aW anyF y=false/\cs.length<cU/\r=(.nx,ρ.set i ↥(.cF .ow (bo cs c) (bQ cs vs c y))):=by
  cases l:aQ bW [y,a]with
  |true =>
   ext(⟨d,d',h⟩:EY z l);rw[j]at h;ext(⟨cs,vs,c,x',_,e1,e2,_⟩:wR h);have e3:aI aK y=x'/\aI aK a=.tup (c.map DI.D.int):=by
    have:=acX e1;exact⟨this.1,(acX this.2).1⟩
   have a1:aW bW y=false:=yY y ([-any_map aK y,e3.1]\e2);have a2:aW bW a=false:=yY a ([-any_map aK a,e3.2]\any_ints c);have:aQ bW [y,a]=false:=by show(aW bW y||(aW bW a||false))=false;rw[a1,a2];rfl
   rw[this]at l;cases l
  |false =>
   ext(⟨d,d',h,h',rfl⟩:z4 z l);rw[j]at h';ext(⟨cs,vs,c,x',rfl,e1,e2,e3,rfl⟩:wR h');cases e1;exact⟨cs,vs,c,rfl,h,e2,e3,rfl⟩
 ext(⟨cs,vs,c,rfl,Z,hf,hc,rfl⟩:O)(⟨p,as,g,ep,U,hd,ht,hk,M⟩:B.Ou Z);refine tD.intro B ey λu H1 e1 ru=>⟨.ref p,U,tD.intro (B.go e1) ek λw H2 e2 kN=>?_⟩
 ext(⟨τ1,f1,q1⟩:ru)(⟨τ2,f2,q2⟩:kN);cases q2 with
 | @tup _ b _ _ hb W =>
  cases W.ofInts;ext(es:e1.trans e2)(J:B.go es)(e:es _ _ hd);have mY:cU=1000000:=rfl;have l:sizeLine=16777216:=acI;refine⟨p,b,cs,as,g,ep,c,rfl,rfl,e,hk.imp λ_ _ h=>aY.same es h,hb,by left,λl8=>?_⟩;have t:eN H2 p (.d cs as g ep):=e;have rk:gX X R τ H2 u y:=pq ((ou (N':=nd X.K R ⇑7 τ H1) (k':=[]) q1 hf).imp (λ_ _ h=>aY.same e2 h) λ_ _ _ _ h=>nd.same e2 h) hf;ext(⟨p',WQ,RJ,ahq,q,wt,Pq,CZ,tF⟩:J.Ou Z);rw[U]at q;cases q;rw[e]at wt;obtain⟨I,Lv⟩:=J.T3 (m:=0) (n':=.d (bo cs c) (nq cs as c b) (bQ cs g c u) l8) (o:=.ext (DO p (bo cs c) (nq cs as c b) (bQ cs g c u) l8)) (d1:=.cF .ow (bo cs c) (bQ cs vs c y)) (xs':=bQ cs g c u) (ds':=bQ cs vs c y) Z U t ht (M.imp (λ_ _ h=>aY.same es h) λ_ _ _ _ h=>nd.same es h) rk aU
   (λhN r=>.cF hN (pO ((hk.imp λ_ _ h=>aY.same es h).imp λ_ _ h=>mH t h) (mH t hb)) r) (λM r=>D9 (λk=>ou r hf) M)
  exact Y σ _ R I Lv (pN J es (λ_ h=>h) t ht)
end DI
end
section
namespace TS
open PySem PyProof.Rows
meta def Aq:Bool->Keyed->Array Keyed->Nat->Nat->Nat->StateT f7 Sem (Option Nat):=sortPriv% PySem.Builtin.gallop
def yJ{T G:Prop}(f:T->G)(t:T):G:=f t
section
variable {M:Model}{A:aF}{E:aB}{s:ap}{σ α:Type}{c:Prop}[Decidable c]{t e:StateT σ Sem α}{Q:α->σ->Prop}{st:σ}
def br(h:c)(k:wpS M A E s t Q st):wpS M A E s (if c then t else e) Q st:=[zac h]\k
def bx(h:¬ c)(k:wpS M A E s e Q st):wpS M A E s (if c then t else e) Q st:=[zab h]\k
def jT(h:c->wpS M A E s t Q st)(k:¬ c->wpS M A E s e Q st):wpS M A E s (if c then t else e) Q st:=by
 by_cases z:c
 ·exact br z (h z)
 ·exact bx z (k z)
def b7{a:Type}{x:StateT σ Sem α}{f:α->StateT σ Sem a}{R:a->σ->Prop}{u:α}{b:σ}(g:∀d:α->σ->Prop,d u b->wpS M A E s x d st)(h:wpS M A E s (f u) R b):wpS M A E s (x >>= f) R st:=aaB (g _ h)
def mw{b:Type}{x:StateT σ Sem α}{f:α->StateT σ Sem b}{R:b->σ->Prop}(g:wpS M A E s x Q st)(h:∀a d,Q a d->wpS M A E s (f a) R d):wpS M A E s (x >>= f) R st:=aaB (acT g h)
def sS{a:Type}{x:StateT σ Sem (Option Nat)}{f:Option Nat->StateT σ Sem a}{R:a->σ->Prop}{i g d:Nat->Prop}(j:∀b:Option Nat->σ->Prop,(∀k,i k->g k->d k->b ↥k st)->wpS M A E s x b st)(h:∀k,i k->g k->d k->wpS M A E s (f ↥k) R st):wpS M A E s (x >>= f) R st:=aaB (j _ h)
def Dj{b:Type}{x:StateT σ Sem Unit}{f:Unit->StateT σ Sem b}{R:b->σ->Prop}{g:σ->Prop}(i:∀d:Unit->σ->Prop,(∀a,g a->d () a)->wpS M A E s x d st)(h:∀a,g a->wpS M A E s (f ()) R a):wpS M A E s (x >>= f) R st:=aaB (i _ h)
end
inductive GI{R:Type}(P:Nat->Nat->Prop)(st:f7):Option R×Nat×Nat->f7->Prop
 |mk {x y:Nat} (p:P x y):GI P st (none,x,y) st
structure Bs(G:Nat->Bool)(n x lo hi:Nat):Prop where
 le:lo<=hi
 hn:hi<=n
 m:hi+x<=n+lo
 t:∀i,i<lo->G i=true
 f:∀i,hi<=i->i<n->G i=false
variable {base hi hint lo na nb o sa sb:Nat}
def OL(h:¬ lo ≥ hi):lo<=lo+(hi - lo) / 2/\lo+(hi - lo) / 2<hi :=
 ⟨aaS _ _,Nat.lt_of_lt_of_eq (aaY (Nat.div_lt_self (adS (ad1 h)) Nat.one_lt_two) _) (vu (Nat.le_of_not_le h))⟩
section
variable {prog:aG}{w:World}{A:aF}{E:aB}{s:ap}{κ:hW}{a₀:Array Keyed}{F:Keyed->Int}
def rm(prog:aG)(w:World)(A:aF)(E:aB)(s:ap)(κ:hW)(a₀:Array Keyed)(F:Keyed->Int):Prop:=∀x y,x∈a₀.toList->y∈a₀.toList->∀(st:f7) (Q:Option Bool->f7->Prop),kindOf st=κ->Q ↥(decide (F x<F y)) st->wpS (model prog w) A E s (lt' x y) Q st
def bC{arr:Array Keyed}{i:Nat}{x:Keyed}{st:f7}{Q:Keyed->f7->Prop}(h:arr[i]?=↥x)(a:Q x st):wpS (model prog w) A E s (elem' arr i) Q st:=by
 exact[elem'_eq,h]\aau a
def xH(L:rm prog w A E s κ a₀ F){left:Bool}{l:Keyed}{arr:Array Keyed}{n:Nat}{G:Nat->Bool}{st:f7}{Q:Option Nat->f7->Prop}(hk:kindOf st=κ)(V:l∈a₀.toList)(D:hint<n)
  (hb:∀i,i<n->∃x,arr[base+i]?=↥x/\x∈a₀.toList/\(if left then decide (F x<F l)else !decide (F l<F x))=G i)
  (mono:∀i j,i<=j->j<n->G j=true->G i=true)
  (h:∀k,k<=n->(∀i,i<k->G i=true)->(∀i,k<=i->i<n->G i=false)->Q ↥k st):wpS (model prog w) A E s (Aq left l arr base n hint) Q st:=by
 have O:∀i,i<n->∀(N:Option Bool->f7->Prop),N ↥(G i) st->wpS (model prog w) A E s (do let x <- elem' arr (base+i);if left then lt' x l else return (<- lt' l x).map (!·)) N st:=λi hi N S=>by
  ext(⟨x,r,H,q⟩:hb i hi);refine aaB (bC r ?_);rw[<- q]at S;cases left with
  |true=>exact L x l H V st N hk S
  |false=>exact aaB (L l x V H st _ hk (aau S))
 have U:∀i j,i<=j->j<n->G i=false->G j=false:=λi j cT hj e=>by
  cases e':G j with
  |false=>rfl
  |true=>rw[mono i j cT hj e']at e;cases e
 clear hb;refine aaB (O hint D _ ?_);dsimp -zeta only
 extract_lets M C W
 have fin:∀a b lo hi,Bs G n 0 lo hi->wpS (model prog w) A E s (M () a b lo hi) Q st:=by
  intro a b lo hi p;dsimp only[M];clear M;refine aaB (acT (abe (I:=λx=>GI (Bs G n x) st) (Q:=GI (λa b=>a=b/\Bs G n 0 a b) st) ?_ ?_ ⟨p⟩) ?_)
  ·rintro x c B _ X @⟨lo,hi,p⟩;dsimp only;by_cases J:lo ≥ hi
   ·exact[zac J]\aau ⟨acr p.le J,p.le,p.hn,adt p.hn (aa6 _),p.t,p.f⟩
   ·rw[zab J];ext(⟨R,K⟩:OL J);generalize lo+(hi - lo) / 2=m at R K ⊢;ext(P:aao K p.hn);refine aaB (O m P _ ?_);dsimp only;cases e:G m with
    |true=>exact aau ⟨K,p.hn,aeB (aav p.m (aaP R _)),λi z=>mono i m (abp z) P e,p.f⟩
    |false=>exact aau ⟨R,abh P,aav ([-zbK]\acs K _) p.m,p.t,λi z T=>U m i z T e⟩
  ·rintro c B ⟨p⟩;exact⟨acr p.le (by have:=p.m;rw[zcb]at this;left),p.le,p.hn,adt p.hn (aa6 _),p.t,p.f⟩
  ·rintro c B ⟨rfl,p⟩;exact aau (h _ p.hn p.t p.f)
 clear_value M
 clear h;cases eh:G hint with
 |true =>
  refine br rfl ?_;ext(⟨d,rfl⟩:aa7 (abh D));have e:C=d:=KM _ _
  clear_value C
  subst e;refine aaB (acT (abe (I:=λx=>GI (λg of=>g<of/\x+1<=of/\g<C/\∀i,i<=hint+g->G i=true) st)
   (Q:=GI (λg of=>g<of/\g<C/\(∀i,i<=hint+g->G i=true)/\(C<=of\/G (hint+of)=false)) st) ?_ ?_ ⟨jb,aat _,abL D,λi hi=>mono i hint hi D eh⟩) ?_)
  ·rintro x c B _ X @⟨g,of,r,H,q,u⟩;dsimp only;by_cases v:of ≥ C
   ·exact[zac v]\aau ⟨r,q,u,.inl v⟩
   ·rw[zab v];ext(hd:ad1 v)(Y:aaY hd hint);refine aaB (O (hint+of) Y _ ?_);dsimp only;cases e:G (hint+of)with
    |true=>exact aau ⟨by left,by left,hd,λi hi=>mono i _ hi Y e⟩
    |false=>exact aau ⟨r,q,u,.inr e⟩
  ·rintro c B ⟨r,H,q,u⟩;exact⟨r,q,u,.inl ⋯⟩
  ·rintro c B @⟨g,of,r,q,u,y⟩;refine fin _ _ _ _ ⟨aaP (HS.mpr ⟨r,q⟩) _,aaP (Nat.min_le_right _ _) _,by left,λi hi=>u i (abp hi),λi hi z=>?_⟩;ext((o|o):abO of C)
   ·rw[zaH (zcc o)]at hi;exact U _ i hi z (y.resolve_left (VX.mpr o))
   ·rw[zbL o]at hi;exact absurd z (lZ.mpr hi)
 |false =>
  refine bx aaj ?_;have e:W=hint+1:=rfl
  clear_value W
  subst e;refine aaB (acT (abe (I:=λx=>GI (λg of=>g<of/\x+1<=of/\g<=hint/\G (hint - g)=false) st)
   (Q:=GI (λg of=>g<of/\g<=hint/\G (hint - g)=false/\(hint+1<=of\/(of<=hint/\G (hint - of)=true))) st) ?_ ?_ ⟨jb,aat _,aa6 _,eh⟩) ?_)
  ·rintro x c B _ X @⟨g,of,r,H,q,u⟩;dsimp only;by_cases v:of ≥ hint+1
   ·exact[zac v]\aau ⟨r,q,u,.inl v⟩
   ·rw[zab v];ext(hd:abp (ad1 v));refine aaB (O (hint - of) (aaZ (acu _ _) D) _ ?_);dsimp only;cases e:G (hint - of)with
    |false=>exact aau ⟨by left,by left,hd,e⟩
    |true=>exact aau ⟨r,q,u,.inr ⟨hd,e⟩⟩
  ·rintro c B ⟨r,H,q,u⟩;exact⟨r,q,u,.inl ⋯⟩
  ·rintro c B @⟨g,of,r,q,u,y⟩;have Z:hint - g<n:=aaZ (acu _ _) D;refine fin _ _ _ _ ⟨?_,abh Z,Nat.le_add_right_of_le (abh Z),λi hi=>?_,λi hi z=>U _ i hi z u⟩
   ·show hint+1 - min of (hint+1)<=hint - g;exact[-Nat.add_sub_add_right hint 1 g]\Nat.sub_le_sub_left (HS.mpr ⟨r,aeB q⟩) _
   ·ext((y|⟨y,h6⟩):y)
    ·rw[zbL y,zbM]at hi;cases hi
    ·rw[zaH (Wp y),Nat.succ_sub y]at hi;exact mono i _ (abp hi) (aaZ (acu _ _) D) h6
end
meta def R(F:Keyed->Int)(xs:Array Keyed)(i:Nat):Int:=match xs[i]? with
 |some p=>F p
 |none=>0
def fO{F:Keyed->Int}{xs a:Array Keyed}{i j:Nat}(h:xs[i]?=a[j]?):R F xs i=R F a j:=by unfold R;rw[h]
def On(F:Keyed->Int)(xs:Array Keyed)(lo hi:Nat):Prop:=∀i j,lo<=i->i<=j->j<hi->R F xs i<=R F xs j
structure SB(a₀:Array Keyed)(κ:hW)(st:f7):Prop where
 perm:(arrOf st).Perm a₀
 kind:kindOf st=κ
 failed:se st=none
theorem SB.size{a:Array Keyed}{b:hW}{st:f7}(h:SB a b st):(arrOf st).size=a.size:=h.perm.size_eq
def SB.at{a:Array Keyed}{b:hW}{st:f7}(h:SB a b st){i:Nat}(hi:i<a.size):∃x,(arrOf st)[i]?=↥x/\x∈a.toList:=by
 have c:i<(arrOf st).size:=[h.size]\hi
 exact⟨(arrOf st)[i],aeC _ i c,(ip.mp h.perm).mem_iff.mp ⇑5⟩
def gk{F:Keyed->Int}{xs:Array Keyed}{i:Nat}{x:Keyed}(h:xs[i]?=↥x):R F xs i=F x:=by unfold R;rw[h]
structure CN(a₀:Array Keyed)(κ:hW)(lo hi:Nat)(st bj:f7):Prop where
 sb:SB a₀ κ bj
 pend:d5 bj=d5 st
 out:∀i,i<lo\/hi<=i->(arrOf bj)[i]?=(arrOf st)[i]?
section
variable {a₀:Array Keyed}{κ:hW}{F:Keyed->Int}
def CN.qR{st:f7}(h:SB a₀ κ st):CN a₀ κ lo hi st st:=⟨h,rfl,λ_ _=>rfl⟩
theorem CN.trans{lo hi:Nat}{st a b:f7}(h:CN a₀ κ lo hi st a)(h':CN a₀ κ lo hi a b):CN a₀ κ lo hi st b:=⟨h'.sb,h'.pend.trans h.pend,λi hi=>(h'.out i hi).trans (h.out i hi)⟩
def CN.arr{st:f7}{xs:Array Keyed}(h:SB a₀ κ st)(a:xs.Perm (arrOf st))(b:∀i,i<lo\/hi<=i->xs[i]?=(arrOf st)[i]?):CN a₀ κ lo hi st (Vt st xs):=⟨⟨a.trans h.perm,h.kind,h.failed⟩,rfl,b⟩
def On.out{xs a:Array Keyed}(h:On F xs lo hi)(e:∀i,lo<=i->i<hi->a[i]?=xs[i]?):On F a lo hi:=λi j hi c b=>by
 exact[fO (e i hi ⋯),fO (e j ⋯ b)]\h i j hi c b
def iO{xs:Array Keyed}{n:Nat}:On F xs lo (lo+n) ↔ ∀i j,i<=j->j<n->R F xs (lo+i)<=R F xs (lo+j) :=
 ⟨λh i j a b=>h _ _ (aaS _ _) (aaP a _) (aaY b _),λh i j hi a b=>by
  ext(⟨i,rfl⟩:aa7 hi)(⟨j,rfl⟩:aa7 (aav hi a));exact h i j (adC a) (abL b)⟩
def uL{xs:Array Keyed}{k l:Nat}(b:lo+k<xs.size)(a:l<=k)(i:Nat):(yam xs (lo+k) (lo+k - (lo+l)))[i]?=if i=lo+l then xs[lo+k]? else if lo+l<i/\i<=lo+k then xs[i - 1]? else xs[i]?:=by
 have e:=getElem?_bubble b (lo+k - (lo+l)) (acu _ _) i;rw[Nat.sub_sub_self (zbi a _)]at e;exact e
def Ro{xs:Array Keyed}{k l:Nat}(h:lo+k<xs.size)(f:l<=k)(hs:∀i j,i<=j->j<k->R F xs (lo+i)<=R F xs (lo+j))(q:∀i,i<l->R F xs (lo+i)<=R F xs (lo+k))(p:∀i,l<=i->i<k->R F xs (lo+k)<R F xs (lo+i)):On F (yam xs (lo+k) (lo+k - (lo+l))) lo (lo+(k+1)):=by
 have e:∀i,i<l->R F (yam xs (lo+k) (lo+k - (lo+l))) (lo+i)=R F xs (lo+i):=λi hi=>fO (by
  have:=aaY hi lo;rw[uL h f,zab (zbG this),zab λz=>ybO this z.1])
 have g:R F (yam xs (lo+k) (lo+k - (lo+l))) (lo+l)=R F xs (lo+k):=fO ⇑[uL h f,zac rfl];have n:∀i,l<=i->i<k->R F (yam xs (lo+k) (lo+k - (lo+l))) (lo+(i+1))=R F xs (lo+i):=λi hi r=>fO (by
  have:=aaY (Nat.lt_succ_of_le hi) lo;rw[uL h f,zab (zbt this),zac ⟨this,zbi r _⟩];rfl)
 generalize yam xs (lo+k) (lo+k - (lo+l))=B at e g n ⊢;refine iO.mpr λi j b a=>?_;ext((c|rfl|c):adR j l)
 ·exact[e j c,e i (zaZ b c)]\hs i j b (aao c f)
 ·rw[g];ext((d|rfl):acL b)
  ·exact[e i d]\q i d
  ·exact[g]\acS _
 ·ext(⟨j,rfl⟩:abf (aaT (ac8 c)))(m:abp c)(a:MF a);rw[show lo+j.succ=lo+(j+1) from rfl,n j m a];ext((d|rfl|d):adR i l)
  ·exact[e i d]\hs i j (aav (abh d) m) a
  ·exact[g]\acv (p j m a)
  ·ext(⟨i,rfl⟩:abf (aaT (ac8 d)))(b:MH b);rw[show lo+i.succ=lo+(i+1) from rfl,n i (Wr d) (zaZ b a)];exact hs i j b a
def ZX{l r:Nat}(h:¬ l ≥ r):l<=(l+r) / 2/\(l+r) / 2<r:=by left
structure Pl(F:Keyed->Int)(xs:Array Keyed)(lo k x l r:Nat):Prop where
 le:l<=r
 rk:r<=k
 m:r+x<=k+l
 a:∀i,i<l->R F xs (lo+i)<=R F xs (lo+k)
 b:∀i,r<=i->i<k->R F xs (lo+k)<R F xs (lo+i)
def HD{xs:Array Keyed}{i j:Nat}(a:j<=xs.size)(k:Nat):R F (yal xs i j ((j - i) / 2)) k=if i<=k/\k<j then R F xs (i+j - 1 - k)else R F xs k:=by
 have e:=YP (i:=i) a k;by_cases h:i<=k/\k<j
 ·rw[zac h]at e ⊢;exact fO e
 ·rw[zab h]at e ⊢;exact fO e
end
section
variable {prog:aG}{w:World}{A:aF}{E:aB}{s:ap}{κ:hW}{a₀:Array Keyed}{F:Keyed->Int}(L:rm prog w A E s κ a₀ F)
include L
theorem jS{st:f7}{i j:Nat}{Q:Option Bool->f7->Prop}(a:SB a₀ κ st)(hi:i<a₀.size)(d:j<a₀.size)(h:Q ↥(decide (R F (arrOf st) i<R F (arrOf st) j)) st):wpS (model prog w) A E s (ltAt' i j) Q st:=by
 ext(⟨x,e1,c⟩:a.at hi)(⟨y,e2,b⟩:a.at d);rw[gk e1,gk e2]at h;rw[ltAt'_eq];refine aaB (adz (aaB (bC e1 (aaB (bC e2 ?_)))));exact L x y c b st Q a.kind h
theorem Ip{st:f7}{n ok:Nat}{Q:Bool->f7->Prop}(hn:lo+n<=a₀.size)(S:ok<=n)(H:SB a₀ κ st)(hs:On F (arrOf st) lo (lo+ok))
  (h:∀d,CN a₀ κ lo (lo+n) st d->On F (arrOf d) lo (lo+n)->Q true d):wpS (model prog w) A E s (binarySort' lo n ok) Q st:=by
 rw[binarySort'_eq];refine aaB (acT (abe (I:=λk c d=>c=(none,())/\CN a₀ κ lo (lo+n) st d/\On F (arrOf d) lo (lo+min k n))
  (Q:=λc d=>c=(none,())/\CN a₀ κ lo (lo+n) st d/\On F (arrOf d) lo (lo+n)) ?step ?fin ?init) ?post)
 case post =>
  rintro c d ⟨rfl,f,g⟩;exact aau (h d f g)
 case init =>
  refine⟨rfl,.qR H,iO.mpr λi j J t=>?_⟩;ext(t:aao t (yaa _ _))((rfl|q):Nat.eq_zero_or_pos ok)
  ·obtain rfl:j=0:=Gc.mp t;ext(rfl:Nat.le_zero.mp J);exact acS _
  ·rw[Nat.max_eq_left q]at t;exact iO.mp hs i j J t
 case fin =>
  rintro c d ⟨N,f,g⟩;refine⟨N,f,?_⟩
  rwa [XY (Nat.le_max_right _ _)]at g
 case step =>
  clear h hs H;rintro k c d O B ⟨rfl,f,g⟩;rw[zaH (zcc B)]at g;ext(g:iO.mp g);have D:lo+k<a₀.size:=aao (aaY B _) hn;refine aaB (acT (abe (I:=λx=>GI (Pl F (arrOf d) lo k x) d) (Q:=GI (λl r=>l=r/\Pl F (arrOf d) lo k 0 l r) d) ?istep ?ifin ⟨aa6 _,aat _,aat _,nofun,λi q G=>absurd G (lZ.mpr q)⟩) ?ipost)
  case ifin =>
   rintro c M ⟨p⟩;have e:=p.m;have P:=p.le;exact⟨by left,P,p.rk,adt p.rk (aa6 _),p.a,p.b⟩
  case istep =>
   rintro x c M _ T @⟨l,r,p⟩;dsimp only;by_cases u:l ≥ r
   ·exact[zac u]\aau ⟨acr p.le u,p.le,p.rk,adt p.rk (aa6 _),p.a,p.b⟩
   ·rw[zab u];ext(⟨C,v⟩:ZX u);generalize (l+r) / 2=m at C v ⊢;ext(mk:aao v p.rk);refine aaB (jS L f.sb D (ade (aaY mk _) D) ?_);by_cases y:R F (arrOf d) (lo+k)<R F (arrOf d) (lo+m)
    ·simp only[y,decide_true,if_true];exact aau ⟨C,abh mk,aav ([-zbK]\acs v _) p.m,p.a,λi q G=>Int.lt_of_lt_of_le y (g m i q G)⟩
    ·simp only[y,decide_false,zaq,if_false];exact aau ⟨v,p.rk,aeB (aav p.m (aaP C _)),λi q=>abP (g i m (abp q) mk) (wT.mp y),p.b⟩
  case ipost =>
   rintro c M @⟨l,_,rfl,p⟩;show wpS _ _ _ _ (do moveDown' (lo+k) (lo+l);pure (lm (none,()))) _ _;rw[moveDown'_eq];have K:lo+k<(arrOf d).size:=[f.sb.size]\D
   refine aaB (adK (aau ⟨rfl,f.trans (.arr f.sb (bubble_perm _ _ _) λi hi=>?_),?_⟩))
   ·rw[uL K p.rk];ext((hi|hi):hi)
    ·have:=aao hi (aaS lo l);rw[zab (zbG this),zab λz=>ybO this z.1]
    ·have:=aao (aaY B lo) hi;rw[zab (zbt (zaZ (zbi p.rk _) this)),zab λz=>absurd z.2 (VX.mpr this)]
   ·exact[zaH B]\Ro K p.rk g p.a p.b
end
structure W_(a₀:Array Keyed)(F:Keyed->Int):Prop where
 nd:a₀.toList.Nodup
 inj:∀x∈a₀.toList,∀y∈a₀.toList,F x=F y->x=y
def W_.ne{a:Array Keyed}{F:Keyed->Int}{d:hW}(D:W_ a F){st:f7}(b:SB a d st){i j:Nat}(hi:i<a.size)(c:j<a.size)(h:i≠j):R F (arrOf st) i≠R F (arrOf st) j:=by
 ext(⟨x,e1,g⟩:b.at hi)(⟨y,e2,f⟩:b.at c);rw[gk e1,gk e2];intro z;ext(e:D.inj x g y f z);subst e;have nd:(arrOf st).toList.Nodup:=(ip.mp b.perm).nodup_iff.mpr D.nd;have k:i<(arrOf st).toList.length:=by simpa [b.size]using hi
 have l:j<(arrOf st).toList.length:=by simpa [b.size]using c
 have a1:(arrOf st).toList[i]?=↥x:=⇑e1
 have a2:(arrOf st).toList[j]?=↥x:=⇑e2
 exact h ((List.getElem?_inj k nd).mp (a1.trans a2.symm))
def dM{p:Prop}[Decidable p](h:¬ p):¬ decide p=true:=λz=>h (aag z)
section
variable {F:Keyed->Int}{xs:Array Keyed}{lo:Nat}
def zZ{y:Nat}(hs:On F xs lo (lo+(y+1)))(b:¬ R F xs (lo+(y+1))<R F xs (lo+y)):On F xs lo (lo+(y+2)):=by
 ext(hs:iO.mp hs);refine iO.mpr λi j a e=>?_;rcases acL (abp e)with c|rfl
 ·exact hs i j a c
 ·ext((d|rfl):acL a)
  ·exact abP (hs i y (abp d) (abd _)) (wT.mp b)
  ·exact acS _
def OC:On F xs lo (lo+1):=iO.mpr λi j b a=>by
 ext(rfl:Gc.mp a)(rfl:Nat.le_zero.mp b);exact acS _
def Fa(F:Keyed->Int)(xs:Array Keyed)(lo n:Nat):Prop:=∀i j,i<j->j<n->R F xs (lo+j)<R F xs (lo+i)
def Ax{y:Nat}(hd:Fa F xs lo (y+1))(a:R F xs (lo+(y+1))<R F xs (lo+y)):Fa F xs lo (y+2):=λi j b e=>by
 rcases acL (abp e)with c|rfl
 ·exact hd i j b c
 ·rcases acL (abp b)with d|rfl
  ·exact Int.lt_trans a (hd i y d (abd _))
  ·exact a
def QG{m:Nat}(hd:Fa F xs lo m)(hz:lo+m<=xs.size):On F (yal xs lo (lo+m) ((lo+m - lo) / 2)) lo (lo+m):=by
 have e:∀i,i<m->∃k,k+i+1=m/\R F (yal xs lo (lo+m) ((lo+m - lo) / 2)) (lo+i)=R F xs (lo+k):=λi hi=>by
  ext(⟨k,rfl⟩:Nat.exists_eq_add_of_lt hi);refine⟨k,by rw[zbq k i],?_⟩;rw[HD hz,zac ⟨zaM _ _,zbv hi _⟩];congr 1;left
 refine iO.mpr λi j c b=>?_;ext(⟨k,l,g⟩:e i (aaZ c b))(⟨a,h,f⟩:e j b);rw[g,f];ext((d|rfl):acL c)
 ·exact acv (hd a k ⋯ ⋯)
 ·obtain rfl:k=a:=by left
  exact acS _
end
section
variable {prog:aG}{w:World}{A:aF}{E:aB}{s:ap}{κ:hW}{a₀:Array Keyed}{F:Keyed->Int}(L:rm prog w A E s κ a₀ F)
include L
theorem Bg(D:W_ a₀ F){st:f7}{g:Nat}{Q:Option Nat->f7->Prop}(hn:lo+g<=a₀.size)(u:1<=g)(p:SB a₀ κ st)
  (h:∀m d,CN a₀ κ lo (lo+g) st d->1<=m->m<=g->On F (arrOf d) lo (lo+m)->Q ↥m d):wpS (model prog w) A E s (countRun' lo g) Q st:=by
 have sz:∀{i},i<g->lo+i<a₀.size:=λhi=>aao (aaY hi _) hn;rw[countRun'_eq];refine aaB (acT (abe (I:=λx c d=>st=d/\c=(none,x)/\On F (arrOf st) lo (lo+x))
  (Q:=λc d=>st=d/\∃n,c=(none,n+1)/\n+1<=g/\On F (arrOf st) lo (lo+(n+1))/\(n+1=g\/R F (arrOf st) (lo+(n+1))<R F (arrOf st) (lo+n))) ?_ ?_ ⟨rfl,rfl,OC⟩) ?_)
 ·rintro x c d r f ⟨rfl,rfl,e⟩;ext(⟨x,rfl⟩:abf (aaT r));dsimp only;refine aaB (jS L p (sz f) (sz (abW f)) ?_);by_cases k:R F (arrOf st) (lo+(x+1))<R F (arrOf st) (lo+x)
  ·refine br (abg k) ?_;exact aau ⟨rfl,x,rfl,abh f,e,.inr k⟩
  ·refine bx (dM k) ?_;exact aau ⟨rfl,rfl,zZ e k⟩
 ·rintro c d ⟨rfl,rfl,e⟩;rw[zbN u]at e ⊢;ext(⟨n,rfl⟩:abf (aaT u));exact⟨rfl,n,rfl,aat _,e,.inl rfl⟩
 rintro c d ⟨rfl,n,rfl,l,e,G⟩;dsimp only;by_cases v:n+1=g
 ·rw[zac ⇑v];exact aau (h _ st (.qR p) (aeD _) l e)
 rw[zab ⇑v];ext(T:G.resolve_left v);by_cases B:n+1>1
 ·rw[zac B];refine aaB (jS L p (sz (i:=0) u) (sz l) ?_);have O:R F (arrOf st) lo<R F (arrOf st) (lo+n):=by
   ext(a:iO.mp e 0 n (aa6 _) (abd _))(b:D.ne p (i:=lo) (j:=lo+n) (sz (i:=0) u) (sz l) (aax (adQ (MF B))));exact P6.mpr ⟨a,b⟩
  refine br (abg O) ?_;exact aau (h _ st (.qR p) (aeD _) l e)
 rw[zab B];obtain rfl:n=0:=acJ λz=>B (Nat.succ_lt_succ z);have l:1<g:=acM l v;refine aaB (yy (acH ⟨rfl,?_⟩));refine aaB (acT (abe (I:=λx c d=>st=d/\c=(none,x,0)/\Fa F (arrOf st) lo x)
  (Q:=λc d=>st=d/\∃m,c=(none,m,0)/\2<=m/\m<=g/\Fa F (arrOf st) lo m) ?_ ?_ ⟨rfl,rfl,Ax (y:=0) (λi j h S=>absurd (Gc.mp S) (aaT (ac8 h))) T⟩) ?_)
 ·rintro x c d r f ⟨rfl,rfl,hd⟩;ext(⟨x,rfl⟩:abf (aaT (ac8 r)));dsimp only;refine aaB (jS L p (sz f) (sz (abW f)) ?_);by_cases k:R F (arrOf st) (lo+(x+1))<R F (arrOf st) (lo+x)
  ·refine br (abg k) ?_;exact[zab (KB 0)]\aau ⟨rfl,rfl,Ax hd k⟩
  ·refine bx (dM k) ?_;refine aaB (jS L p (sz (abW f)) (sz f) ?_);have P:R F (arrOf st) (lo+x)<R F (arrOf st) (lo+(x+1)) :=
    P6.mpr ⟨wT.mp k,D.ne p (i:=lo+x) (j:=lo+(x+1)) (sz (abW f)) (sz f) (aax (abd _))⟩
   refine br (abg P) ?_;exact aau ⟨rfl,_,rfl,r,abh f,hd⟩
 ·rintro c d ⟨rfl,rfl,hd⟩;rw[zbN l]at hd ⊢;exact⟨rfl,g,rfl,l,aat _,hd⟩
 rintro c d ⟨rfl,m,rfl,N,C,hd⟩;dsimp only;rw[zab (KB 0)];have t:lo+m<=(arrOf st).size:=[p.size]\aav (aaP C _) hn
 refine aaB (wpS_reverse ?_);have H:CN a₀ κ lo (lo+g) st (Vt st (yal (arrOf st) lo (lo+m) ((lo+m - lo) / 2))):=.arr p (mirror_perm _ _ _ _) λi hi=>by
  rw[YP t,zab λz=>hi.elim (λy=>absurd z.1 (VX.mpr y)) λy=>absurd (zbl z.2 (zbi C _)) (lZ.mpr y)]
 have K:On F (arrOf (Vt st (yal (arrOf st) lo (lo+m) ((lo+m - lo) / 2)))) lo (lo+m):=QG hd t;generalize Vt st (yal (arrOf st) lo (lo+m) ((lo+m - lo) / 2))=q at H K ⊢;refine aaB (acT (abe (I:=λx c d=>q=d/\c=(none,x)/\On F (arrOf q) lo (lo+x))
  (Q:=λc d=>q=d/\∃n,c=(none,n)/\1<=n/\n<=g/\On F (arrOf q) lo (lo+n)) ?_ ?_ ⟨rfl,rfl,K⟩) ?_)
 ·rintro x c d r f ⟨rfl,rfl,e⟩;ext(J:aao (aao jb (ac9 N)) r)(⟨x,rfl⟩:abf (aaT J));dsimp only;refine aaB (jS L H.sb (sz f) (sz (abW f)) ?_);by_cases k:R F (arrOf q) (lo+(x+1))<R F (arrOf q) (lo+x)
  ·refine br (abg k) ?_;exact aau ⟨rfl,_,rfl,J,abh f,e⟩
  ·refine bx (dM k) ?_;exact aau ⟨rfl,rfl,zZ e k⟩
 ·rintro c d ⟨rfl,rfl,e⟩;rw[zbN C]at e ⊢;exact⟨rfl,g,rfl,u,aat _,e⟩
 rintro c d ⟨rfl,n,rfl,M,l,e⟩;exact aau (h n q H M l e)
end
def Pw(F:Keyed->Int)(l:List Keyed):Prop:=l.Pairwise λx y=>F x<=F y
structure J(F:Keyed->Int)(la lb o:List Keyed)(ia ib:Nat):Prop where
 perm:(o++(la.drop ia++lb.drop ib)).Perm (la++lb)
 so:Pw F o
 xa:∀x∈o,∀y∈la.drop ia,F x<=F y
 xb:∀x∈o,∀y∈lb.drop ib,F x<=F y
def Res(F:Keyed->Int)(b a:List Keyed)(r:Array Keyed):Prop:=r.toList.Perm (b++a)/\Pw F r.toList
section
variable {F:Keyed->Int}{la lb o:List Keyed}{ia ib:Nat}
def G1(l:List Keyed)(i k:Nat):l.drop i=(l.drop i).take k++l.drop (i+k):=by
 rw[<- zbX,zbc]
def Pw.dr{l:List Keyed}(h:Pw F l)(i:Nat):Pw F (l.drop i):=h.sublist (List.drop_sublist i l)
def J.vq(H:J F la lb o ia ib)(sa:Pw F la)(k:Nat)(d:∀x∈(la.drop ia).take k,∀y∈lb.drop ib,F x<=F y):J F la lb (o++(la.drop ia).take k) (ia+k) ib:=by
 ext(e:G1 la ia k)(c:sa.dr ia);rw[e]at c;ext(⟨t1,t2,t3⟩:dL.mp c);refine⟨?_,dL.mpr ⟨H.so,t1,λx a y b=>H.xa x a y (abU b)⟩,λx a y b=>?_,λx a y b=>?_⟩
 ·have:=H.perm;rw[e,zai]at this;exact[zai]\this
 ·ext((a|a):c0.mp a)
  ·exact H.xa x a y ([e]\aay _ b)
  ·exact t3 x a y b
 ·ext((a|a):c0.mp a)
  ·exact H.xb x a y b
  ·exact d x a y b
def J.vp(H:J F la lb o ia ib)(sb:Pw F lb)(k:Nat)(d:∀x∈(lb.drop ib).take k,∀y∈la.drop ia,F x<=F y):J F la lb (o++(lb.drop ib).take k) ia (ib+k):=by
 ext(e:G1 lb ib k)(c:sb.dr ib);rw[e]at c;ext(⟨t1,t2,t3⟩:dL.mp c);refine⟨?_,dL.mpr ⟨H.so,t1,λx a y b=>H.xb x a y (abU b)⟩,λx a y b=>?_,λx a y b=>?_⟩
 ·have:=H.perm;rw[e]at this;exact[zai]\(adu o (List.perm_append_comm_assoc _ _ _)).trans this
 ·ext((a|a):c0.mp a)
  ·exact H.xa x a y b
  ·exact d x a y b
 ·ext((a|a):c0.mp a)
  ·exact H.xb x a y ([e]\aay _ b)
  ·exact t3 x a y b
def J.done(H:J F la lb o ia ib)(sa:Pw F la)(sb:Pw F lb)(a:lb.drop ib=[]\/la.drop ia=[]):(o++la.drop ia++lb.drop ib).Perm (la++lb)/\Pw F (o++la.drop ia++lb.drop ib):=by
 refine⟨[zai]\H.perm,?_⟩;ext((e|e):a)
 ·exact[e,zav]\dL.mpr ⟨H.so,sa.dr ia,H.xa⟩
 ·exact[e,zav]\dL.mpr ⟨H.so,sb.dr ib,H.xb⟩
def J.last(H:J F la lb o ia ib)(sa:Pw F la)(sb:Pw F lb)(c:∀y∈lb.drop ib,∀z∈la.drop ia,F y<=F z):(o++lb.drop ib++la.drop ia).Perm (la++lb)/\Pw F (o++lb.drop ib++la.drop ia):=by
 refine⟨?_,?_⟩
 ·exact[zai]\(adu o ad3).trans H.perm
 ·refine dL.mpr ⟨dL.mpr ⟨H.so,sb.dr ib,H.xb⟩,sa.dr ia,λx a y b=>?_⟩;ext((a|a):c0.mp a)
  ·exact H.xa x a y b
  ·exact c x a y b
end
def take1{l:List Keyed}{i:Nat}{x:Keyed}(h:l[i]?=↥x):(l.drop i).take 1=[x]:=by
 obtain⟨hi,rfl⟩:=bn.mp h;rw[zax hi];rfl
def pH{l:List Keyed}{i:Nat}{y:Keyed}(h:y∈l.drop i):∃j,l[i+j]?=↥y:=by
 ext(⟨j,a⟩:g8.mp h);exact⟨j,[-nZ]\a⟩
def oj{l:List Keyed}{i k:Nat}{y:Keyed}(h:y∈(l.drop i).take k):∃j,j<k/\l[i+j]?=↥y:=by
 ext(⟨j,a⟩:g8.mp h);rw[nR]at a;split at a
 ·next b=>exact⟨j,b,[-nZ]\a⟩
 ·cases a
structure aL(st bj:f7):Prop where
 a:arrOf bj=arrOf st
 p:d5 bj=d5 st
 k:kindOf bj=kindOf st
 f:se bj=se st
def aL.qR(st:f7):aL st st:=⟨rfl,rfl,rfl,rfl⟩
theorem aL.trans{a b c:f7}(h:aL a b)(h':aL b c):aL a c:=⟨h'.a.trans h.a,h'.p.trans h.p,h'.k.trans h.k,h'.f.trans h.f⟩
def ext_toList(a:Array Keyed)(i j:Nat):(a.extract i j).toList=(a.toList.drop i).take (j - i):=by simp
def Ay(a:Array Keyed)(i:Nat):(a.extract i a.size).toList=a.toList.drop i:=by
 exact[ext_toList]\KP ⇑5
meta def Fb:Array Keyed->Array Keyed->StateT f7 Sem (Array Keyed):=sortPriv% PySem.Builtin.mergeLo
section
variable {F:Keyed->Int}{a b out:Array Keyed}{ia ib:Nat}
def gS{a:Array Keyed}{i:Nat}(h:i<a.size):∃x,a[i]?=↥x/\x∈a.toList:=⟨a[i],aeC a i h,by simp⟩
def xR{a:Array Keyed}{i:Nat}{x:Keyed}(h:a[i]?=↥x):a.toList[i]?=↥x:=⇑h
def BJ{a:Array Keyed}{i:Nat}{x:Keyed}(h:a.toList[i]?=↥x):a[i]?=↥x:=⇑h
def Pw.ix(sa:Pw F a.toList){i j:Nat}{x y:Keyed}(f:i<=j)(d:a[i]?=↥x)(c:a[j]?=↥y):F x<=F y:=by
 obtain⟨hi,rfl⟩:=bn.mp (xR d);obtain⟨e,rfl⟩:=bn.mp (xR c);ext((h|h):abO i j)
 ·exact gr.mp sa i j hi e h
 ·have:i=j:=by left
  subst this;exact acS _
def Pw.hd(sa:Pw F a.toList){i:Nat}{x:Keyed}(d:a[i]?=↥x):∀z∈a.toList.drop i,F x<=F z:=λz c=>by
 ext(⟨j,e⟩:pH c);exact sa.ix ⋯ d (BJ e)
def D8(H:J F a.toList b.toList out.toList ia ib)(sa:Pw F a.toList)(sb:Pw F b.toList)(c:b.size<=ib\/a.size<=ia):Res F a.toList b.toList (out++a.extract ia a.size++b.extract ib b.size):=by
 unfold Res;simp only[zaB,Ay];exact H.done sa sb (c.imp (λh=>adV ⇑h) λh=>adV ⇑h)
def Ji(H:J F a.toList b.toList out.toList ia ib)(sa:Pw F a.toList)(sb:Pw F b.toList)(e:ia+1=a.size)(g:∀y∈b.toList,∀z,a[a.size - 1]?=↥z->F y<=F z):Res F a.toList b.toList (out++b.extract ib b.size++a.extract ia a.size):=by
 unfold Res;simp only[zaB,Ay];refine H.last sa sb λy f z d=>?_;ext(⟨j,c⟩:pH d);have h:ia+j<a.size:=by
  obtain⟨hi,_⟩:=bn.mp c;simpa using hi
 have:ia+j=a.size - 1:=by left
 rw[this]at c;exact g y (ady f) z (BJ c)
def J.T5(H:J F a.toList b.toList out.toList ia ib)(sb:Pw F b.toList){y:Keyed}(c:b[ib]?=↥y)(f:∀z∈a.toList.drop ia,F y<=F z):J F a.toList b.toList (out.push y).toList ia (ib+1):=by
 have:=H.vp sb 1 λx d z e=>by
  rw[take1 (xR c),zaN]at d;subst d;exact f z e
 rw[take1 (xR c)]at this;exact[zaI]\this
def J.Xx(H:J F a.toList b.toList out.toList ia ib)(sa:Pw F a.toList){x:Keyed}(d:a[ia]?=↥x)(f:∀z∈b.toList.drop ib,F x<=F z):J F a.toList b.toList (out.push x).toList (ia+1) ib:=by
 have:=H.vq sa 1 λy c z e=>by
  rw[take1 (xR d),zaN]at c;subst c;exact f z e
 rw[take1 (xR d)]at this;exact[zaI]\this
def J.exA(H:J F a.toList b.toList out.toList ia ib)(sa:Pw F a.toList)(k:Nat)(g:∀i x,i<k->a[ia+i]?=↥x->∀z∈b.toList.drop ib,F x<=F z):J F a.toList b.toList (out++a.extract ia (ia+k)).toList (ia+k) ib:=by
 rw[zaB,ext_toList,show ia+k - ia=k by left];exact H.vq sa k λx d z c=>by
  ext(⟨j,f,e⟩:oj d);exact g j x f (BJ e) z c
def J.exB(H:J F a.toList b.toList out.toList ia ib)(sb:Pw F b.toList)(k:Nat)(g:∀i x,i<k->b[ib+i]?=↥x->∀z∈a.toList.drop ia,F x<=F z):J F a.toList b.toList (out++b.extract ib (ib+k)).toList ia (ib+k):=by
 rw[zaB,ext_toList,show ib+k - ib=k by left];exact H.vp sb k λx d z c=>by
  ext(⟨j,f,e⟩:oj d);exact g j x f (BJ e) z c
end
section
variable {prog:aG}{w:World}{A:aF}{E:aB}{s:ap}{κ:hW}{a₀:Array Keyed}{F:Keyed->Int}(L:rm prog w A E s κ a₀ F)
include L
theorem fR{left:Bool}{a:Keyed}{arr:Array Keyed}{n:Nat}{st:f7}{Q:Option Nat->f7->Prop}(l:kindOf st=κ)(f:a∈a₀.toList)(p:hint<n)(hn:base+n<=arr.size)(g:∀i x,base<=i->i<base+n->arr[i]?=↥x->x∈a₀.toList)
  (hs:∀i j x y,base<=i->i<=j->j<base+n->arr[i]?=↥x->arr[j]?=↥y->F x<=F y)
  (h:∀k,k<=n->(∀i x,i<k->arr[base+i]?=↥x->if left then F x<F a else F x<=F a)->(∀i x,k<=i->i<n->arr[base+i]?=↥x->if left then F a<=F x else F a<F x)->Q ↥k st):wpS (model prog w) A E s (Aq left a arr base n hint) Q st:=by
 have c:∀i,i<n->∃x,arr[base+i]?=↥x:=λi hi=>⟨arr[base+i]'⋯,aeC _ _ _⟩
 refine xH L (G:=λi=>if left then decide (R F arr (base+i)<F a)else !decide (F a<R F arr (base+i))) l f p (λi hi=>?_) (λi j v m e=>?_) λk u r q=>h k u (λi x hi b=>?_) λi x hi t b=>?_
 ·ext(⟨x,b⟩:c i hi);exact⟨x,b,g _ x ⋯ ⋯ b,by rw[gk b]⟩
 ·ext(⟨x,b⟩:c i ⋯)(⟨y,d⟩:c j m);have:=hs _ _ x y ⋯ ⋯ ⋯ b d;rw[gk d]at e;rw[gk b];cases left<;>simp at e ⊢ <;> left
 ·ext(e:r i hi);rw[gk b]at e;cases left<;>simp at e ⊢ <;> left
 ·ext(e:q i hi t);rw[gk b]at e;cases left<;>simp at e ⊢ <;> left
end
structure Mg(F:Keyed->Int)(a₀ a b:Array Keyed):Prop where
 ma:∀x∈a.toList,x∈a₀.toList
 mb:∀x∈b.toList,x∈a₀.toList
 sa:Pw F a.toList
 sb:Pw F b.toList
 ha:1<=a.size
 hb:1<=b.size
 h0:∀y,b[0]?=↥y->∀x∈a.toList,F y<=F x
 hl:∀y∈b.toList,∀z,a[a.size - 1]?=↥z->F y<=F z
inductive GG{R X Y Z β:Type}(P:X->Y->Z->Prop)(st:f7):Option R×X×Y×Z×β->f7->Prop
 |mk {x:X} {y:Y} {z:Z} {g:β} {bj:f7} (S:aL st bj) (p:P x y z):GG P st (none,x,y,z,g) bj
inductive GF{R X Y Z β:Type}(P:R->Prop)(st:f7):Option R×X×Y×Z×β->f7->Prop
 |mk {r:R} {x:X} {y:Y} {z:Z} {g:β} {bj:f7} (S:aL st bj) (p:P r):GF P st (↥r,x,y,z,g) bj
structure Lo(F:Keyed->Int)(a b:Array Keyed)(n:Nat)(o:Array Keyed)(ia ib:Nat):Prop where
 j:J F a.toList b.toList o.toList ia ib
 a:ia+1<a.size
 b:ib<b.size
 n:n<=ia+ib
meta def Tz:Nat->StateT f7 Sem Unit:=sortPriv% PySem.Builtin.setMinGallop
section
variable {prog:aG}{w:World}{A:aF}{E:aB}{s:ap}{κ:hW}{a₀:Array Keyed}{F:Keyed->Int}(L:rm prog w A E s κ a₀ F)
include L
omit L in
theorem lE{g:Nat}{st:f7}{Q:Unit->f7->Prop}(h:∀a,aL st a->Q () a):wpS (model prog w) A E s (Tz g) Q st:=by
 exact adK (h _ ⟨rfl,rfl,rfl,rfl⟩)
theorem Nl{a b:Array Keyed}{st:f7}{Q:Array Keyed->f7->Prop}(hk:kindOf st=κ)(M:Mg F a₀ a b)(h:∀r B,aL st B->Res F a.toList b.toList r->Q r B):wpS (model prog w) A E s (Fb a b) Q st:=by
 ext(⟨ma,mb,sa,sb,ha,hb,h0,hl⟩:M)(⟨R,H,JM⟩:gS (a:=b) (i:=0) hb);have J0:J F a.toList b.toList (#[]:Array Keyed).toList 0 0:=⟨by simp,.nil,(λ_ h=>nomatch h),(λ_ h=>nomatch h)⟩
 ext(J1:J0.T5 sb H λz f=>h0 R H z ⇑f);refine b7 (λ_ h=>yy (acH ⟨rfl,h⟩)) ?_;refine b7 (λ_=>bC H) ?_;dsimp -zeta only;by_cases e1:1=b.size
 ·refine br ⇑e1 ?_;exact aau (h _ st (.qR st) (D8 J1 sa sb (.inl ⋯)))
 refine bx ⇑e1 ?_;by_cases e2:0+1=a.size
 ·refine br ⇑e2 ?_;exact aau (h _ st (.qR st) (Ji J1 sa sb e2 hl))
 refine bx ⇑e2 ?_;have P0:Lo F a b 1 _ 0 1:=⟨J1,by left,by left,by left⟩
 clear J0 J1 H JM ha hb h0 e1 e2;refine b7 (λ_=>adz) ?_;refine mw (abe (I:=λx=>GG (Lo F a b (x+1)) st) (Q:=GF (Res F a.toList b.toList) st) ?step ?fin ⟨.qR st,P0⟩) ?post
 case fin =>
  rintro c B ⟨S,p⟩;have:=p.a;have:=p.b;have:=p.n;left
 case post =>
  rintro c B ⟨S,hr⟩;exact aau (h _ B S hr)
 case step =>
  rintro x c kM _ Ke ⟨m,P1⟩;clear h Ke;dsimp -zeta only;refine mw (abe (I:=λx'=>GG (Lo F a b (x+1+x')) st) (Q:=λc B=>GF (Res F a.toList b.toList) st c B\/GG (Lo F a b (x+2)) st c B) ?_ ?_ ⟨m,P1⟩) ?_
  ·rintro x' c kM _ xw @⟨_,i,j,_,_,m,X,q,e,O⟩;dsimp only;ext(⟨y,hy,my⟩:gS e)(⟨z,f,mz⟩:gS (abW q));refine b7 (λ_=>bC hy) (b7 (λ_=>bC f) (b7 (λ_=>L y z (mb y my) (ma z mz) kM _ (m.k.trans hk)) ?_));by_cases W:F y<F z
   ·refine br (abg W) ?_;ext(D:X.T5 sb hy λv hv=>abP (acv W) (sa.hd f v hv));refine b7 (λ_=>bC hy) ?_;clear W hy f my mz X;by_cases K:j+1=b.size
    ·refine br ⇑K ?_;exact aau (.inl ⟨m,D8 D sa sb (.inl (adb K.symm))⟩)
    refine bx ⇑K ?_;have G:j+1<b.size:=acM e K;exact jT (λ_=>aau (.inr ⟨m,D,q,G,by left⟩)) (λ_=>aau ⟨m,D,q,G,by left⟩)
   ·refine bx ⇑W ?_;ext(D:X.Xx sa f λv hv=>abP (wT.mp W) (sb.hd hy v hv));refine b7 (λ_=>bC f) ?_;clear W hy f my mz X;by_cases N:i+1+1=a.size
    ·refine br ⇑N ?_;exact aau (.inl ⟨m,Ji D sa sb N hl⟩)
    refine bx ⇑N ?_;have G:i+1+1<a.size:=acM q N;exact jT (λ_=>aau (.inr ⟨m,D,G,e,by left⟩)) (λ_=>aau ⟨m,D,G,e,by left⟩)
  ·rintro c B ⟨S,p,pa,pb,pn⟩;exact .inr ⟨S,p,pa,pb,by left⟩
  clear m P1;rintro c B (⟨m,hr⟩|⟨m,P1⟩)
  ·exact aau ⟨m,hr⟩
  dsimp -zeta only;refine b7 (λ_ h=>yy (acH ⟨rfl,h⟩)) ?_;refine mw (abe (I:=λ_=>GG (Lo F a b (x+2)) st) (Q:=λc B=>GF (Res F a.toList b.toList) st c B\/GG (Lo F a b (x+2)) st c B) ?_ ?_ ⟨m,P1⟩) ?_
  ·generalize x+2=lw;clear P1 m;rintro x' c kM _ xw @⟨o0,i0,j0,⟨g0,ac0,bc0⟩,_,m,X,q,e,O⟩;clear xw;dsimp -zeta only
   extract_lets -underBinder s0 out s1 u s2 l s3 g s4 ac bc U g9
   obtain⟨q1,Z,q3,q4⟩:out=o0/\u=i0/\l=j0/\g=g0:=⟨rfl,rfl,rfl,rfl⟩
   clear_value out u l g ac bc
   clear s0 s1 s2 s3 s4;subst q1 Z q3 q4;apply yJ
   ·intro d;by_cases hg:g>1
    ·refine br hg ?_
     clear_value g9
     revert g9
     exact d
    ·refine bx hg ?_;generalize g=z
     revert z
     exact d
   intro g;dsimp -zeta only[U];clear g9 U;refine Dj (λ_=>lE) λxV S3=>?_;ext(P:m.trans S3);clear S3 m;ext(⟨R,H,JM⟩:gS e);refine b7 (λ_=>bC H) ?_;refine sS (λ_=>fR L (P.k.trans hk) (mb R JM) (adS (abW q)) ⋯ (λi z _ _ f=>ma z ⇑(ky (xR f))) (λi j z z' _ cT _ f Y=>sa.ix cT f Y)) λk PF g1 g2=>?_;dsimp -zeta only
   extract_lets -underBinder ac2 U o9 i9
   obtain⟨q1,Z⟩:o9=out++a.extract u (u+k)/\i9=u+k:=⟨rfl,rfl⟩
   clear_value o9 i9
   subst q1 Z;simp only[zaq,if_false]at g1 g2;ext(Lz:X.exA sa k λi z hi f z' Y=>abP (g1 i z hi f) (sb.hd H z' Y));have Pn:∀z∈a.toList.drop (u+k),F R<=F z:=λz f=>by
    ext(⟨j,G⟩:pH f);have W:u+k+j<a.size:=by
     obtain⟨hi,_⟩:=bn.mp G;simpa using hi
    exact acv (g2 (k+j) z (aaS _ _) (by clear O e PF;left) ([-zaG]\BJ G))
   clear g1 g2;apply yJ
   ·intro d;by_cases k0:k>0
    ·refine br k0 ?_;by_cases KH:u+k+1=a.size
     ·refine br (by clear d;simpa using KH) ?_;exact aau (.inl ⟨P,Ji Lz sa sb KH hl⟩)
     refine bx (by clear d;simpa using KH) ?_;by_cases ea1:u+k=a.size
     ·refine br (by clear d;simpa using ea1) ?_;exact aau (.inl ⟨P,D8 Lz sa sb (.inr (adb ea1.symm))⟩)
     refine bx (by clear d;simpa using ea1) ?_;have p:Lo F a b lw _ (u+k) l:=⟨Lz,by clear d;left,e,by clear d;left⟩
     have t:=Pn;generalize out++a.extract u (u+k)=T at p ⊢;generalize u+k=V at p t ⊢
     revert t
     revert p
     revert V
     revert T
     exact d
    ·refine bx k0 ?_;obtain rfl:k=0:=acJ k0;have p:Lo F a b lw out u l:=⟨X,q,e,O⟩
     have t:=Pn;rw[zbO]at t;generalize out=T at p ⊢;generalize u=V at p t ⊢
     revert t
     revert p
     revert V
     revert T
     exact d
   clear X q e O Lz Pn PF;intro T V ⟨J1,q,e,O⟩ t;dsimp -zeta only[U];clear U;ext(D:J1.T5 sb H t);refine b7 (λ_=>bC H) ?_
   extract_lets -underBinder o3 j3
   obtain⟨q1,Z⟩:o3=T.push R/\j3=l+1:=⟨rfl,rfl⟩
   clear_value o3 j3
   subst q1 Z;clear t J1;by_cases K:l+1=b.size
   ·refine br ⇑K ?_;exact aau (.inl ⟨P,D8 D sa sb (.inl (adb K.symm))⟩)
   refine bx ⇑K ?_;have PJ:l+1<b.size:=acM e K;clear K e H JM;ext(⟨x,wo,mx⟩:gS (abW q));refine b7 (λ_=>bC wo) ?_;refine sS (λ_=>fR L (P.k.trans hk) (ma x mx) (adS PJ) ⋯ (λi z _ _ f=>mb z ⇑(ky (xR f))) (λi j z z' _ cT _ f Y=>sb.ix cT f Y)) λC Ak g1 g2=>?_;dsimp -zeta only
   extract_lets -underBinder bc2 U o9 j9
   obtain⟨q1,Z⟩:o9=T.push R++b.extract (l+1) (l+1+C)/\j9=l+1+C:=⟨rfl,rfl⟩
   clear_value o9 j9
   subst q1 Z;simp only[if_true]at g1 g2;ext(J3:D.exB sb C λi z hi f z' Y=>abP (acv (g1 i z hi f)) (sa.hd wo z' Y));have RY:∀z∈b.toList.drop (l+1+C),F x<=F z:=λz f=>by
    ext(⟨j,G⟩:pH f);have W:l+1+C+j<b.size:=by
     obtain⟨hi,_⟩:=bn.mp G;simpa using hi
    exact g2 (C+j) z (aaS _ _) (by clear O q Ak;left) ([-zaG]\BJ G)
   clear g1 g2;apply yJ
   ·intro d;by_cases k0:C>0
    ·refine br k0 ?_;by_cases QU:l+1+C=b.size
     ·refine br (by clear d;simpa using QU) ?_;exact aau (.inl ⟨P,D8 J3 sa sb (.inl (adb QU.symm))⟩)
     refine bx (by clear d;simpa using QU) ?_;have p:Lo F a b lw _ V (l+1+C):=⟨J3,q,by clear d;left,by clear d;left⟩
     have t:=RY;generalize T.push R++b.extract (l+1) (l+1+C)=o2 at p ⊢;generalize l+1+C=j2 at p t ⊢
     revert t
     revert p
     revert j2
     revert o2
     exact d
    ·refine bx k0 ?_;obtain rfl:C=0:=acJ k0;have p:Lo F a b lw _ V (l+1):=⟨D,q,PJ,ac7 O⟩
     have t:=RY;rw[zbO]at t;generalize T.push R=o2 at p ⊢;generalize l+1=j2 at p t ⊢
     revert t
     revert p
     revert j2
     revert o2
     exact d
   clear D J3 RY Ak PJ O q;intro o2 j2 ⟨J3,q,e,O⟩ RY;dsimp only[U];clear U;ext(J4:J3.Xx sa wo RY);refine b7 (λ_=>bC wo) ?_;clear RY J3 wo;by_cases N:V+1+1=a.size
   ·refine br ⇑N ?_;exact aau (.inl ⟨P,Ji J4 sa sb N hl⟩)
   refine bx ⇑N ?_;have p:Lo F a b lw _ (V+1) j2:=⟨J4,acM q N,e,by clear N q e;left⟩
   exact jT (λ_=>aau (.inr ⟨P,p⟩)) (λ_=>aau ⟨P,p⟩)
  ·rintro c B ⟨S,p⟩;exact .inr ⟨S,p⟩
  rintro c B (⟨S,hr⟩|⟨S,p⟩)
  ·exact aau ⟨S,hr⟩
  ·dsimp only;exact aaB (lE λxV S3=>aau ⟨S.trans S3,p⟩)
end
meta def Fc:Array Keyed->Array Keyed->StateT f7 Sem (Array Keyed):=sortPriv% PySem.Builtin.mergeHi
structure H(F:Keyed->Int)(la lb o:List Keyed)(na nb:Nat):Prop where
 perm:((la.take na++lb.take nb)++o.reverse).Perm (la++lb)
 so:Pw F o.reverse
 xa:∀x∈o,∀y∈la.take na,F y<=F x
 xb:∀x∈o,∀y∈lb.take nb,F y<=F x
section
variable {F:Keyed->Int}{la lb o:List Keyed}{na nb m:Nat}
def LO(l:List Keyed){m n:Nat}(h:m<=n):l.take n=l.take m++(l.take n).drop m:=by
 have:=rM m (l.take n);rw[yad,zaH h]at this;exact this.symm
def Pw.tk{l:List Keyed}(h:Pw F l)(i:Nat):Pw F (l.take i):=h.sublist (aex i l)
def H.vq(H:H F la lb o na nb)(sa:Pw F la)(d:m<=na)(f:∀x∈(la.take na).drop m,∀y∈lb.take nb,F y<=F x):TS.H F la lb (o++((la.take na).drop m).reverse) m nb:=by
 ext(e:LO la d)(c:sa.tk na);rw[e]at c;ext(⟨t1,t2,t3⟩:dL.mp c);refine⟨?_,?_,λx a y b=>?_,λx a y b=>?_⟩
 ·have:=H.perm;rw[e]at this;rw[zbj,zbe];refine Pr ?_ this;generalize (la.take na).drop m=T;rw[<- zai];refine adW _ ?_;exact[zai,zai]\adu _ ad3
 ·exact[zbj,zbe]\dL.mpr ⟨t2,H.so,λx a y b=>H.xa y (hF.mp b) x (ady a)⟩
 ·ext((a|a):c0.mp a)
  ·exact H.xa x a y ([e]\aa0 _ b)
  ·exact t3 y b x (hF.mp a)
 ·ext((a|a):c0.mp a)
  ·exact H.xb x a y b
  ·exact f x (hF.mp a) y b
def H.vp(H:H F la lb o na nb)(sb:Pw F lb)(d:m<=nb)(f:∀x∈(lb.take nb).drop m,∀y∈la.take na,F y<=F x):TS.H F la lb (o++((lb.take nb).drop m).reverse) na m:=by
 ext(e:LO lb d)(c:sb.tk nb);rw[e]at c;ext(⟨t1,t2,t3⟩:dL.mp c);refine⟨?_,?_,λx a y b=>?_,λx a y b=>?_⟩
 ·have:=H.perm;rw[e]at this;rw[zbj,zbe];refine Pr ?_ this;simp only[zai];exact .refl _
 ·exact[zbj,zbe]\dL.mpr ⟨t2,H.so,λx a y b=>H.xb y (hF.mp b) x (ady a)⟩
 ·ext((a|a):c0.mp a)
  ·exact H.xa x a y b
  ·exact f x (hF.mp a) y b
 ·ext((a|a):c0.mp a)
  ·exact H.xb x a y ([e]\aa0 _ b)
  ·exact t3 y b x (hF.mp a)
def H.done(H:H F la lb o na nb)(sa:Pw F la)(sb:Pw F lb)(c:na=0\/nb=0):(la.take na++lb.take nb++o.reverse).Perm (la++lb)/\Pw F (la.take na++lb.take nb++o.reverse):=by
 refine⟨H.perm,?_⟩;ext((rfl|rfl):c)
 ·exact[zbw,zay]\dL.mpr ⟨sb.tk nb,H.so,λx b y a=>H.xb y (hF.mp a) x b⟩
 ·exact[zbw,zav]\dL.mpr ⟨sa.tk na,H.so,λx b y a=>H.xa y (hF.mp a) x b⟩
def H.first(H:H F la lb o na nb)(sa:Pw F la)(sb:Pw F lb)(c:∀y∈lb.take nb,∀z∈la.take na,F y<=F z):(lb.take nb++la.take na++o.reverse).Perm (la++lb)/\Pw F (lb.take nb++la.take na++o.reverse):=by
 refine⟨(adW _ ad3).trans H.perm,?_⟩;refine dL.mpr ⟨dL.mpr ⟨sb.tk nb,sa.tk na,c⟩,H.so,λx a y b=>?_⟩;ext((a|a):c0.mp a)
 ·exact H.xb y (hF.mp b) x a
 ·exact H.xa y (hF.mp b) x a
end
def tY{l:List Keyed}{n:Nat}{y:Keyed}(h:y∈l.take n):∃j,j<n/\l[j]?=↥y:=by
 have:=oj (l:=l) (i:=0) (k:=n) (y:=y) ⇑h;ext(⟨j,a,e⟩:this);exact⟨j,a,⇑e⟩
def Fd{l:List Keyed}{m n:Nat}{y:Keyed}(h:y∈(l.take n).drop m):∃j,m<=j/\j<n/\l[j]?=↥y:=by
 ext(⟨j,a⟩:pH h);rw[nR]at a;split at a
 ·next b=>exact⟨m+j,by left,b,a⟩
 ·cases a
def Xk{l:List Keyed}{i:Nat}{x:Keyed}(h:l[i]?=↥x):(l.take (i+1)).drop i=[x]:=by
 obtain⟨hi,rfl⟩:=bn.mp h;rw[List.take_succ_eq_append_getElem hi,List.drop_append];simp;rw[zaH ⋯,zbM];rfl
section
variable {F:Keyed->Int}{a b out:Array Keyed}{na nb:Nat}
def Wa(a:Array Keyed)(n:Nat):(a.extract 0 n).toList=a.toList.take n:=by rw[ext_toList];simp
def Vn(K:H F a.toList b.toList out.toList na nb)(sa:Pw F a.toList)(sb:Pw F b.toList)(c:na=0\/nb=0):Res F a.toList b.toList (a.extract 0 na++b.extract 0 nb++out.reverse):=by
 unfold Res;simp only[zaB,Wa,zbu];exact K.done sa sb c
def X4(K:H F a.toList b.toList out.toList na nb)(sa:Pw F a.toList)(sb:Pw F b.toList)(e:nb=1)(f:∀y,b[0]?=↥y->∀x∈a.toList,F y<=F x):Res F a.toList b.toList (b.extract 0 nb++a.extract 0 na++out.reverse):=by
 unfold Res;simp only[zaB,Wa,zbu];refine K.first sa sb λy d z c=>?_;ext(⟨j,h,g⟩:tY d);have:j=0:=by left
 subst this;exact f y (BJ g) z (abU c)
def H.Xx(K:H F a.toList b.toList out.toList (na+1) nb)(sa:Pw F a.toList){x:Keyed}(d:a[na]?=↥x)(f:∀z∈b.toList.take nb,F z<=F x):H F a.toList b.toList (out.push x).toList na nb:=by
 have:=K.vq sa (show na<=na+1 by left) λy c z e=>by
  rw[Xk (xR d),zaN]at c;subst c;exact f z e
 rw[Xk (xR d)]at this;exact[zaI]\this
def H.T5(K:H F a.toList b.toList out.toList na (nb+1))(sb:Pw F b.toList){y:Keyed}(c:b[nb]?=↥y)(f:∀z∈a.toList.take na,F z<=F y):H F a.toList b.toList (out.push y).toList na nb:=by
 have:=K.vp sb (show nb<=nb+1 by left) λx d z e=>by
  rw[Xk (xR c),zaN]at d;subst d;exact f z e
 rw[Xk (xR c)]at this;exact[zaI]\this
def Gu(a:Array Keyed)(m n:Nat):((a.extract m n).reverse).toList=((a.toList.take n).drop m).reverse:=by
 rw[zbu,ext_toList,List.drop_take]
def H.exA(K:H F a.toList b.toList out.toList na nb)(sa:Pw F a.toList){m:Nat}(f:m<=na)(g:∀i x,m<=i->i<na->a[i]?=↥x->∀z∈b.toList.take nb,F z<=F x):H F a.toList b.toList (out++(a.extract m na).reverse).toList m nb:=by
 rw[zaB,Gu];exact K.vq sa f λx d z c=>by
  ext(⟨j,k,h,e⟩:Fd d);exact g j x k h (BJ e) z c
def H.exB(K:H F a.toList b.toList out.toList na nb)(sb:Pw F b.toList){m:Nat}(f:m<=nb)(g:∀i x,m<=i->i<nb->b[i]?=↥x->∀z∈a.toList.take na,F z<=F x):H F a.toList b.toList (out++(b.extract m nb).reverse).toList na m:=by
 rw[zaB,Gu];exact K.vp sb f λx d z c=>by
  ext(⟨j,k,h,e⟩:Fd d);exact g j x k h (BJ e) z c
def Pw.tl(sa:Pw F a.toList){n:Nat}{x:Keyed}(d:a[n]?=↥x):∀z∈a.toList.take (n+1),F z<=F x:=λz c=>by
 ext(⟨j,f,e⟩:tY c);exact sa.ix ⋯ (BJ e) d
def H.pA(K:H F a.toList b.toList out.toList na nb)(sa:Pw F a.toList){x:Keyed}(e:1<=na)(c:a[na - 1]?=↥x)(d:∀z∈b.toList.take nb,F z<=F x):H F a.toList b.toList (out.push x).toList (na - 1) nb:=by
 obtain⟨n,rfl⟩:∃n,na=n+1:=⟨na - 1,by left⟩
 exact K.Xx sa c d
def H.pB(K:H F a.toList b.toList out.toList na nb)(sb:Pw F b.toList){y:Keyed}(e:1<=nb)(c:b[nb - 1]?=↥y)(d:∀z∈a.toList.take na,F z<=F y):H F a.toList b.toList (out.push y).toList na (nb - 1):=by
 obtain⟨n,rfl⟩:∃n,nb=n+1:=⟨nb - 1,by left⟩
 exact K.T5 sb c d
def Pw.Xj(sa:Pw F a.toList){n:Nat}{x:Keyed}(d:1<=n)(c:a[n - 1]?=↥x):∀z∈a.toList.take n,F z<=F x:=by
 obtain⟨n,rfl⟩:∃m,n=m+1:=⟨n - 1,by left⟩
 exact sa.tl c
end
structure Hi(F:Keyed->Int)(a b:Array Keyed)(n:Nat)(na nb:Nat)(o:Array Keyed):Prop where
 j:H F a.toList b.toList o.toList na nb
 a1:1<=na
 b2:2<=nb
 za:na<=a.size
 zb:nb<=b.size
 m:n+na+nb<=a.size+b.size
def Hi.le{F:Keyed->Int}{a b:Array Keyed}{n m:Nat}{o:Array Keyed}(p:Hi F a b n na nb o)(h:m<=n):Hi F a b m na nb o:=⟨p.j,p.a1,p.b2,p.za,p.zb,aav (acs (acs h _) _) p.m⟩
section
variable {prog:aG}{w:World}{A:aF}{E:aB}{s:ap}{κ:hW}{a₀:Array Keyed}{F:Keyed->Int}(L:rm prog w A E s κ a₀ F)
include L
theorem Nm{a b:Array Keyed}{st:f7}{Q:Array Keyed->f7->Prop}(hk:kindOf st=κ)(M:Mg F a₀ a b)(h:∀r B,aL st B->Res F a.toList b.toList r->Q r B):wpS (model prog w) A E s (Fc a b) Q st:=by
 ext(⟨ma,mb,sa,sb,ha,hb,h0,hl⟩:M)(⟨x0,K,mx0⟩:gS (a:=a) (i:=a.size - 1) (acZ ha jb));have J0:H F a.toList b.toList (#[]:Array Keyed).toList a.size b.size:=⟨by simp[KP],.nil,(λ_ h=>nomatch h),(λ_ h=>nomatch h)⟩
 ext(J1:J0.pA sa ha K λz f=>hl z (abU f) x0 K);refine b7 (λ_ h=>yy (acH ⟨rfl,h⟩)) ?_;refine b7 (λ_=>bC K) ?_;dsimp -zeta only;by_cases e1:a.size - 1=0
 ·refine br ⇑e1 ?_;exact aau (h _ st (.qR st) (Vn J1 sa sb (.inl e1)))
 refine bx ⇑e1 ?_;by_cases e2:b.size=1
 ·refine br ⇑e2 ?_;exact aau (h _ st (.qR st) (X4 J1 sa sb e2 h0))
 refine bx ⇑e2 ?_;have P0:Hi F a b 1 (a.size - 1) b.size _:=⟨J1,acN e1,acM hb (ada e2),acu _ _,aat _,by left⟩
 clear J0 J1 K mx0 ha hb hl e1 e2;refine b7 (λ_=>adz) ?_;refine mw (abe (I:=λx=>GG (Hi F a b (x+1)) st) (Q:=GF (Res F a.toList b.toList) st) ?step ?fin ⟨.qR st,P0⟩) ?post
 case fin =>
  rintro c B ⟨S,_,p1,p2,p3,p4,p5⟩;left
 case post =>
  rintro c B ⟨S,hr⟩;exact aau (h _ B S hr)
 case step =>
  rintro x c kM _ Ke ⟨n,P1⟩;clear h Ke P0;dsimp -zeta only;refine mw (abe (I:=λx'=>GG (Hi F a b (x+1+x')) st) (Q:=λc B=>GF (Res F a.toList b.toList) st c B\/GG (Hi F a b (x+2)) st c B) ?_ ?_ ⟨n,P1⟩) ?_
  ·rintro x' c kM _ xw @⟨i,j,_,_,_,n,V,t,u,l,m,D⟩;dsimp only;ext(⟨y,hy,my⟩:gS (aao (acZ (aao aeE u) jb) m))(⟨z,f,mz⟩:gS (aao (acZ t jb) l));refine b7 (λ_=>bC hy) (b7 (λ_=>bC f) (b7 (λ_=>L y z (mb y my) (ma z mz) kM _ (n.k.trans hk)) ?_));by_cases dm:F y<F z
   ·refine br (abg dm) ?_;ext(J:V.pA sa t f λv hv=>abP (sb.Xj (ac9 u) hy v hv) (acv dm));refine b7 (λ_=>bC f) ?_;clear dm hy f my mz V;by_cases N:i - 1=0
    ·refine br ⇑N ?_;exact aau (.inl ⟨n,Vn J sa sb (.inl N)⟩)
    refine bx ⇑N ?_;have p:Hi F a b (x+1+(x'+1)) (i - 1) j _:=⟨J,acN N,u,aav (acu _ _) l,m,by clear l m N;left⟩
    exact jT (λ_=>aau (.inr ⟨n,p.le (by clear p D;left)⟩)) (λ_=>aau ⟨n,p⟩)
   ·refine bx ⇑dm ?_;ext(J:V.pB sb (ac9 u) hy λv hv=>abP (sa.Xj t f v hv) (wT.mp dm));refine b7 (λ_=>bC hy) ?_;clear dm hy f my mz V;by_cases P:j - 1=1
    ·refine br ⇑P ?_;exact aau (.inl ⟨n,X4 J sa sb P h0⟩)
    refine bx ⇑P ?_;have p:Hi F a b (x+1+(x'+1)) i (j - 1) _:=⟨J,t,by clear l m D;left,l,aav (acu _ _) m,by clear l m P;left⟩
    exact jT (λ_=>aau (.inr ⟨n,p.le (by clear p D;left)⟩)) (λ_=>aau ⟨n,p⟩)
  ·rintro c B ⟨S,p⟩;exact .inr ⟨S,p.le (by have:=p.a1;have:=p.za;left)⟩
  clear n P1;rintro c B (⟨n,hr⟩|⟨n,P1⟩)
  ·exact aau ⟨n,hr⟩
  dsimp -zeta only;refine b7 (λ_ h=>yy (acH ⟨rfl,h⟩)) ?_;refine mw (abe (I:=λ_=>GG (Hi F a b (x+2)) st) (Q:=λc B=>GF (Res F a.toList b.toList) st c B\/GG (Hi F a b (x+2)) st c B) ?_ ?_ ⟨n,P1⟩) ?_
  ·generalize x+2=lw;clear P1 n;rintro x' c kM _ xw @⟨na0,nb0,o0,⟨g0,ac0,bc0⟩,_,n,V,t,u,l,m,D⟩;clear xw;dsimp -zeta only
   extract_lets -underBinder s0 na s1 nb s2 out s3 g s4 ac bc U g9
   obtain⟨q1,q2,q3,q4⟩:na=na0/\nb=nb0/\out=o0/\g=g0:=⟨rfl,rfl,rfl,rfl⟩
   clear_value na nb out g ac bc
   clear s0 s1 s2 s3 s4;subst q1 q2 q3 q4;apply yJ
   ·intro d;by_cases hg:g>1
    ·refine br hg ?_
     clear_value g9
     revert g9
     exact d
    ·refine bx hg ?_;generalize g=z
     revert z
     exact d
   intro g;dsimp -zeta only[U];clear g9 U;refine Dj (λ_=>lE) λxV S3=>?_;ext(R:n.trans S3);clear S3 n;ext(⟨y0,rY,JM⟩:gS (aao (acZ (aao aeE u) jb) m));refine b7 (λ_=>bC rY) ?_;refine sS (λ_=>fR L (base:=0) (R.k.trans hk) (mb y0 JM) (acZ t jb) ([zaD]\l) (λi z _ _ f=>ma z ⇑(ky (xR f))) (λi j z z' _ cT _ f W=>sa.ix cT f W)) λk PF Y X=>?_;dsimp -zeta only
   extract_lets -underBinder kk ac2 U o9 n9
   obtain⟨q1,q2,q3⟩:kk=na - k/\o9=out++(a.extract k na).reverse/\k=n9:=⟨rfl,rfl,rfl⟩
   clear_value ac2 o9 n9
   clear_value kk
   subst q1 q2 q3;simp only[zaq,if_false,zaD]at Y X;have Pn:∀z∈a.toList.take k,F z<=F y0:=λz f=>by
    ext(⟨j,hj,e⟩:tY f);exact Y j z hj (BJ e)
   ext(Lz:V.exA sa PF λi z h1 h2 f z' W=>abP (sb.Xj (ac9 u) rY z' W) (acv (X i z h1 h2 f)));clear Y X;apply yJ
   ·intro d;by_cases G:na - k>0
    ·refine br G ?_;by_cases KH:k=0
     ·refine br (by clear d;simpa using KH) ?_;exact aau (.inl ⟨R,Vn Lz sa sb (.inl KH)⟩)
     refine bx (by clear d;simpa using KH) ?_;have p:Hi F a b lw k nb _:=⟨Lz,acN KH,u,aav PF l,m,by clear d l m G KH;left⟩
     have q:=Pn;generalize out++(a.extract k na).reverse=T at p ⊢;generalize k=O at p q ⊢
     revert q
     revert p
     revert O
     revert T
     exact d
    ·refine bx G ?_;obtain rfl:k=na:=acr PF (Mx.mp (acJ G));have p:Hi F a b lw k nb out:=⟨V,t,u,l,m,D⟩
     have q:=Pn;clear G Lz;generalize out=T at p ⊢;generalize k=O at p q ⊢
     revert q
     revert p
     revert O
     revert T
     exact d
   clear V t u l m D Lz Pn PF;intro T O ⟨J1,t,u,l,m,D⟩ q;dsimp -zeta only[U];clear U
   extract_lets -underBinder m1
   obtain q1:m1=nb - 1:=rfl
   clear_value m1
   subst q1;ext(J:J1.pB sb (ac9 u) rY q);refine b7 (λ_=>bC rY) ?_
   extract_lets -underBinder o3
   obtain q1:o3=T.push y0:=rfl
   clear_value o3
   subst q1;clear q J1 rY JM;by_cases P:nb - 1=1
   ·refine br ⇑P ?_;exact aau (.inl ⟨R,X4 J sa sb P h0⟩)
   refine bx ⇑P ?_;have hm:2<=nb - 1:=by clear D l m;left
   have jm:nb - 1<=b.size:=aav (acu _ _) m;have hs:lw+O+(nb - 1)<=a.size+b.size:=aav (aaP (acu _ _) _) D;clear P u m D;generalize nb - 1=mm at J hm jm hs ⊢;ext(⟨x,K,mx⟩:gS (aao (acZ t jb) l));refine b7 (λ_=>bC K) ?_;refine sS (λ_=>fR L (base:=0) (R.k.trans hk) (ma x mx) (acZ (aao aeE hm) jb) ([zaD]\jm) (λi z _ _ f=>mb z ⇑(ky (xR f))) (λi j z z' _ cT _ f W=>sb.ix cT f W)) λC Ak Y X=>?_;dsimp -zeta only
   extract_lets -underBinder kk bc2 U o9 n9
   obtain⟨q1,q2,q3⟩:kk=mm - C/\o9=T.push y0++(b.extract C mm).reverse/\C=n9:=⟨rfl,rfl,rfl⟩
   clear_value bc2 o9 n9
   clear_value kk
   subst q1 q2 q3;simp only[if_true,zaD]at Y X;have qW:∀z∈b.toList.take C,F z<=F x:=λz f=>by
    ext(⟨j,hj,e⟩:tY f);exact acv (Y j z hj (BJ e))
   ext(W8:J.exB sb Ak λi z h1 h2 f z' W=>abP (sa.Xj t K z' W) (X i z h1 h2 f));clear Y X;apply yJ
   ·intro d;by_cases G:mm - C>0
    ·refine br G ?_;by_cases QU:C=1
     ·refine br (by clear d;simpa using QU) ?_;exact aau (.inl ⟨R,X4 W8 sa sb QU h0⟩)
     refine bx (by clear d;simpa using QU) ?_;by_cases Z:C=0
     ·refine br (by clear d;simpa using Z) ?_;exact aau (.inl ⟨R,Vn W8 sa sb (.inr Z)⟩)
     refine bx (by clear d;simpa using Z) ?_;have p:Hi F a b lw O C _:=⟨W8,t,by clear d hs G Ak jm hm;left,l,aav Ak jm,aav (aaP Ak _) hs⟩
     have q:=qW;generalize T.push y0++(b.extract C mm).reverse=o2 at p ⊢;generalize C=m2 at p q ⊢
     revert q
     revert p
     revert m2
     revert o2
     exact d
    ·refine bx G ?_;obtain rfl:C=mm:=acr Ak (Mx.mp (acJ G));have p:Hi F a b lw O C _:=⟨J,t,hm,l,jm,hs⟩
     have q:=qW;clear G W8;generalize T.push y0=o2 at p ⊢;generalize C=m2 at p q ⊢
     revert q
     revert p
     revert m2
     revert o2
     exact d
   clear J W8 qW Ak hm jm hs t l;intro o2 m2 ⟨J3,t,u,l,m,D⟩ q;dsimp only[U];clear U;ext(J4:J3.pA sa t K q);refine b7 (λ_=>bC K) ?_;clear q J3 K;by_cases N:O - 1=0
   ·refine br ⇑N ?_;exact aau (.inl ⟨R,Vn J4 sa sb (.inl N)⟩)
   refine bx ⇑N ?_;have p:Hi F a b lw (O - 1) m2 _:=⟨J4,acN N,u,aav (acu _ _) l,m,aav (acs (aaP (acu _ _) _) _) D⟩
   exact jT (λ_=>aau (.inr ⟨R,p⟩)) (λ_=>aau ⟨R,p⟩)
  ·rintro c B ⟨S,p⟩;exact .inr ⟨S,p⟩
  rintro c B (⟨S,hr⟩|⟨S,p⟩)
  ·exact aau ⟨S,hr⟩
  ·dsimp only;exact aaB (lE λxV S3=>aau ⟨S.trans S3,p⟩)
end
meta def wr(o:Nat)(n:Nat)(l:List Keyed)(a:Array Keyed):Array Keyed:=(l.zipIdx n).foldl (λa (p,j)=>a.setIfInBounds (o+j) p) a
theorem sR(o:Nat):∀(l:List Keyed) (n:Nat) (a:Array Keyed),o+n+l.length<=a.size->(wr o n l a).toList=a.toList.take (o+n)++(l++a.toList.drop (o+n+l.length))
 |[],n,a,h=>(rM (o+n) a.toList).symm
 |x::l,n,a,h=>by
  have c:o+n<a.toList.length:=aao (adQ (aeD l.length)) h;have e:o+n+(x::l).length=o+n+1+l.length:=Nat.add_right_comm _ _ 1;rw[e]at h ⊢;ext(b:sR o l (n+1) (a.setIfInBounds (o+n) x) ([Array.size_setIfInBounds]\h));rw[zbA]at b;refine b.trans ?_;show(a.toList.set (o+n) x).take (o+n+1)++(l++(a.toList.set (o+n) x).drop (o+n+1+l.length))=_;rw[List.drop_set_of_lt (zbl (Ag _) (zaM _ _)),List.set_eq_take_append_cons_drop,zac c,List.take_append,zar,zaH (zcc c),zap,yad,zbL (Nat.le_succ _)];simp
def Dh{l:List Keyed}{a:Array Keyed}(h:o+l.length<=a.size)(i:Nat):(wr o 0 l a)[i]?=if i<o then a[i]? else if i<o+l.length then l[i - o]? else a[i]?:=by
 have b:(a.toList.take o).length=o:=[zar]\yab (aav (aaS _ _) h)
 rw[<- fx,<- fx,sR o l 0 a h,zbO,Po,b];by_cases c1:i<o
 ·rw[zac c1,zac c1,nR,zac c1]
 ·rw[zab c1,zab c1];ext(⟨j,rfl⟩:aa7 (Aj c1));rw[zap,Po];by_cases c2:j<l.length
  ·rw[zac c2,zac (zbv c2 _)]
  ·rw[zab c2,zab (λz=>c2 (zbF z)),nZ,zaG,vu (Aj c2)]
def Im{l:List Keyed}{a:Array Keyed}(h:o+l.length<=a.size)(b:l.Perm ((a.toList.drop o).take l.length)):(wr o 0 l a).Perm a:=by
 rw[ip,sR o l 0 a h];have e2:a.toList=a.toList.take o++((a.toList.drop o).take l.length++a.toList.drop (o+l.length)):=by
  rw[<- zbX,zbc,zbc]
 conv=>rhs;rw[e2]
 exact adu _ (adW _ b)
def Mt{F:Keyed->Int}{xs:Array Keyed}{n:Nat}(h:On F xs lo (lo+n))(hs:lo+n<=xs.size):Pw F (xs.extract lo (lo+n)).toList:=by
 rw[ext_toList,zap];refine gr.mpr λi j e d b=>?_;have a:j<n:=aao d (List.length_take_le ..);have g:∀k,k<n->lo+k<xs.size:=λk c=>aao (aaY c _) hs;rw[Uf,Uf,Ul,Ul,NE,NE];have:=h (lo+i) (lo+j) (aaS _ _) (aaP (abh b) _) (aaY a _);rw[gk (getElem?_pos xs (lo+i) (g i (ybN b a))),gk (getElem?_pos xs (lo+j) (g j a))]at this;exact this
def j7{a:Array Keyed}{i n:Nat}{x:Keyed}(h:x∈(a.extract i (i+n)).toList):∃t,t<n/\a[i+t]?=↥x:=by
 rw[ext_toList,zap]at h;ext(⟨k,b,e⟩:oj h);exact⟨k,b,BJ e⟩
def ext_get{a:Array Keyed}{i n t:Nat}(h:t<n):(a.extract i (i+n))[t]?=a[i+t]?:=by
 rw[<- fx,ext_toList,nR,zac ([zap]\h),nZ,fx]
def wI{a:Array Keyed}{i n:Nat}(b:i+n<=a.size):(a.extract i (i+n)).size=n:=by rw[Array.size_extract,zaH b,zap]
def Io{M:Model}{A:aF}{E:aB}{s:ap}{a:Type}{x:a}{Q:PUnit->a->Prop}{st:a}(h:Q ⟨⟩ x):wpS M A E s (set x:StateT a Sem PUnit) Q st:=by
 unfold wpS;exact[StateT.run_set]\aak ⟨rfl,h⟩
def BM{F:Keyed->Int}{xs:Array Keyed}{p q e:Nat}{l:List Keyed}(J:sa<=p)(H:p<=sb)(y:sb<=q)(he:q<=e)(hs:e<=xs.size)(u:On F xs sa sb)(s:On F xs sb e)(I:p+l.length=q)(G:Pw F l)
  (w:∀v∈l,∃t,p<=t/\t<q/\xs[t]?=↥v) (B:∀i,sa<=i->i<p->∀t,sb<=t->t<e->R F xs i<=R F xs t) (K:∀t,q<=t->t<e->∀i,sa<=i->i<sb->R F xs i<=R F xs t):On F (wr p 0 l xs) sa e:=by
 subst I;ext(g:Dh (o:=p) (l:=l) (a:=xs) (aav he hs));have n:∀i,i<p->R F (wr p 0 l xs) i=R F xs i:=λi hi=>fO ⇑[g,zac hi];have h:∀i,p+l.length<=i->R F (wr p 0 l xs) i=R F xs i:=λi hi=>fO ⇑[g,zab (lZ.mpr (zbP (zaM _ _) hi)),zab (lZ.mpr hi)];have m:∀j (b:j<l.length),R F (wr p 0 l xs) (p+j)=F l[j]:=λj b=>gk ([g,zab (lZ.mpr (zaM _ _)),zac (zbv b _),zap]\aaE b);have up:∀i,sa<=i->i<p->∀v∈l,R F xs i<=F v:=λi hi C v r=>by
  ext(⟨t,t1,t2,e⟩:w v r);rw[<- gk (F:=F) e];ext((c|c):abO t sb)
  ·exact u i t hi (abh (aao C t1)) c
  ·exact B i hi C t c (aao t2 he)
 have L:∀j,p+l.length<=j->j<e->∀v∈l,F v<=R F xs j:=λj b E v r=>by
  ext(⟨t,t1,t2,e⟩:w v r);rw[<- gk (F:=F) e];ext((c|c):abO t sb)
  ·exact K j b E t (aav J t1) c
  ·exact s t j c (abh (aao t2 b)) E
 intro i j hi f b;ext((c|c):abO j p)
 ·exact[n i (zaZ f c),n j c]\u i j hi f (aao c H)
 ext((d|d):abO i p)
 ·rw[n i d];rcases abO j (p+l.length)with c'|c'
  ·ext(⟨k,rfl⟩:aa7 c);exact[m k (zbF c')]\up i hi d _ (aa5 _)
  ·exact[h j c']\B i hi d j (aav y c') b
 rcases abO i (p+l.length)with d'|d'
 ·ext(⟨k,rfl⟩:aa7 d)(A:abL d');rw[m k A];rcases abO j (p+l.length)with c'|c'
  ·ext(⟨x,rfl⟩:aa7 c)(D:abL c');rw[m x D];ext((z|z):abO k x)
   ·exact gr.mp G _ _ A D z
   ·ext(rfl:acr (adC f) z);exact acS _
  ·exact[h j c']\L j c' b _ (aa5 _)
 ·exact[h i d',h j (zbP d' f)]\s i j (aav y d') f b
section
variable {prog:aG}{w:World}{A:aF}{E:aB}{s:ap}{κ:hW}{a₀:Array Keyed}{F:Keyed->Int}(L:rm prog w A E s κ a₀ F)
include L
theorem Be{st:f7}{i pw qw:Nat}{Q:Bool->f7->Prop}(J:SB a₀ κ st)(e1:(d5 st)[i]?=↥(sa,na,pw))(e2:(d5 st)[i+1]?=↥(sb,nb,qw))(V:sb=sa+na)(uf:1<=na)(u0:1<=nb)(hs:sb+nb<=a₀.size)(P:On F (arrOf st) sa sb)(O:On F (arrOf st) sb (sb+nb))
  (h:∀g,SB a₀ κ g->d5 g=((d5 st).setIfInBounds i (sa,na+nb,pw)).eraseIdxIfInBounds (i+1)->(∀t,t<sa\/sb+nb<=t->(arrOf g)[t]?=(arrOf st)[t]?)->On F (arrOf g) sa (sb+nb)->Q true g):wpS (model prog w) A E s (mergeAt' i) Q st:=by
 have G:SB a₀ κ (yaC st (((d5 st).setIfInBounds i (sa,na+nb,pw)).eraseIdxIfInBounds (i+1))):=⟨J.perm,J.kind,J.failed⟩
 have sz:sb+nb<=(arrOf st).size:=[J.size]\hs
 refine aaB (adz ?_);rw[e1,e2];dsimp only;refine aaB (Io ?_);generalize W:yaC st (((d5 st).setIfInBounds i (sa,na+nb,pw)).eraseIdxIfInBounds (i+1))=M at G;have PZ:arrOf M=arrOf st:=by rw[<- W]
 have Vb:d5 M=((d5 st).setIfInBounds i (sa,na+nb,pw)).eraseIdxIfInBounds (i+1):=by rw[<- W]
 change wpS _ _ _ _ _ Q (yaC st (((d5 st).setIfInBounds i (sa,na+nb,pw)).eraseIdxIfInBounds (i+1)));rw[W];have hQ:∀g,SB a₀ κ g->d5 g=d5 M->(∀t,t<sa\/sb+nb<=t->(arrOf g)[t]?=(arrOf st)[t]?)->On F (arrOf g) sa (sb+nb)->Q true g:=λg C B=>h g C (B.trans Vb);clear Vb W e1 e2 h;have T:∀(t:Nat) (x:Keyed),(arrOf st)[t]?=↥x->x∈a₀.toList:=λt x e=>(ip.mp J.perm).mem_iff.mp (aa3 (xR e));have D:∀t,t<sb+nb->∃x,(arrOf st)[t]?=↥x/\x∈a₀.toList:=λt l=>J.at (aao l hs);ext(⟨y0,rY,JM⟩:D sb (adQ u0));refine aaB (bC rY ?_);refine aaB (fR L (arr:=arrOf st) G.kind JM (show 0<na from uf) ([-V]\aav (aaS _ _) sz) (λt x _ _ e=>T t x e) (λt u x y C B K ex n=>by
  have:=P t u C B ([V]\K)
  rwa [gk ex,gk n]at this) λk hk g1 g2=>?_)
 simp only[zaq,if_false]at g1 g2;ext(⟨x,rfl⟩:aa7 hk);rw[<- zaG]at V;subst V;dsimp only;rw[zap];clear hk uf;have U:∀i,sa<=i->i<sa+k->∀t,sa+k+x<=t->t<sa+k+x+nb->R F (arrOf st) i<=R F (arrOf st) t:=λi hi N t l Pq=>by
  ext(⟨j,rfl⟩:aa7 hi)(⟨y,n,_⟩:D (sa+j) (aao N (aav (aaS _ _) (aaS _ _))))(a1:g1 j y (abL N) n)(a2:O _ t (aat _) l Pq);rw[gk rY]at a2;exact[gk n]\abP a1 a2
 have done:(∀i,sa<=i->i<sa+k+x->∀j,sa+k+x<=j->j<sa+k+x+nb->R F (arrOf st) i<=R F (arrOf st) j)->Q true M:=λc=>by
  refine hQ M G rfl (λt _=>by rw[PZ]) ?_;rw[PZ];intro i j hi cT Y;rcases abO j (sa+k+x)with d|d
  ·exact P i j hi cT d
  rcases abO i (sa+k+x)with c'|c'
  ·exact c i hi c' j d Y
  ·exact O i j c' cT Y
 by_cases Z:x=0
 ·rw[zac ⇑Z];subst Z;exact aau (done U)
 rw[zab ⇑Z];ext(⟨x,rfl⟩:abf Z);have dm:sa+k+x<sa+k+(x+1):=abd _;ext(⟨z0,FO,mz0⟩:D (sa+k+x) (aao dm (aaS _ _)));refine aaB (bC FO ?_);refine aaB (fR L (arr:=arrOf st) G.kind mz0 (acZ u0 jb) sz (λt x _ _ e=>T t x e) (λt u x y C B K ex n=>by
  have:=O t u C B K
  rwa [gk ex,gk n]at this) λm X q1 q2=>?_)
 simp only[if_true]at q1 q2;have high:∀t,sa+k+(x+1)+m<=t->t<sa+k+(x+1)+nb->∀i,sa<=i->i<sa+k+(x+1)->R F (arrOf st) i<=R F (arrOf st) t:=λt l Pq i hi N=>by
  ext(⟨j,rfl⟩:aa7 (aav (aaS _ _) l))(⟨y,n,_⟩:D _ Pq)(a1:q2 j y (adC l) (abL Pq) n)(a2:P i (sa+k+x) hi (abp N) dm);rw[gk FO]at a2;exact[gk n]\abP a2 a1
 dsimp only;by_cases c1:m=0
 ·rw[zac ⇑c1];subst c1;exact aau (done λi hi N j Y C1=>high j Y C1 i hi N)
 rw[zab ⇑c1];clear done;have sx:sa+k+(x+1)<=(arrOf st).size:=aav (aaS _ _) sz;have sy:sa+k+(x+1)+m<=(arrOf st).size:=aav (aaP X _) sz;ext(zx:wI (a:=arrOf st) sx)(zy:wI (a:=arrOf st) sy);have ix:∀{t:Nat} {x':Keyed},(arrOf st)[sa+k+t]?=↥x'->x'∈a₀.toList:=λe=>T _ _ e;have MM:Mg F a₀ ((arrOf st).extract (sa+k) (sa+k+(x+1))) ((arrOf st).extract (sa+k+(x+1)) (sa+k+(x+1)+m)):=by
  refine⟨λv q=>?_,λv q=>?_,Mt (λi j C B K=>P i j (aav (aaS _ _) C) B K) sx,Mt (λi j C B K=>O i j C B (aao K (aaP X _))) sy,[zx]\aeD _,[zy]\acN c1,λy n v q=>?_,λy hy z ez=>?_⟩
  ·ext(⟨t,_,e⟩:j7 q);exact T _ _ e
  ·ext(⟨t,_,e⟩:j7 q);exact T _ _ e
  ·rw[ext_get (TL c1),zbO,rY]at n;ext(⟨t,t1,e⟩:j7 q);rw[zaG]at e;have:=g2 (k+t) v (aaS _ _) (aaY t1 _) e;exact[-vr n]\acv this
  ·rw[zx,Nat.add_sub_cancel,ext_get (Ag _),FO]at ez;ext(⟨t,t1,e⟩:j7 hy);have:=q1 t y t1 e;exact[-vr ez]\acv this
 have fin:∀(r:Array Keyed) (b:f7),aL M b->Res F ((arrOf st).extract (sa+k) (sa+k+(x+1))).toList ((arrOf st).extract (sa+k+(x+1)) (sa+k+(x+1)+m)).toList r->Q (se (Vt b (wr (sa+k) 0 r.toList (arrOf b)))).isNone (Vt b (wr (sa+k) 0 r.toList (arrOf b))):=λr b S H=>by
  have I:arrOf b=arrOf st:=S.a.trans PZ;have hlen:r.toList.length=x+1+m:=by rw[H.1.length_eq,zaf,zan,zan,zx,zy]
  have hq:sa+k+r.toList.length=sa+k+(x+1)+m:=by rw[hlen,<- zaG]
  have aba:((arrOf st).toList.drop (sa+k)).take r.toList.length=((arrOf st).extract (sa+k) (sa+k+(x+1))).toList++((arrOf st).extract (sa+k+(x+1)) (sa+k+(x+1)+m)).toList:=by
   rw[ext_toList,ext_toList,hlen,zap,zap,List.take_add,zbX]
  have hl:sa+k+r.toList.length<=(arrOf st).size:=[hq]\sy
  have hf:se (Vt b (wr (sa+k) 0 r.toList (arrOf b)))=none:=S.f.trans G.failed;rw[hf];refine hQ _ ⟨?_,S.k.trans G.kind,S.f.trans G.failed⟩ S.p (λt l=>?_) ?_
  ·show(wr (sa+k) 0 r.toList (arrOf b)).Perm a₀;exact[I]\(Im hl ([aba]\H.1)).trans J.perm
  ·show(wr (sa+k) 0 r.toList (arrOf b))[t]?=_;rw[I,Dh hl,hq];ext((l|l):l)
   ·rw[zac (zbl l (zaM _ _))]
   ·have:sa+k+(x+1)+m<=t:=aav (aaP X _) l;rw[zab (lZ.mpr (zbP (zbP (zaM _ _) (zaM _ _)) this)),zab (lZ.mpr this)]
  ·show On F (wr (sa+k) 0 r.toList (arrOf b)) sa (sa+k+(x+1)+nb);rw[I];refine BM (aaS _ _) (aaS _ _) (aaS _ _) (aaP X _) sz P O hq H.2 (λv q=>?_) U high;rcases c0.mp (H.1.mem_iff.mp q)with q|q
   ·ext(⟨t,t1,e⟩:j7 q);exact⟨_,aaS _ _,aao (aaY t1 _) (aaS _ _),e⟩
   ·ext(⟨t,t1,e⟩:j7 q);exact⟨_,aav (aaS _ _) (aaS _ _),aaY t1 _,e⟩
 by_cases c2:x+1<=m
 ·rw[zac c2];refine aaB (Nl L G.kind MM λr b S H=>?_);exact aaB (adK (aaB (adz (aau (fin r b S H)))))
 ·rw[zab c2];refine aaB (Nm L G.kind MM λr b S H=>?_);exact aaB (adK (aaB (adz (aau (fin r b S H)))))
end
abbrev Run:=Nat×Nat×Nat
def Chain(F:Keyed->Int)(xs:Array Keyed):Nat->List Run->Nat->Prop
 |c,[],hi=>c=hi
 |c,r::l,hi=>r.1=c/\1<=r.2.1/\On F xs c (c+r.2.1)/\Chain F xs (c+r.2.1) l hi
section
variable {F:Keyed->Int}{xs ys:Array Keyed}
theorem Chain.le:∀{l:List Run} {c hi:Nat},Chain F xs c l hi->c+l.length<=hi
 |[],c,hi,h=>by have:c=hi:=h;simp;left
 |r::l,c,hi,h=>by
  ext(⟨_,b,_,a⟩:h);have:=a.le;rw[zae];left
theorem Chain.out:∀{l:List Run} {c hi:Nat},Chain F xs c l hi->(∀t,c<=t->t<hi->ys[t]?=xs[t]?)->Chain F ys c l hi
 |[],_,_,h,_=>h
 |r::l,c,hi,⟨h1,h2,h3,h4⟩,e=>by
  have:=h4.le;exact⟨h1,h2,h3.out λi b d=>e i b ⋯,h4.out λt h a=>e t ⋯ a⟩
theorem iB:∀{l m:List Run} {c hi:Nat},Chain F xs c (l++m) hi ↔ ∃d,Chain F xs c l d/\Chain F xs d m hi
 |[],m,c,hi=>⟨λh=>⟨c,rfl,h⟩,λ⟨d,b,a⟩=>by have:c=d:=b;subst this;exact a⟩
 |r::l,m,c,hi=>by
  constructor
  ·rintro ⟨b,a,g,f⟩;ext(⟨d,e,i⟩:iB.mp f);exact⟨d,⟨b,a,g,e⟩,i⟩
  ·rintro ⟨d,⟨b,a,g,f⟩,e⟩;exact⟨b,a,g,iB.mpr ⟨d,f,e⟩⟩
def Chain.push{l:List Run}{c n q:Nat}(h:Chain F xs c l lo)(hn:1<=n)(a:On F xs lo (lo+n)):Chain F xs c (l++[(lo,n,q)]) (lo+n):=iB.mpr ⟨lo,h,rfl,hn,a,rfl⟩
theorem Chain.Us{f:Run->Run}(hf:∀r,(f r).1=r.1/\(f r).2.1=r.2.1):∀{l:List Run} {i c hi:Nat},Chain F xs c l hi->Chain F xs c (l.modify i f) hi
 |[],i,_,_,h=>by cases i<;>exact h
 |r::l,0,c,hi,h=>by
  ext(⟨e,d,b,a⟩:h);rw[List.modify_zero_cons];ext(⟨e1,e2⟩:hf r);exact⟨e1.trans e,[e2]\d,[e2]\b,[e2]\a⟩
 |r::l,i+1,c,hi,h=>by
  ext(⟨e,d,b,a⟩:h);exact[List.modify_succ_cons]\⟨e,d,b,a.Us hf⟩
end
section
variable {prog:aG}{w:World}{A:aF}{E:aB}{s:ap}{κ:hW}{a₀:Array Keyed}{F:Keyed->Int}(L:rm prog w A E s κ a₀ F)
include L
theorem oY{st:f7}{i:Nat}{Q:Bool->f7->Prop}(z:SB a₀ κ st)(q:Chain F (arrOf st) 0 (d5 st).toList hi)(N:hi<=a₀.size)(v:i+1<(d5 st).size)
  (h:∀a,SB a₀ κ a->Chain F (arrOf a) 0 (d5 a).toList hi->(d5 a).size+1=(d5 st).size->(∀t,hi<=t->(arrOf a)[t]?=(arrOf st)[t]?)->Q true a):wpS (model prog w) A E s (mergeAt' i) Q st:=by
 have p:(d5 st).toList.length=(d5 st).size:=uY;obtain⟨b,x,y,post,e,f⟩:∃b x y post,(d5 st).toList=b++x::y::post/\b.length=i:=by
  refine⟨(d5 st).toList.take i,(d5 st).toList[i],(d5 st).toList[i+1],(d5 st).toList.drop (i+2),?_,by rw[zar];left⟩;rw[<- zax,<- zax,zbc]
 ext(⟨sa,na,g⟩:x)(⟨sb,nb,m⟩:y);rw[e]at q;ext(⟨d,c1,c2⟩:iB.mp q)(⟨k,G,D,j,C,B,u⟩:c2);have k:sa=d:=k;have j:sb=d+na:=j;subst k;subst j;have M:sa+na+nb+post.length<=hi:=u.le;have K:=c1.le;refine Be L (i:=i) (sa:=sa) (na:=na) (pw:=g) (sb:=sa+na) (nb:=nb) (qw:=m) z ?_ ?_ rfl G C ⋯ D B λa J I l H=>?_
 ·rw[<- fx,e,d6 ⋯,f,zbM];rfl
 ·rw[<- fx,e,d6 ⋯,f,show i+1 - i=1 by left];rfl
 ·have r:(d5 a).toList=b++(sa,na+nb,g)::post:=by
   rw[I,Array.toList_eraseIdxIfInBounds,zbA,e,List.set_append_right _ _ ⋯,f,zbM,zbx,List.eraseIdx_append_of_length_le ⋯,f,show i+1 - i=1 by left];rfl
  refine h a J ?_ ?_ λt n=>l t (.inr ⋯)
  ·rw[r];refine iB.mpr ⟨sa,c1.out λt _ n=>l t (.inl n),rfl,?_,?_,?_⟩
   ·show 1<=na+nb;left
   ·show On F (arrOf a) sa (sa+(na+nb));exact[-zaG]\H
   ·show Chain F (arrOf a) (sa+(na+nb)) post hi;exact[-zaG]\u.out λt c _=>l t (.inr c)
  ·have c:(d5 a).toList.length=(d5 a).size:=uY;rw[r]at c;rw[e]at p;simp at c p;left
end
structure SC(F:Keyed->Int)(a₀:Array Keyed)(κ:hW)(lo:Nat)(st:f7):Prop where
 b:SB a₀ κ st
 c:Chain F (arrOf st) 0 (d5 st).toList lo
section
variable {prog:aG}{w:World}{A:aF}{E:aB}{s:ap}{κ:hW}{a₀:Array Keyed}{F:Keyed->Int}(L:rm prog w A E s κ a₀ F)
include L
theorem Di(D:W_ a₀ F){st:f7}{Q:Unit->f7->Prop}(hB:SB a₀ κ st)(hp:d5 st = #[])(P:1<=a₀.size)(h:∀a,SB a₀ κ a->On F (arrOf a) 0 a₀.size->Q () a):wpS (model prog w) A E s sortRuns' Q st:=by
 rw[sortRuns'_eq];refine aaB (adz ?_);dsimp -zeta only;rw[hB.size]
 extract_lets na mr l0
 clear_value mr
 dsimp -zeta only[na,l0];clear l0;refine aaB (acT (abe (I:=λx c a=>∃lo,c=(none,lo)/\lo<=a₀.size/\x<=lo/\SC F a₀ κ lo a)
  (Q:=λc a=>c=(none,a₀.size)/\SC F a₀ κ a₀.size a) ?step ?fin ⟨0,rfl,aa6 _,aat _,hB,by rw[hp];rfl⟩) ?post)
 case fin =>
  rintro c a ⟨lo,rfl,J,H,C⟩;rw[zcb]at H;ext(rfl:acr J H);exact⟨rfl,C⟩
 case step =>
  rintro x c kM _ hx ⟨lo,rfl,J,H,C⟩;dsimp -zeta only;by_cases T:lo ≥ a₀.size
  ·refine br T ?_;ext(rfl:acr J T);exact aau ⟨rfl,C⟩
  refine bx T ?_;have R:lo+(a₀.size - lo)=a₀.size:=vu J;have G:1<=a₀.size - lo:=adS (ad1 T);refine aaB (Bg L D (adb R) G C.b λm u V m1 O O2=>?_);have d:SC F a₀ κ lo u:=⟨V.sb,[V.pend]\C.c.out λt _ Z=>V.out t (.inl Z)⟩
  clear C V;generalize a₀.size - lo=rem at R G O ⊢;dsimp -zeta only
  extract_lets nn jp g y
  apply yJ
  ·intro K;by_cases S:nn<mr
   ·refine br S ?_;refine aaB (yy (acH ⟨rfl,?_⟩));have f2:lo+g<=a₀.size:=[-R]\aaP (yaa _ _) _
    refine aaB (Ip L f2 (HS.mpr ⟨O,abh S⟩) d.b O2 λq U Oa=>?_);refine bx ⇑5 ?_;have l:SC F a₀ κ lo q:=⟨U.sb,[U.pend]\d.c.out λt _ Z=>U.out t (.inl Z)⟩
    have B:1<=y:=HS.mpr ⟨G,aaZ (aa6 _) S⟩;have N:lo+y<=a₀.size:=f2;have W:On F (arrOf q) lo (lo+y):=Oa;clear U f2 Oa
    clear_value y
    revert N
    revert B
    revert W
    revert l
    revert q
    revert y
    exact K
   ·refine bx S ?_;exact K nn u d O2 m1 ([-R]\aaP O _)
  clear d O2 m1 O G;intro n q l W B N;dsimp only[jp];clear y g jp nn;refine aaB (adz ?_);cases HU:(d5 q).back? with
  |none =>
   dsimp only;refine aaB (adK (aau ⟨lo+n,rfl,N,adt H B,⟨l.b.perm,l.b.kind,l.b.failed⟩,?_⟩));show Chain F (arrOf q) 0 ((d5 q).push (lo,n,0)).toList (lo+n);exact[zaI]\l.c.push B W
  |some r =>
   ext(⟨s1,q1,w1⟩:r);dsimp only;generalize power' a₀.size (2*s1+q1) (2*s1+q1+q1+n) a₀.size=X;refine aaB (acT (abe (I:=λ_ c a=>c=(none,())/\SC F a₀ κ lo a/\On F (arrOf a) lo (lo+n))
    (Q:=λc a=>c=(none,())/\SC F a₀ κ lo a/\On F (arrOf a) lo (lo+n)) ?_ (λ_ _ z=>z) ⟨rfl,l,W⟩) ?_)
   ·rintro x' c j _ _ ⟨rfl,k,M⟩;refine aaB (adz ?_);by_cases c5:(d5 j).size>1
    ·rw[zac c5];obtain⟨r,G⟩:∃r,(d5 j)[(d5 j).size - 2]?=↥r:=⟨(d5 j)[(d5 j).size - 2]'(acZ (ac8 c5) aeE),aeC _ _ _⟩
     rw[G];dsimp only;by_cases c6:r.2.2<=X
     ·exact[zac c6]\aau ⟨rfl,k,M⟩
     ·rw[zab c6];refine aaB (oY L k.b k.c J ⋯ λLW B5 C5 _ S5=>?_);rw[zab ⇑5];exact aau ⟨rfl,⟨B5,C5⟩,M.out λi P h2=>S5 i P⟩
    ·exact[zab c5]\aau ⟨rfl,k,M⟩
   ·rintro c j ⟨rfl,k,M⟩;dsimp only;refine aaB (adK (aaB (adK (aau ⟨lo+n,rfl,N,adt H B,⟨k.b.perm,k.b.kind,k.b.failed⟩,?_⟩))));show Chain F (arrOf j) 0 (((d5 j).modify ((d5 j).size - 1) λx=>(x.1,x.2.1,X)).push (lo,n,0)).toList (lo+n);exact[zaI,Array.toList_modify]\(k.c.Us (f:=λx=>(x.1,x.2.1,X)) λr=>⟨rfl,rfl⟩).push B M
 case post =>
  rintro c kM ⟨rfl,C⟩;dsimp only;have hif:∀(c:Prop) [Decidable c] (p:Nat),(if c then p - 1 else p)<=p:=λc _ p=>by
   by_cases h:c
   ·exact[zac h]\acu _ _
   ·exact[zab h]\aat _
  have hlen:=C.c.le;rw[zan,zaD]at hlen;refine aaB (acT (abe (I:=λx c a=>c=(none,())/\SC F a₀ κ a₀.size a/\(d5 a).size+x<=a₀.size+1)
   (Q:=λc a=>c=(none,())/\SC F a₀ κ a₀.size a/\(d5 a).size<=1) ?_ ?_ ⟨rfl,C,ac7 hlen⟩) ?_)
  ·rintro x c u _ hx ⟨rfl,d,v⟩;refine aaB (adz ?_);by_cases cp:(d5 u).size<=1
   ·exact[zac cp]\aau ⟨rfl,d,cp⟩
   rw[zab cp];refine aaB (oY L d.b d.c (aat _) (aaZ (acs (hif _ _) 1) ⋯) λq B3 l z3 _=>?_);rw[zab ⇑5];exact aau ⟨rfl,⟨B3,l⟩,aav (adb ([-z3]\(GT _ _).symm)) v⟩
  ·rintro c u ⟨rfl,d,v⟩;rw[zcb]at v;exact⟨rfl,d,Nat.le_of_add_le_add_right ([zbq 1]\v)⟩
  ·rintro c u ⟨rfl,⟨B2,d⟩,v⟩;dsimp only;refine aau (h u B2 ?_);generalize hpl:(d5 u).toList=pl at d;have Y:pl.length<=1:=[-hpl,zan]\v
   match pl,Y,d with
   |[],_,d =>
    have:0=a₀.size:=d;rw[<- this]at P;exact absurd P (P2 0)
   |[r],_,⟨_,_,o,e⟩ =>
    have e:0+r.2.1=a₀.size:=e;exact[-e]\o
   |_::_::_,Y,_=>exact absurd (MH Y) (P2 _)
end
end TS
end
section
namespace DI
open PySem PySem.Spec PyProof.Rows L2
def mf(h:Heap)(vs:aw)(nss:az):Prop:=vs.length=nss.length/\∀(i:Nat) (ns:ae),nss[i]?=↥ns->∃t a,vs[i]?=↥(.ref t)/\IsTup h t a.toArray/\im a ns
variable {h h':Heap}{nss:az}{vs:aw}
def mf.mono(k:∀b o,h.get? b=↥o->h'.get? b=↥o)(t:mf h vs nss):mf h' vs nss :=
 ⟨t.1,λi c e=>let ⟨a,aO,e1,⟨o,ho,r⟩,e3⟩:=t.2 i c e;⟨a,aO,e1,⟨o,k _ _ ho,r⟩,e3⟩⟩
def mf.mem(t:mf h vs nss){v:Value}(e:v∈vs):∃a b d,v=.ref a/\IsTup h a b.toArray/\im b d:=by
 ext(⟨i,c⟩:g8.mp e);have f:i<nss.length:=[-t.1]\(bn.mp c).1
 ext(⟨a,b,e1,e2,e3⟩:t.2 i _ (aaE f));rw[c]at e1;cases e1;exact⟨a,b,_,rfl,e2,e3⟩
variable {ns:ae}
section
variable {prog:aG}{w:World}{A:aF}{E:aB}{s:ap}
theorem qd:∀{vs:aw} {nss:az} {Q:List (Option Value)->ap->Prop},mf s.heap vs nss->(∀fs:List (Option Value),fs.length=vs.length->(∀f∈fs,∀v,f=↥v->∃n t,v=.int n t)->Q fs s)->⇑1 (vs.mapM firstOfTuple') Q E s
 |[],_,_,_,h=>[List.mapM_nil]\aak (h [] rfl λ_ h=>nomatch h)
 |v::vs,[],_,t,_=>by have:=t.1;simp at this
 |v::vs,ns::nss,Q,t,h=>by
  ext(⟨a,m,e,⟨o,c,j,n,hd⟩,d⟩:t.2 0 ns rfl);cases e;rw[List.mapM_cons];refine aaf ?_;rw[PySem.W.kas_first_eq];refine aaf (A1 (show VU (model prog w) s.heap (typeOf (.ref a)) o.cls from(EQ c).andThen .now) ?_);rw[j,zab (by first|decide|simp)];refine aaf (Do c hd (aak ?_));refine aaf (qd (vs:=vs) (nss:=nss) ⟨⇑t.1,λi g e=>t.2 (i+1) g e⟩ λfs l k=>aak (h _ (by simp[l]) λf hf v b=>?_));ext((rfl|hf):ci.mp hf)
  ·cases d with
   |nil=>simp at b
   |cons p tk d=>simp at b;exact⟨_,_,b.symm⟩
  ·exact k f hf v b
def HH(a:hW):Prop:=a=tuples' true\/a=general'\/a=oneType'
def kind_any{Q:hW->ap->Prop}(t:mf s.heap vs nss)(G:vs≠[])(h:∀C,HH C->Q C s):⇑1 (keyKind' vs.toArray) Q E s:=by
 obtain⟨e,d,rfl⟩:∃e d,vs=e::d:=by
  cases vs with
  |nil=>exact absurd rfl G
  |cons e d=>exact⟨e,d,rfl⟩
 rw[kat_kind_eq,zbC,map_eq_pure_bind];refine aaf (aaf (qd t λfs D hf=>aak ?_));by_cases j:(fs.toArray.all λx=>x.isSome)=true
 ·rw[zac j];refine aaf (acH ?_);obtain⟨c,J,p⟩:∃c:aw,fs=c.map some/\∀v∈c,∃n t,v=.int n t:=by
   clear h D t;induction fs with
   |nil=>exact⟨[],rfl,λ_ h=>nomatch h⟩
   |cons f fs H =>
    simp only[zbQ,zas,zah]at j;ext(⟨c,e1,e2⟩:H (λf y=>hf f (aap _ y)) ⇑j.2);cases f with
    |none=>simp at j
    |some v =>
     exact⟨v::c,by rw[e1];rfl,λu l=>by
      ext((rfl|l):ci.mp l)
      ·exact hf _ aam _ rfl
      ·exact e2 u l⟩
  subst J;obtain⟨i,g,rfl⟩:∃i g,c=i::g:=by
   cases c with
   |nil=>simp at D
   |cons a b=>exact⟨a,b,rfl⟩
  have q:(((i::g).map some).toArray.filterMap id)=(i::g).toArray:=by simp
  rw[q,oneTypeOnly'_eq,zbC,map_eq_pure_bind];refine aaf (aaf (aaf (PM (r:=fy "int") _ (λv k L m=>by
   ext(⟨n,t,rfl⟩:p v k);exact(yaI (M:=model prog w) rfl).here m) (aak ?_))))
  have B:((Al (λ_=>fy "int") (i::g)).toArray.all λx=>x==fy "int")=true:=by
   simp only[zbQ,zaU,zaL];intro _ _;show(fy "int" == fy "int")=true;decide
  have z:(Al (λ_=>fy "int") (i::g)).toArray[0]?=↥(fy "int"):=by simp
  rw[z];simp only[B,if_true];exact aak (aak (h _ (.inl rfl)))
 ·rw[zab j];by_cases F:((fs.toArray[0]?.bind id).isSome)=true
  ·exact[zac F]\aak (h _ (.inr (.inl rfl)))
  ·rw[zab F];rw[oneTypeOnly'_eq,zbC,map_eq_pure_bind];refine aaf (aaf (aaf (PM (r:=fy "tuple") _ (λv k L m=>by
    ext(⟨a,N,ns,rfl,⟨o,I,K,_⟩,_⟩:t.mem k);refine A1 (show VU (model prog w) s.heap (typeOf (.ref a)) o.cls from(EQ I).andThen .now) ?_;rw[K];exact m) (aak ?_))))
   have B:((Al (λ_=>fy "tuple") (e::d)).toArray.all λx=>x==fy "tuple")=true:=by
    simp only[zbQ,zaU,zaL];intro _ _;show(fy "tuple" == fy "tuple")=true;decide
   have z:(Al (λ_=>fy "tuple") (e::d)).toArray[0]?=↥(fy "tuple"):=by simp
   rw[z];simp only[B,if_true];exact aak (aak (h _ (.inr (.inr rfl))))
def OQ{l:hW}(B:HH l)(m:A.units<cLine){a b:Addr}{q r:aw}{f:ae}{Q:Bool->ap->Prop}(k:IsTup s.heap a q.toArray)(j:IsTup s.heap b r.toArray)(i:im q ns)(g:im r f)(h:Q (HT.lexLt ns f) s):
  ⇑1 (keyLt' l (.ref a) (.ref b)) Q E s:=by
 ext((rfl|rfl|rfl):B)
 ·ext(⟨o,c,_,n,hd⟩:k)(⟨H,z,_,I,u⟩:j);exact PySem.W.kat_lt c hd z u (wb 0 i g ⇑5 h)
 ·exact RF _ _ (OP k j ⇑i ⇑g m h)
 ·show ⇑1 (oneLt' true (.ref a) (.ref b)) Q E s;rw[oneLt'_eq];simp only[if_true];refine aaf (wpAny_cRoomFor m ?_);ext(⟨⟨D,C,data,x⟩,c,p,n,hd⟩:id k)(⟨⟨J,G,data2,t⟩,v,e,y,d⟩:id j);simp only at p hd e d;subst p hd e d;refine aaf (wpAny_callSpecialIfBound?_slot (name:=sh "__lt__") ⟨_,c,rfl⟩ ad2 (aeb ad2 ⟨_,c,rfl⟩ Fk (C7 _ _) (iJ false a b _ _ n y C G x t ns f ⇑i ⇑g) ⟨c,v,?_⟩));exact abV h
end
def jO(h:Heap)(d:Addr)(es:Array mB)(ep:Nat):Prop:=∃o,h.get? d=↥o/\o.ExactDict/\o.data=.dict es ep
variable {Q:Value->ap->Prop}
section
variable {prog:aG}{w:World}{A:aF}{E:aB}{s:ap}{d it:Addr}{es:Array mB}{ep i:Nat}
def jO.typeIs(h:jO s.heap d es ep):s.TypeIs (.ref d) "dict":=let ⟨o,ho,hx,_⟩:=h;⟨o,ho,hx.1⟩
def KZ(hd:(d==kb)=false)(c:jO s.heap d es ep)
  (f:Q (.ref s.heap.objs.size) { s with heap:=s.heap.push { cls:=.type "dict_keyiterator",data:=.fields #[.ref d,.int 0 0,.int es.size 0,.int ep 0] } }):⇑1 (re (.ref d)) Q E s:=by
 have a:=c.typeIs;ext(⟨o,b,g,e⟩:c);refine yaw a E_ (abN E_ a PySem.F.entry_dict_iter ?_ (PySem.F.args_dict_iter_1 _));unfold mX.«dict.__iter__» ybW;refine aaf (aaf (ad4 a (aak ?_)));show wpAny _ _ (l6 d >>= _) _ _ s;unfold l6;rw[zab ([hd]\zaj)];refine aaf (aak (aaf (acR b e (aaf (adD b e ?_)))));exact aaf (abH (aak ⟨_,rfl,"dict_keyiterator",_,⟨_,aaC _ rfl,rfl⟩,li.lookup,f⟩))
def IQ{f:Heap}{Q:Option Value->ap->Prop}(j:A.handled=none)(g:p6 it f s.heap)(k:∀h',p6 it f h'->Q none { s with heap:=h' }):
  wpAny (model prog w) A.in1 (do raiseNew (<- newExc (.type "StopIteration") [])) (λfin c=>∃v,fin=Fin.done (Flow.ret v)/\⇑1 (pure ↥v) Q E c) (λe c=>⇑1 (do if <- isInstance e (.type "StopIteration")then pure none else throw e) Q E c) s:=by
 refine aaf ?_;simp only[newExc,newTuple];refine aaf (abH ?_ (by size_fits));refine aaf (m:=wu _ _) (wpAny_of_eq (a:=ft) (by first|rfl | (simp only[wu];rfl)) ?_);refine abH ?_ (by size_fits);simp only[raiseNew];refine aaf (wpAny_handled ?_);rw[show A.in1.handled=none from j];refine aaf (aak (wpAny_throw ?_));refine aaf (FX (T:="StopIteration") (b:=true) ⟨_,aaC _ rfl,rfl⟩ Os ?_);exact aak (k _ ((g.push _).push _))
def AN{Q:Option Value->ap->Prop}(a:s.heap.IsKeyIter it d i es.size ep)(l:jO s.heap d es ep)
  (b:(∃f:i<es.size,∀h',h'.IsKeyIter it d (i+1) es.size ep->i6 it s.heap h'->Q ↥es[i].key { s with heap:=h' })\/A.handled=none/\es.size<=i/\∀h',p6 it s.heap h'->Q none { s with heap:=h' }):⇑1 (om (.ref it)) Q E s:=by
 ext(⟨o,c,n,hd⟩:id a)(⟨q,j,p,g⟩:l);unfold om;refine aaf (adZ (acW (name:=sh "__next__") a.typeIs li (abN li a.typeIs PySem.F.entry_dict_keyiterator_next ?_ (PySem.F.args_dict_keyiterator_next_1 _))));refine aaf (aak (aaf (aaf ?_)))
 first|refine aaf (ac3 a.typeIs (aak ?_))|refine aaf (adH a.typeIs (aak ?_))
 refine aaf (NM c hd ?_);simp only[show i7 "dict_keyiterator" = false by decide,adI,if_false];show wpAny _ _ (if (em d==ft)=true then _ else _) _ _ s;rw[zab (show ¬ ((em d==ft)=true) from zaj)];refine aaf (aak (aaf (acR j g ?_)));rw[zab ⇑5];refine aaf (aak (aaf (adD j g ?_)));rw[zab ⇑5];refine aak ?_;ext((⟨f,b⟩|⟨m,k,b⟩):b)
 ·simp only[show ¬ ((i:Int)<0) from by left,if_false,zao,kR f];refine aaf ?_
  first|refine aaf (ac3 a.typeIs (aak ?_))|refine aaf (adH a.typeIs (aak ?_))
  refine aaf (Vq a.typeIs ?_);show wpAny _ _ (yak (.ref it) 1 (vi ((i:Int)+1)) >>= _) _ _ s;refine aaf (aef c hd ⇑5 ?_);have e:(s.heap.update it (qX (·.setIfInBounds 1 (vi ((i:Int)+1))))).IsKeyIter it d (i+1) es.size ep :=
   ⟨_,abM _ c (O4 (oi hd _)),(VV ..).trans n,by rw[oi hd];simp[vi]⟩
  refine aaf (abT (aaf (Vq (s:={ s with heap:=s.heap.update it (qX (·.setIfInBounds 1 (vi ((i:Int)+1)))) }) e.typeIs ?_)));show wpAny _ _ (pure es[i].key) _ _ _;exact aak (aak ⟨_,rfl,aak (b _ e (acb ..))⟩)
 ·simp only[show ¬ ((i:Int)<0) from by left,if_false,zao,hG k];refine aaf ?_
  first|refine aaf (ac3 a.typeIs (aak ?_))|refine aaf (adH a.typeIs (aak ?_))
  show wpAny _ _ (yak (.ref it) 0 .none >>= _) _ _ s;refine aaf (aef c hd ⇑5 ?_);exact IQ m (acb ..).extBut b
def KY{Q:Option Value->ap->Prop}(a:s.heap.IsKeyIter it d i es.size ep)(b:jO s.heap d es ep)(e:i<es.size)
  (c:∀h',h'.IsKeyIter it d (i+1) es.size ep->i6 it s.heap h'->Q ↥es[i].key { s with heap:=h' }):⇑1 (om (.ref it)) Q E s:=AN a b (.inl ⟨e,c⟩)
def Q7{Q:Option Value->ap->Prop}(e:A.handled=none)(a:s.heap.IsKeyIter it d i es.size ep)(c:jO s.heap d es ep)(b:es.size<=i)
  (f:∀h',p6 it s.heap h'->Q none { s with heap:=h' }):⇑1 (om (.ref it)) Q E s:=AN a c (.inr ⟨e,b,f⟩)
end
theorem Fq:∀a b c:ae,HT.lexLt a b=true->HT.lexLt b c=true->HT.lexLt a c=true
 |[],[],_,h,_=>by rw[HT.kB]at h;cases h
 |[],_::_,[],_,h=>by rw[HT.cN]at h;cases h
 |[],_::_,_::_,_,_=>rfl
 |_::_,[],_,h,_=>by rw[HT.cN]at h;cases h
 |_::_,_::_,[],_,h=>by rw[HT.cN]at h;cases h
 |x::a,y::b,z::c,h1,h2=>by
  rw[HT.dY]at *;by_cases e1:x=y
  ·subst e1;rw[zac rfl]at h1;by_cases e2:x=z
   ·subst e2;rw[zac rfl]at h2 ⊢;exact Fq a b c h1 h2
   ·rw[zab e2]at h2 ⊢;exact h2
  ·rw[zab e1]at h1;have d:x<y:=aag h1;by_cases e2:y=z
   ·subst e2;exact[zab ⋯]\abg d
   ·rw[zab e2]at h2;have e:y<z:=aag h2;exact[zab ⋯]\abg ⋯
theorem pM:∀a b:ae,HT.lexLt a b=true->HT.lexLt b a=false
 |[],[],_=>rfl
 |[],_::_,_=>rfl
 |_::_,[],h=>by rw[HT.cN]at h;cases h
 |x::a,y::b,h=>by
  rw[HT.dY]at *;by_cases e:x=y
  ·subst e;rw[zac rfl]at h ⊢;exact pM a b h
  ·rw[zab e]at h;have l:x<y:=aag h;exact[zab ⋯]\aea ⋯
theorem t8:∀a b:ae,a≠b->HT.lexLt a b=true\/HT.lexLt b a=true
 |[],[],h=>absurd rfl h
 |[],_::_,_=>.inl rfl
 |_::_,[],_=>.inr rfl
 |x::a,y::b,h=>by
  rw[HT.dY,HT.dY];by_cases e:x=y
  ·subst e;exact[zac rfl,zac rfl]\t8 a b λz=>h ⇑[z]
  ·rw[zab e,zab (ja e)];ext((l|l):Up e)
   ·exact .inl (abg l)
   ·exact .inr (abg l)
def a_(nss:az):az:=nss.mergeSort λa b=>!HT.lexLt b a
def y9(nss:az):Prop:=nss.Pairwise λa b=>HT.lexLt a b=true
theorem zL:∀{l m:az},y9 l->y9 m->l.Perm m->l=m
 |[],m,_,_,p=>(List.perm_nil.mp p.symm).symm
 |a::l,[],_,_,p=>by have:=p.length_eq;simp at this
 |a::l,b::m,h1,h2,p=>by
  have e:a=b:=by
   have d:a∈b::m:=p.mem_iff.mp aam;have c:b∈a::l:=p.mem_iff.mpr aam;ext((e|d):ci.mp d)
   ·exact e
   ·ext((e|c):ci.mp c)
    ·exact e.symm
    ·ext(g:(l7.mp h2).1 a d)(f:(l7.mp h1).1 b c);rw[pM _ _ g]at f;cases f
  subst e;rw[zL (l7.mp h1).2 (l7.mp h2).2 (List.perm_cons a |>.mp p)]
def iM(h:nss.Nodup):y9 (a_ nss):=by
 have p:(a_ nss).Perm nss:=abx _ _;have nd:(a_ nss).Nodup:=p.nodup_iff.mpr h;have i:(a_ nss).Pairwise λa b=>(!HT.lexLt b a)=true:=Ix (λa b c d f=>by
  cases e:HT.lexLt c a with
  |false=>rfl
  |true =>
   exfalso;by_cases g:b=c
   ·subst g;rw[e]at d;cases d
   ·ext((l|l):t8 b c g)
    ·rw[Fq _ _ _ l e]at d;cases d
    ·rw[l]at f;cases f) (λa b=>by
  cases e:HT.lexLt b a with
  |false=>rfl
  |true=>rw[pM _ _ e];rfl) nss
 exact(i.and nd).imp λ{a b} ⟨d,f⟩=>by
  ext((l|l):t8 a b f)
  ·exact l
  ·rw[l]at d;cases d
def vy{l:az}(h:nss.Nodup)(a:y9 l)(p:l.Perm nss):l=a_ nss:=zL a (iM h) (p.trans (abx _ _).symm)
def Ex{c j:Type}(f:c->j){l o:List j}(h:l.Perm o):∀m:List c,o=m.map f->∃q:List c,q.Perm m/\l=q.map f:=by
 induction h with
 |nil=>intro m e;exact⟨[],by rw[P5.mp e.symm],rfl⟩
 |cons x _ r =>
  intro m e;ext(⟨a,n,rfl,rfl,i⟩:tr.mp e.symm)(⟨q,g,d⟩:r n i.symm);exact⟨a::q,g.cons a,by rw[d];rfl⟩
 |swap x y l =>
  intro m e;ext(⟨a,n,rfl,rfl,i⟩:tr.mp e.symm)(⟨b,k,rfl,rfl,e2⟩:tr.mp i);exact⟨b::a::k,.swap a b k,by rw[<- e2];rfl⟩
 |trans _ _ t s =>
  intro m e;ext(⟨q,g,d⟩:s m e)(⟨p,v,u⟩:t q d);exact⟨p,v.trans g,u⟩
structure Arr(p:Array Nat)(n:Nat):Prop where
 sz:p.size=n
 pm:p.toList.Perm (eg n)
def Jr(nss:az)(ns:ae):Int:=((a_ nss).idxOf ns:Nat)
def En(h:nss.Nodup){a b:ae}(l:a∈nss)(k:b∈nss):decide (Jr nss a<Jr nss b)=HT.lexLt a b:=by
 have j:(a_ nss).Perm nss:=abx _ _;ext(r:iM h)(f:acO (j.mem_iff.mpr l))(d:acO (j.mem_iff.mpr k));have i:(a_ nss)[(a_ nss).idxOf a]=a:=adJ f;have g:(a_ nss)[(a_ nss).idxOf b]=b:=adJ d;ext(up:gr.mp r);unfold Jr;cases e:HT.lexLt a b with
 |true =>
  refine abg ?_;rcases adR ((a_ nss).idxOf a) ((a_ nss).idxOf b)with c|c|c
  ·left
  ·have:a=b:=by rw[<- i,<- g];congr 1
   subst this;rw[pM _ _ e]at e;cases e
  ·have:=up _ _ d f c;rw[i,g,pM _ _ e]at this;cases this
 |false =>
  refine aea λc=>?_;have:=up _ _ f d ⋯;rw[i,g,e]at this;cases this
def Jq{a b:ae}(i:a∈nss)(g:b∈nss)(e:Jr nss a=Jr nss b):a=b:=by
 have c:(a_ nss).Perm nss:=abx _ _;ext(f:acO (c.mem_iff.mpr i))(d:acO (c.mem_iff.mpr g));have k:(a_ nss)[(a_ nss).idxOf a]=a:=adJ f;have j:(a_ nss)[(a_ nss).idxOf b]=b:=adJ d;unfold Jr at e;rw[<- k,<- j];congr 1;left
theorem Af:∀{b:aw} {ns a:ae},im b ns->im b a->ns=a
 |_,_,_,.nil,.nil=>rfl
 |_,_,_,.cons n t h,.cons _ _ h'=>by rw[Af h h']
def IB(t:mf h vs nss){i j:Nat}(g:i<nss.length)(f:j<nss.length)(e:vs[i]?=vs[j]?):nss[i]=nss[j]:=by
 ext(⟨x,m,e1,⟨o,k,_,r,l⟩,d⟩:t.2 i _ (aaE g))(⟨y,n,e2,⟨p,b,_,q,a⟩,c⟩:t.2 j _ (aaE f));rw[e1,e2]at e;cases e;rw[k]at b;cases b;rw[l]at a;injection a with a _;have:m=n:=⇑a
 subst this;exact Af d c
structure Fn(vs:aw)(nss:az):Prop where
 l:vs.length=nss.length
 f:∀(i j:Nat) (hi:i<nss.length) (hj:j<nss.length),vs[i]?=vs[j]?->nss[i]=nss[j]
def mf.fn(t:mf h vs nss):Fn vs nss:=⟨t.1,λi j b a e=>IB t b a e⟩
meta def RQ(vs:aw)(nss:az)(x:Keyed):Int:=by
 classical
 exact if h:∃i,i<nss.length/\vs[i]?=↥x.1 then Jr nss (nss.getD h.choose [])else 0
def pv(t:Fn vs nss){i:Nat}(c:i<nss.length){x:Keyed}(e:vs[i]?=↥x.1):RQ vs nss x=Jr nss nss[i]:=by
 have b:∃i,i<nss.length/\vs[i]?=↥x.1:=⟨i,c,e⟩
 have a:=b.choose_spec;unfold RQ;rw[dif_pos b];have:nss[b.choose]'a.1=nss[i]:=t.f _ _ a.1 c (a.2.trans e.symm);rw[<- this];simp[a.1]
variable {ep:Nat}
section
variable {prog:aG}{w:World}{A:aF}{E:aB}{s:ap}
def JQ{k:hW}(p:nss.Nodup)(t:Fn vs nss)(g:∀(i j:Nat) (c:i<nss.length) (f:j<nss.length) (a b:Value) (u:aB) (Q:Bool->ap->Prop),vs[i]?=↥a->vs[j]?=↥b->Q (HT.lexLt nss[i] nss[j]) s->⇑1 (keyLt' k a b) Q u s):TS.rm prog w A E s k (sd vs) (RQ vs nss):=by
 have d:∀x∈(sd vs).toList,∃i,∃c:i<nss.length,vs[i]?=↥x.1:=λx e=>by
  rw[nf]at e;ext(⟨i,c⟩:g8.mp e);rw[lc]at c;have g:i<nss.length:=by
   rw[<- t.l];obtain⟨h,_⟩:=bn.mp c.1;exact h
  exact⟨i,g,c.1⟩
 intro x y e r v Q q m;ext(⟨i,c,o⟩:d x e)(⟨j,f,n⟩:d y r);rw[pv t c o,pv t f n,En p (yq c) (yq f)]at m;rw[lt'_eq];refine aaB (adz ?_);rw[q];refine aaB (yy (adZ (g i j c f x.1 y.1 _ _ o n ⟨rfl,?_⟩)));exact aau m
def AQ(g:nss.Nodup)(t:Fn vs nss):TS.W_ (sd vs) (RQ vs nss):=by
 have inj:∀x∈(sd vs).toList,∃i,∃a:i<nss.length,vs[i]?=↥x.1/\vs[i]?=↥x.2:=λx c=>by
  rw[nf]at c;ext(⟨i,a⟩:g8.mp c);rw[lc]at a;have o:i<nss.length:=by
   rw[<- t.l];obtain⟨h,_⟩:=bn.mp a.1;exact h
  exact⟨i,o,a.1,a.2⟩
 refine⟨?_,λx c y m e=>?_⟩
 ·rw[nf];refine gr.mpr λi j a b p e=>?_;rw[zaY,zbI]at a b;rw[WP,WP]at e;have n:vs[i]?=vs[j]?:=[cb a,cb b]\aa2 some (Prod.ext_iff.mp e).1
  have:=t.f i j ([-t.l]\a) ([-t.l]\b) n;have:=(ad0 g).mp this;left
 ·ext(⟨i,a,e1,e2⟩:inj x c)(⟨j,b,d,k⟩:inj y m);rw[pv t a e1,pv t b d]at e;have:=(ad0 g).mp (Jq (aa5 a) (aa5 b) e);subst this;rw[e1]at d;rw[e2]at k;exact Prod.ext (aaV d) (aaV k)
def D4{z:hW}(m:nss.Nodup)(t:Fn vs nss){b:f7}(B:TS.SB (sd vs) z b)(O:TS.On (RQ vs nss) (arrOf b) 0 (sd vs).size):∃p,Arr p vs.length/\(p.toList.map λi=>nss.getD i [])=a_ nss/\(arrOf b).map (·.2)=iQ (p.toList.map λi=>vs.getD i ft)/\se b=none:=by
 have C:=t.l;have e0:(sd vs).toList=(eg vs.length).map λi=>(vs.getD i ft,vs.getD i ft):=by
  rw[nf];refine adx ⇑5 λi f F=>?_;rw[zaY,zbI]at f;simp[f]
 ext(⟨q,c,eq⟩:Ex _ (ip.mp B.perm) _ e0);have I:(sd vs).size=vs.length:=by rw[<- zan,e0];simp
 have r:q.length=vs.length:=by rw[c.length_eq];simp
 have n:∀i∈q,i<vs.length:=λi a=>hA.mp (c.mem_iff.mp a);ext(D:AQ m t);refine⟨q.toArray,⟨by simp[r],⇑c⟩,?_,?_,B.failed⟩
 ·refine vy m ?_ ?_
  ·refine gr.mpr λi j a d J=>?_;simp only[zaa]at a d;have a:i<q.length:=⇑a
   have d:j<q.length:=⇑d
   ext(o:O i j (aa6 _) ⋯ ⋯)(ne:D.ne B (i:=i) (j:=j) ⋯ ⋯ ⋯);have g:∀k (u:k<q.length),∃y:q[k]<nss.length,TS.R (RQ vs nss) (arrOf b) k=Jr nss nss[q[k]]:=λk u=>by
    ext(y:n q[k] (aa5 u));refine⟨by left,?_⟩;have e1:(arrOf b)[k]?=↥(vs.getD q[k] ft,vs.getD q[k] ft):=by
     rw[<- fx,eq,bv,cb u];rfl
    exact[TS.gk e1]\pv t ⋯ (by simp[y])
   ext(⟨x,H⟩:g i a)(⟨v,G⟩:g j d);rw[H,G]at o ne;have:=En m (aa5 x) (aa5 v);rw[zaK ⋯]at this;simp only[List.getElem_map,List.toList_toArray];simpa [x,v]using this.symm
  ·have e:nss=(eg nss.length).map λi=>nss.getD i []:=by
    refine adx ⇑5 λi f F=>?_;simp[f]
   conv=>rhs;rw[e]
   rw[C]at c;exact(⇑c:q.toArray.toList.Perm _).map _
 ·apply Ve.mp;rw[Vd,eq,zag];simp[M2]
def DM{a:Addr}{n:Nat}{P:PySem.Fin->ap->Prop}(t:s.heap.get? a=↥(fY "list" vs.toArray n))(T:vs.length<100000)(m:nss.Nodup)
  (o:Fn vs nss) (K:hW->Prop) (x:vs≠[]->∀Q:hW->ap->Prop,(∀d,K d->Q d ({ s with heap:=((s.heap.update a (ej λ_=>#[])).push (fY "tuple" vs.toArray 0)).push (fY "list" #[] 0) }:ap))->⇑1 (keyKind' vs.toArray) Q E ({ s with heap:=((s.heap.update a (ej λ_=>#[])).push (fY "tuple" vs.toArray 0)).push (fY "list" #[] 0) }:ap))
  (N:∀d,K d->∀(i j:Nat) (F:i<nss.length) (D:j<nss.length) (I H:Value) (S:aB) (Q:Bool->ap->Prop),vs[i]?=↥I->vs[j]?=↥H->Q (HT.lexLt nss[i] nss[j]) ({ s with heap:=((s.heap.update a (ej λ_=>#[])).push (fY "tuple" vs.toArray 0)).push (fY "list" #[] 0) }:ap)->⇑1 (keyLt' d I H) Q S ({ s with heap:=((s.heap.update a (ej λ_=>#[])).push (fY "tuple" vs.toArray 0)).push (fY "list" #[] 0) }:ap))
  (h:∀p:Array Nat,Arr p vs.length->(p.toList.map λi=>nss.getD i [])=a_ nss->P (.done (.ret .none)) { s with heap:=sortedHeap s.heap a vs (iQ (p.toList.map λi=>vs.getD i ft)) }) :
  ⇑1 (mX.«list.sort» ⟨[.ref a],[]⟩) P E s:=by
 rw[list_sort_plain];have V:a<s.heap.objs.size:=aas t;have f:vs.toArray.size=vs.length:=by simp
 have u:vs.length<=sizeLine:=by rw[kD];left
 have L:=o.l;refine aaf (Do t rfl (aaf (P8 t rfl ?_ ([f]\u) (aa6 _))));obtain⟨e1,J⟩:∃e1,(s.heap.update a (ej λ_=>#[])).get? a=↥(fY "list" #[] e1):=⟨_,get?_update_seq t (λ_=>#[])⟩
 refine aaf (seqEpoch_at J rfl (aaf (wpAny_newTuple (aaf (adY (abT ?_) (aa6 _))) ⇑u)));have g:(((s.heap.update a (ej λ_=>#[])).push (fY "tuple" vs.toArray 0)).push (fY "list" #[] 0)).get? a=↥(fY "list" #[] e1):=aaq _ (aaq _ J);show ⇑1 _ P E ({ s with heap:=((s.heap.update a (ej λ_=>#[])).push (fY "tuple" vs.toArray 0)).push (fY "list" #[] 0) }:ap);dsimp only;have fin:∀(c:f7) (p:Array Nat),Arr p vs.length->(p.toList.map λi=>nss.getD i [])=a_ nss->(arrOf c).map (·.2)=iQ (p.toList.map λi=>vs.getD i ft)->se c=none->⇑1 (do
   let touched:=(<- seqEpoch a) != e1
   wy (.ref a) λ_=>(arrOf c).map (·.2)
   if let some e:=se c then rule "list.sort.comparison-raised";throw e
   if touched then rule "list.sort.modified";raiseError "ValueError" "list modified during sort"
   ret .none) P E ({ s with heap:=((s.heap.update a (ej λ_=>#[])).push (fY "tuple" vs.toArray 0)).push (fY "list" #[] 0) }:ap):=by
  intro c p q v C y;refine aaf (seqEpoch_at g rfl ?_);rw[C];refine aaf (P8 g rfl ?_ (aa6 _) ([zad,zaa,zan,q.sz]\ac7 u));rw[y];simp only[bne_self_eq_false,zaq,if_false];exact aak (h p q v)
 by_cases b:vs.toArray.size<2
 ·rw[zac b,zac b];refine aaf (aak ?_);rw[StateT.run_pure];refine aaf (aak ?_);rw[f]at b;have k:Arr (iQ (eg vs.length)) vs.length:=⟨by simp,by simp⟩
  refine fin (yaH general' (vs.toArray.zip vs.toArray) #[] 7 none) (iQ (eg vs.length)) k ?_ ?_ rfl
  ·rw[L]at k ⊢;refine vy m (gr.mpr λi j F D X=>?_) ?_
   ·simp at F D;left
   ·exact List.Perm.of_eq (adx ⇑5 λi G b=>by simp[b])
  ·apply Ve.mp;show(Array.map (·.2) (vs.toArray.zip vs.toArray)).toList=_;rw[Vd,show(vs.toArray.zip vs.toArray)=sd vs from rfl,nf,WF (zbU _)];refine adx ⇑5 λi G b=>?_;simp[G]
 ·rw[zab b,zab b];rw[f]at b;refine aaf (x (λz=>by rw[z]at b;simp at b) _ λd M=>?_);have W:=TS.Di (prog:=prog) (w:=w) (A:=A) (E:=E) (s:=({ s with heap:=((s.heap.update a (ej λ_=>#[])).push (fY "tuple" vs.toArray 0)).push (fY "list" #[] 0) }:ap)) (st:=yaH d (sd vs) #[] 7 none) (Q:=λ_ c=>∃p,Arr p vs.length/\(p.toList.map λi=>nss.getD i [])=a_ nss/\(arrOf c).map (·.2)=iQ (p.toList.map λi=>vs.getD i ft)/\se c=none) (JQ m o (N d M)) (AQ m o) ⟨Array.Perm.refl _,rfl,rfl⟩ rfl (by
   have:(sd vs).toList.length=vs.length:=by rw[nf,zaY,zbI]
   rw[zan]at this;left) λc B O=>D4 m o B O
  refine aaf (aa1 W (λr U R=>?_) λ_ _ e=>e);ext(⟨e,p,q,v,C,y⟩:R);subst e;exact fin r.2 p q v C y
def rH{a:Addr}{n:Nat}{P:PySem.Fin->ap->Prop}(q:A.units<cLine)(t:s.heap.get? a=↥(fY "list" vs.toArray n))(e:vs.length<100000)(f:nss.Nodup)
  (b:mf (((s.heap.update a (ej λ_=>#[])).push (fY "tuple" vs.toArray 0)).push (fY "list" #[] 0)) vs nss)
  (h:∀p:Array Nat,Arr p vs.length->(p.toList.map λi=>nss.getD i [])=a_ nss->P (.done (.ret .none)) { s with heap:=sortedHeap s.heap a vs (iQ (p.toList.map λi=>vs.getD i ft)) }) :
  ⇑1 (mX.«list.sort» ⟨[.ref a],[]⟩) P E s :=
 DM t e f b.fn HH (λg Q B=>kind_any b g B) (λC u i j z v G D H Q d c r=>by
  ext(⟨x,F,e1,o,m⟩:b.2 i _ (aaE z))(⟨y,I,e2,l,k⟩:b.2 j _ (aaE v));rw[e1]at d;rw[e2]at c;cases d;cases c;exact OQ u q o l m k r) h
def GX{es:Array mB}(p:A.handled=none)(I d:Addr)(n:d≠I):Walks prog w A I [I,d] [I] es.size (λi v=>∃e,es[i]?=↥e/\v=e.key) (λi h=>h.IsKeyIter I d i es.size ep/\jO h d es ep) where
 sub:=λb c=>by simp at c;simp[c]
 frame:=λ_ _ _ a k=>⟨a.1.at λo e=>k I ⇑5 o e,let ⟨o,ho,r⟩:=a.2;⟨o,k d ⇑5 o ho,r⟩⟩
 item:=λi s Q E l a f=>KY a.1 a.2 l λh' m j=>f _ h' s.toks ⟨es[i],acp l,rfl⟩ ⟨m,let ⟨o,ho,r⟩:=a.2;⟨o,j.extBut d o n ho,r⟩⟩ λb o c e=>j.extBut b o (λh=>c (by simp[h])) e
 done:=λs Q E a f=>Q7 p a.1 a.2 (aat _) λh' g=>f h' s.toks λb o c e=>g b o (λh=>c (by simp[h])) e
 self:=λ_ _ _ _ a f=>wpAny_pyIter_keyiter a.1 f
def Q6{d:Addr}{es:Array mB}(lo:(d==kb)=false):PySem.W.KdlSrc prog w "dict" d d es.size (λi v=>∃e,es[i]?=↥e/\v=e.key) (λh=>jO h d es ep) where
 type:=λ_ a=>a.typeIs
 there:=λ_ a=>let ⟨_,ho,_⟩:=a;⟨aas ho,aas ho⟩
 keep:=λ_ _ a c=>let ⟨o,ho,r⟩:=a;⟨o,c d (.inl rfl) o ho,r⟩
 notList:=by decide
 notTuple:=by decide
 hint:=λ_ _ _ _ a b=>PySem.W.kdl_hint_dict a.typeIs b
 iter:=λ_ _ f a=>⟨_,_,(λ_ _ b=>KZ lo a b),GX f _ d (let ⟨_,ho,_⟩:=a;aax (aas ho)),⟨⟨_,aaC _ rfl,rfl,rfl⟩,let ⟨o,ho,r⟩:=a;⟨o,aaq _ ho,r⟩⟩⟩
theorem vx{d:Addr}{es:Array mB}(H:A.handled=none)(K:A.units+2<cLine)(lo:(d==kb)=false)(F:jO s.heap d es ep)(J:es.size<1000)(x:nss.Nodup)(B:mf s.heap (es.toList.map (·.key)) nss)
  (h:∀(S:Addr) (h':Heap) (tk e:Nat) (p:Array Nat),s.heap.get? S=none->(∀b o,s.heap.get? b=↥o->h'.get? b=↥o)->Arr p es.size->(p.toList.map λi=>nss.getD i [])=a_ nss ->
   h'.get? S=↥(fY "list" (iQ (p.toList.map λi=>(es.toList.map (·.key)).getD i ft)) e)->Q (.ref S) { s with heap:=h',toks:=tk }) :
  ⇑1 (call (.builtin "sorted") [.ref d]) Q E s:=by
 refine adB Ym Vv VG (VP _) ?_;unfold mX.«sorted»;have u:es.size<=sizeLine:=by rw[kD];left
 refine aaf (m:=yaD "sorted" 1 1 _) (aak (aaf (PySem.W.kdu_collect (A:=A.in1) (Q6 lo) H F u λa tk c f g=>?_)));have I:c.toList=es.toList.map (·.key):=by
  refine aey λi=>?_;rw[bv,fx,fx];by_cases G:i<es.size
  ·have t:i<c.size:=[g.1]\G
   ext(⟨e,l,z⟩:g.2 i c[i] (acp t));rw[kR t,l,z];rfl
  ·rw[hG (by rw[g.1];left),hG ⋯];rfl
 rw[I];generalize j:es.toList.map (·.key)=vs at *;have r:vs.length=es.size:=by rw[<- j];simp
 refine aaf (adY ?_ ([r]\u));show wpAny _ _ _ _ _ ({ s with heap:=a.push (fY "list" vs.toArray 0),toks:=tk }:ap);have n:(a.push (fY "list" vs.toArray 0)).get? a.objs.size=↥(fY "list" vs.toArray 0):=aaC _ rfl;have y:∀b o,s.heap.get? b=↥o->((((a.push (fY "list" vs.toArray 0)).update a.objs.size (ej λ_=>#[])).push (fY "tuple" vs.toArray 0)).push (fY "list" #[] 0)).get? b=↥o:=λb o e=>by
  refine aaq _ (aaq _ ?_);exact[qZ _ _ (zbt (xi (f b o e)))]\aaq _ (f b o e)
 have k:s.heap.get? a.objs.size=none:=by
  cases q:s.heap.get? a.objs.size with
  |none=>rfl
  |some o=>exact absurd (aas (f _ o q)) (aa8 _)
 refine aaf (abT (abN Op ⟨_,n,rfl⟩ Kk (rH (s:={ s with heap:=a.push (fY "list" vs.toArray 0),toks:=tk }) (nss:=nss) (show A.in1.in1.units<cLine by show A.units+1+1<cLine;left) n (by rw[r];left) x (B.mono y) λp D C=>⟨_,rfl,?_⟩) (O1 _)));ext(⟨e,l⟩:sortedHeap_at (out:=iQ (p.toList.map λi=>vs.getD i ft)) n);refine aak ⟨_,rfl,h a.objs.size _ tk e p k (λb o e=>?_) ([-r]\D) C l⟩;ext(v:aas (f b o e));exact[sortedHeap_old (zbG v) ([Py]\wS v)]\aaq _ (f b o e)
end
variable {X:Cx}
def Inv.UH{pins:au}{c:St}{H:Hp}{s:ap}{t':Nat}{a:Addr}{o:HO}(I:Inv X pins c H s)(k:∀b u,s.heap.get? b=↥u->h'.get? b=↥u)(g:s.heap.get? a=none)(new:cQ (upd H a o) h' a o):
  H a=none/\Inv X pins c (upd H a o) { s with heap:=h',toks:=t' }:=by
 have f:H a=none:=by
  cases q:H a with
  |none=>rfl
  |some u =>
   ext(⟨z,d⟩:gD (I.cJ a u q));rw[g]at d;exact nk d
 have up:∀b u,H b=↥u->upd H a o b=↥u:=λb u e=>[bt (dX e f)]\e
 refine⟨f,I.step (g':=s.gens) (d':=s.drawn) (ch:=[]) (λb l=>nomatch l) (λb o _ _ _ e _=>k b o e) (λb o _ _ _ e _=>⟨o.slots,k b o e⟩) (λb u _ e n=>?_)
  (λb o _ e=>⟨o,k b o e⟩) (λ_ _ e=>up _ _ e) (λ_ _ _ e=>up _ _ e) (λm j=>?_) (λb u e=>?_) I.bare⟩
 ·rw[bt λz=>by rw[z,g]at e;cases e];exact n
 ·ext(⟨o,p,ep,i,r⟩:j);exact⟨o,p,ep,k _ o i,r⟩
 ·by_cases z:b=a
  ·subst z;rw[aU]at e;cases e;exact new
  ·rw[bt z]at e;exact(I.cJ b u e).lO (k b)
section
variable {X:Cx}{pins:au}{σ:St}{H:Hp}{s:ap}{d:Addr}{cs:az}{as:aX}{xs:ah}{ep:Nat}
def Ob(I:Inv X pins σ H s)(h:H d=↥(.ext (DO d cs as xs ep))):∃a:Array mB,jO s.heap d a ep/\a.size=as.length/\a.toList.map (·.key)=as.map em/\cs.Nodup/\as.length=cs.length/\(d==kb)=false:=by
 obtain⟨⟨i,o,a,e1,e2,e3,f,c,hd,b,g,j,e⟩,_⟩:=(show cQ H s.heap d (.ext (DO d cs as xs ep)) from I.cJ d _ h)
 refine⟨a,⟨o,f,c,hd⟩,?_,?_,g,?_,e⟩
 ·rw[<- zan,b,<- e2,zaa,zaa]
 ·rw[b,<- e2,zag,zag];rfl
 ·rw[<- e1,<- e2,zaa,zaa]
end
theorem gF(g:Fl->Fl):∀a:az,ak g (a.map cH)=a.map cH
 |[]=>rfl
 |c::a=>by
  show aI g (cH c)::ak g (a.map cH)=_;rw[gF g a];have:∀c:ae,ak g (c.map D.int)=c.map D.int:=λc=>by
   induction c with
   |nil=>rfl
   |cons i c b=>show D.int i::ak g (c.map D.int)=_;rw[b];rfl
  show D.tup (ak g (c.map D.int))::_=_;rw[this];rfl
variable {N:lB}{T:qI}
def Jk{k:bw}{a:Addr}{c:ae}(h:T a (c.map V.int)):Rep T N k (.ref a) (cH c):=.tup h (aH.ints c)
def yT(U:X.calm=true)(L:X.A.units+2<cLine):fJ X (.builtin "sorted") (λx H Q=>∃(d:Addr) (cs:az) (as:aX) (w:ah) (ep:Nat),x=[.ref d]/\H d=↥(.ext (DO d cs as w ep))/\dw (aY X.K H) as cs/\cs.length<1000 /\
  ∀(l:Addr) (bs:aX),H l=none->dw (aY X.K H) bs (a_ cs)->Q (.ref l) (upd H l (.lst (bs.map V.ref)))):=by
 intro pins s σ H x us Q I r h;ext(⟨d,cs,as,w,ep,rfl,hd,y,B,q⟩:h)(⟨u,rfl,C⟩:r.one);cases C;ext(⟨Y,FR,J,z,v,hlen,Ca⟩:Ob I hd);have M:mf s.heap (Y.toList.map (·.key)) cs:=by
  rw[z];refine⟨by rw[zaa,hlen],λi ns e=>?_⟩;have f:i<as.length:=[hlen]\(bn.mp e).1
  ext(⟨BW,D,F,_⟩:I.tuple (y.tup i as[i] ns (aaE f) e));exact⟨as[i],BW,by rw[bv,cb f];rfl,F,dB D⟩
 refine vx (I.ok.hd U) L Ca FR ([J,hlen]\B) v M λS h' tk e p W Z g P k=>?_;rw[z]at k;have Pz:(p.toList.map λi=>(as.map em).getD i ft)=(p.toList.map λi=>as.getD i 0).map em:=by
  rw[zag];refine aaW λi f=>?_;have t:i<as.length:=by
   have:=hA.mp (g.pm.mem_iff.mp f);left
  simp[t]
 rw[Pz]at k;have PN:dw (aY X.K H) (p.toList.map λi=>as.getD i 0) (a_ cs):=by
  rw[<- P];refine⟨by simp,λj a c b n=>?_⟩;rw[bv]at b n;cases m:p.toList[j]? with
  |none=>rw[m]at b;exact nk b
  |some i =>
   rw[m]at b n;have t:i<as.length:=by
    have:=hA.mp (g.pm.mem_iff.mp (aa3 m));left
   cases b;cases n;exact y.tup i _ _ (by simp[t]) (by simp[show i<cs.length by left])
 have E:∀l:aX,Vals (l.map V.ref) (l.map em):=λl=>by
  induction l with
  |nil=>exact .nil
  |cons a l G=>exact .cons rfl G
 have O:sizeLine=16777216:=acI;ext(⟨R,I'⟩:Inv.UH (t':=tk) (o:=.lst ((p.toList.map λi=>as.getD i 0).map V.ref)) I Z W ⟨by rw[zaa,zaa,zan,g.sz];left,_,e,E _,k⟩);exact⟨.ref S,_,I',rfl,q S _ R PN⟩
def qh(xs:aa):O D:=match one xs with
 |some d=>match iw d with
  |some z=>if z.1.length<1000 then ok (.ow\((a_ z.1).map cH))else none
  |none=>none
 |none=>none
variable {xs:aa}
def Cv{r:D}(h:qh xs=ok r):∃f c vs,xs=[.cF f c vs]/\c.length<1000/\r=.ow\((a_ c).map cH):=by
 unfold qh at h;cases b:one xs with
 |none=>rw[b]at h;exact nk h
 |some d =>
  rw[b]at h;have h:(match iw d with|↥z=>if z.1.length<1000 then ok (D.lst .ow ((a_ z.1).map cH))else none|none=>none)=ok r:=h;cases a:iw d with
  |none=>rw[a]at h;exact nk h
  |some z =>
   rw[a]at h;ext(⟨g,rfl⟩:rX (show(if z.1.length<1000 then ok (D.lst .ow ((a_ z.1).map cH))else none)=ok r from h))(⟨f,e⟩:l_ a);exact⟨f,z.1,z.2,by rw[b8 b,e],g,rfl⟩
theorem mO{T:qI}{N:lB}:∀{bs:aX} {cs:az} {k:bw} {n:Nat},dw T bs cs->aH T N k n (bs.map V.ref) (cs.map cH)
 |[],[],_,_,_=>.nil
 |[],_::_,_,_,h=>by have:=h.len;simp at this
 |_::_,[],_,_,h=>by have:=h.len;simp at this
 |b::bs,c::cs,_,_,h=>.cons (Jk (h.tup 0 b c rfl rfl)) (mO ⟨by have:=h.len;simpa using this,λj a f e d=>h.tup (j+1) a f e d⟩)
def GR:RB (k9 ("sorted" : Str)) qh:=by
 intro q n m X S bl k L e args r F W g;ext(⟨p,j,a,rfl,rfl,I,G⟩:m_ r)(⟨c,rfl⟩:g.c1);have y:PA X [a] (sW X F q [c]):=PA.imp (cc g.1 (PA.imp dt λ_ _ _ h=>lL h) (g.2.1 _)) λ_ _ _ h=>hZ h;have B:X.A.units+2<cLine:=aaZ (aaP (by decide:2<=64) _) L.room.units;have this:PE X (.Call (.Name ("sorted" : Str) p) [a] [] j) (tD X F q (.cM n [c])):=by
  refine PE.imp (cZ (yT L.calm B) (L.gl I) (L.bl _ G) ⇑6 y (he:=g.2.1 _)) λO H Q o=>?_;ext(⟨R,t,u,d,K,i,o⟩:o)(⟨xs,J,i⟩:aJ i);rw[m]at i;ext(⟨f,z,vs,rfl,D,rfl⟩:Cv i);refine⟨R,t,u,_,K,J,λP Y e1 r1=>?_⟩;ext(⟨s,V,x⟩:r1)(⟨v,rfl,w⟩:x.one);cases w with
  |cF C E U =>
   refine⟨_,z,_,_,_,rfl,C.dat,E,D,λl bs b M=>o _ _ (e1.trans (aL.upd b)) (cz.qT (e1.free b) (e1.trans (aL.upd b)) aU ?_)⟩;exact mO (M.imp λ_ _ h=>aY.same (aL.upd b) h)
 exact⟨this,cY this λ_=>rfl⟩
section
variable {X:Cx}{pins:au}{σ:St}{H:Hp}{s:ap}{d:Addr}{cs:az}{as:aX}{xs:ah}{ep:Nat}
def TM(I:Inv X pins σ H s)(h:H d=↥(.ext (DO d cs as xs ep))):∃a:Array mB,jO s.heap d a ep/\a.size=as.length/\a.toList.map (·.key)=as.map em/\Vals xs (a.toList.map (·.val))/\as.length=cs.length/\(d==kb)=false:=by
 obtain⟨⟨g,o,a,e1,e2,e3,f,c,hd,b,i,j,e⟩,_⟩:=(show cQ H s.heap d (.ext (DO d cs as xs ep)) from I.cJ d _ h)
 refine⟨a,⟨o,f,c,hd⟩,?_,?_,?_,?_,e⟩
 ·rw[<- zan,b,<- e2,zaa,zaa]
 ·rw[b,<- e2,zag,zag];rfl
 ·exact[b,zag]\e3
 ·rw[<- e1,<- e2,zaa,zaa]
end
section
variable {prog:aG}{w:World}{A:aF}{E:aB}{s:ap}{d it:Addr}{es:Array mB}{ep i:Nat}
def GQ(d:Addr)(hd:(d==kb)=false):MeetsIn prog w (mX.«dict.values» ⟨[.ref d],[]⟩) (λ_ R s=>(∃es ep,jO s.heap d es ep)/\R (.ok (.ret (.ref s.heap.objs.size))) { s with heap:=s.heap.push { cls:=.type "dict_values",data:=.fields #[.ref d] } }) :=
 .of_wp λA R s b=>by
  ext(⟨⟨_,_,a⟩,h⟩:b);refine aaf ?_;unfold ybU;refine aaf (ad4 a.typeIs ?_);show wpAny _ _ (pure d) _ _ s;refine aak ?_;show wpAny _ _ (l6 d >>= _) _ _ s;unfold l6;exact[zab ([hd]\zaj)]\aaf (aak (aaf (abH (aak ⟨_,rfl,h⟩))))
def KR{v:Addr}(a:s.heap.IsValuesView v d)(g:jO s.heap d es ep)
  (k:Q (.ref s.heap.objs.size) { s with heap:=s.heap.push { cls:=.type "dict_valueiterator",data:=.fields #[.ref d,.int 0 0,.int es.size 0,.int ep 0] } }):⇑1 (re (.ref v)) Q E s:=by
 ext(⟨l,b,j,c⟩:id a)(⟨o,e,m,f⟩:g);refine yaw a.typeIs Pt (abN Pt a.typeIs F.entry_dict_values_iter ?_ (F.args_dict_values_iter_1 _));unfold mX.«dict_values.__iter__»;refine aaf (aak (aaf ?_));unfold U2;refine aaf (aeg b c (x:=.ref d) rfl (aak (aaf ?_)));unfold UV;refine aaf (acR e f (aaf (adD e f ?_)));simp only[show i7 "dict_valueiterator" = false by decide,adI,if_false];refine abH (aak ⟨_,rfl,"dict_valueiterator",_,⟨_,aaC _ rfl,rfl⟩,F.slot_dict_valueiterator_next.lookup,?_⟩);simpa [vi]using k
def KQ{Q:Option Value->ap->Prop}(a:s.heap.IsValIter it d i es.size ep)(g:jO s.heap d es ep)(l:i<es.size)
  (k:∀h',h'.IsValIter it d (i+1) es.size ep->i6 it s.heap h'->Q ↥es[i].val { s with heap:=h' }):⇑1 (om (.ref it)) Q E s:=by
 ext(⟨o,c,j,hd⟩:id a)(⟨n,f,m,e⟩:g);unfold om;refine aaf (adZ (acW (name:=sh "__next__") a.typeIs acw (abN acw a.typeIs AC ?_ (yu _))));refine aaf (aak (aaf (aaf ?_)))
 first|refine aaf (acC a.typeIs (aak ?_))|refine aaf (acU a.typeIs (aak ?_))
 refine aaf (NM c hd ?_);simp only[show i7 "dict_valueiterator" = false by decide,adI,if_false];show wpAny _ _ (if (em d==ft)=true then _ else _) _ _ s;rw[zab (show ¬ ((em d==ft)=true) from zaj)];refine aaf (aak (aaf (acR f e ?_)));rw[zab ⇑5];refine aaf (aak (aaf (adD f e ?_)));rw[zab ⇑5];refine aak ?_;simp only[show ¬ ((i:Int)<0) from by left,if_false,zao,kR l];refine aaf ?_
 first|refine aaf (acC a.typeIs (aak ?_))|refine aaf (acU a.typeIs (aak ?_))
 refine aaf (ad5 a.typeIs ?_);show wpAny _ _ (yak (.ref it) 1 (vi ((i:Int)+1)) >>= _) _ _ s;refine aaf (aef c hd ⇑5 ?_);have b:(s.heap.update it (qX (·.setIfInBounds 1 (vi ((i:Int)+1))))).IsValIter it d (i+1) es.size ep :=
  ⟨_,abM _ c (O4 (oi hd _)),(VV ..).trans j,by rw[oi hd];simp[vi]⟩
 refine aaf (abT ?_);refine aaf (ad5 (s:={ s with heap:=s.heap.update it (qX (·.setIfInBounds 1 (vi ((i:Int)+1)))) }) b.typeIs ?_);refine aaf (ad5 (s:={ s with heap:=s.heap.update it (qX (·.setIfInBounds 1 (vi ((i:Int)+1)))) }) b.typeIs ?_);show wpAny _ _ (pure es[i].val) _ _ _;exact aak (aak ⟨_,rfl,aak (k _ b (acb ..))⟩)
def Q2{Q:Option Value->ap->Prop}(l:A.handled=none)(c:s.heap.IsValIter it d i es.size ep)(k:jO s.heap d es ep)(j:es.size<=i)
  (n:∀h',p6 it s.heap h'->Q none { s with heap:=h' }):⇑1 (om (.ref it)) Q E s:=by
 ext(⟨o,e,r,hd⟩:id c)(⟨q,g,p,f⟩:k);unfold om;refine aaf (adZ (acW (name:=sh "__next__") c.typeIs acw (abN acw c.typeIs AC ?_ (yu _))));refine aaf (aak (aaf (aaf ?_)))
 first|refine aaf (acC c.typeIs (aak ?_))|refine aaf (acU c.typeIs (aak ?_))
 refine aaf (NM e hd ?_);simp only[show i7 "dict_valueiterator" = false by decide,adI,if_false];show wpAny _ _ (if (em d==ft)=true then _ else _) _ _ s;rw[zab (show ¬ ((em d==ft)=true) from zaj)];refine aaf (aak (aaf (acR g f ?_)));rw[zab ⇑5];refine aaf (aak (aaf (adD g f ?_)));rw[zab ⇑5];refine aak ?_;simp only[show ¬ ((i:Int)<0) from by left,if_false,zao,hG j];refine aaf ?_
 first|refine aaf (acC c.typeIs (aak ?_))|refine aaf (acU c.typeIs (aak ?_))
 show wpAny _ _ (yak (.ref it) 0 .none >>= _) _ _ s;refine aaf (aef e hd ⇑5 ?_);show wpAny _ _ (newExc (.type "StopIteration") [] >>= _) _ _ _;refine aaf ?_;simp only[newExc,newTuple];refine aaf (abH ?_ (by size_fits));refine aaf (m:=wu _ _) (wpAny_of_eq (a:=ft) (by first|rfl | (simp only[wu];rfl)) ?_);refine abH ?_ (by size_fits);simp only[raiseNew];refine aaf (wpAny_handled ?_);rw[show A.in1.handled=none from l];refine aaf (aak (wpAny_throw ?_));refine aaf (FX (T:="StopIteration") (b:=true) ⟨_,aaC _ rfl,rfl⟩ Os ?_);exact aak (n _ (((acb ..).extBut.push _).push _))
def GP(p:A.handled=none)(I d:Addr)(n:d≠I):Walks prog w A I [I,d] [I] es.size (λi v=>∃e,es[i]?=↥e/\v=e.val) (λi h=>h.IsValIter I d i es.size ep/\jO h d es ep) where
 sub:=λb c=>by simp at c;simp[c]
 frame:=λ_ _ _ a k=>⟨a.1.at λo e=>k I ⇑5 o e,let ⟨o,ho,r⟩:=a.2;⟨o,k d ⇑5 o ho,r⟩⟩
 item:=λi s Q E l a f=>KQ a.1 a.2 l λh' m j=>f _ h' s.toks ⟨es[i],acp l,rfl⟩ ⟨m,let ⟨o,ho,r⟩:=a.2;⟨o,j.extBut d o n ho,r⟩⟩ λb o c e=>j.extBut b o (λh=>c (by simp[h])) e
 done:=λs Q E a f=>Q2 p a.1 a.2 (aat _) λh' g=>f h' s.toks λb o c e=>g b o (λh=>c (by simp[h])) e
 self:=λ_ _ _ _ a f=>wpAny_pyIter_valiter a.1 f
def Q1{v:Addr}(B:A.handled=none)(t:s.heap.IsValuesView v d)(f:jO s.heap d es ep)(m:Vals (ns.map V.int) (es.toList.map (·.val)))
  (h:∀h' tk a,(∀b o,s.heap.get? b=↥o->h'.get? b=↥o)->Q (.int ns.sum a) { s with heap:=h',toks:=tk }):⇑1 (call (.builtin "sum") [.ref v]) Q E s:=by
 have hlen:es.size=ns.length:=by
  have:=m.length;simpa using this.symm
 have l:d<s.heap.objs.size:=let ⟨_,ho,_⟩:=f;aas ho;refine call_sum_walkAnyS (KR t f ⟨s.heap.objs.size,_,_,_,es.size,_,_,λi=>ns.getD i 0,rfl,(GP (A:=A.in1) (es:=es) (ep:=ep) B _ d (aax l)).toS,⟨⟨_,aaC _ rfl,rfl,rfl⟩,let ⟨o,ho,r⟩:=f;⟨o,aaq _ ho,r⟩⟩,λb j=>?_,λi v C=>?_,λc a n=>?_⟩)
 ·show b<(s.heap.push _).objs.size;rw[Py];ext((e|j):ci.mp j)
  ·exact[e]\abd _
  ·exact[am.mp j]\abo l
 ·ext(⟨e,g,rfl⟩:C);have F:i<es.size:=by
   by_cases z:i<es.size
   ·exact z
   ·rw[hG ⋯]at g;cases g
  have x:(ns.map V.int)[i]?=↥↑(ns.getD i 0):=by
   rw[bv,cb ⋯];simp[C2,show i<ns.length by left]
  ext(⟨u,k,p⟩:m.get x);rw[bv,fx,g]at k;cases k;exact p
 ·have y:∀b o,s.heap.get? b=↥o->c.heap.get? b=↥o:=λb o e =>
   n.heap b o (λD=>absurd (aas e) ([am.mp D]\aa8 _)) (aaq _ e)
  rw[Moved.eq_with n];have q:preSum (λi=>ns.getD i 0) es.size=ns.sum:=by
   rw[hlen,jw _ ns (λ_=>rfl) _ (zbU _),zbJ]
  exact[q]\h c.heap c.toks a y
end
def oO(_:Scope)(_:ao)(e:Expr):Option (aj):=match vk ("values" : Str) (.Expr e ⟨0,0,0,0⟩)with
 |some z=>if isNm z.1=true/\isNil z.2=true then ↥[z.1] else none
 |none=>none
variable {args:aj}
def yN{sc:Scope}{bl:ao}{e:Expr}(h:oO sc bl e=↥args):∃x p c b,e=.Call (.Attribute (.Name x p) ("values" : Str) c) [] [] b/\args=[.Name x p]/\(c.endLine==b.line)=true:=by
 unfold oO at h;cases d:vk ("values" : Str) (.Expr e ⟨0,0,0,0⟩)with
 |none=>rw[d]at h;exact nk h
 |some z =>
  ext(⟨o,as⟩:z);rw[d]at h;by_cases a:isNm o=true/\isNil as=true
  ·have h:(if isNm o=true/\isNil as=true then ↥[o] else none)=↥args:=h;rw[zac a]at h;cases h;ext(⟨c,b,f,e1,g⟩:o5 d);cases e1;ext(⟨x,p,rfl⟩:oD a.1)(rfl:jD a.2);exact⟨_,_,_,_,rfl,rfl,g⟩
  ·have h:(if isNm o=true/\isNil as=true then ↥[o] else none)=↥args:=h;rw[zab a]at h;exact nk h
def AU(sc:Scope)(bl:ao)(e:Expr):Option (aj):=match k9 ("sum" : Str) sc bl e with
 |some as=>match one as with
  |some i=>oO sc bl i
  |none=>none
 |none=>none
def G6{sc:Scope}{bl:ao}{e:Expr}(h:AU sc bl e=↥args):∃q b x p d c,e=.Call (.Name ("sum" : Str) q) [.Call (.Attribute (.Name x p) ("values" : Str) d) [] [] c] [] b/\args=[.Name x p]/\(d.endLine==c.line)=true/\gq sc ("sum" : Str)=true/\("sum" : Str)∈bl:=by
 unfold AU at h;cases f:k9 ("sum" : Str) sc bl e with
 |none=>rw[f]at h;exact nk h
 |some as =>
  rw[f]at h;ext(⟨q,b,a,rfl,rfl,j,i⟩:m_ f)(⟨x,p,d,c,rfl,rfl,g⟩:yN (show oO sc bl a=↥args from h));exact⟨q,b,x,p,d,c,rfl,rfl,g,j,i⟩
def RL(xs:aa):O D:=match one xs with
 |some d=>match iw d with
  |some z=>match intsOf z.2 with
   |some ns=>ok ↑ns.sum
   |none=>none
  |none=>none
 |none=>none
def NK{r:D}(h:RL xs=ok r):∃f g,∃ns:ae,xs=[.cF f g (ns.map D.int)]/\r=.int ns.sum:=by
 unfold RL at h;cases c:one xs with
 |none=>rw[c]at h;exact nk h
 |some d =>
  rw[c]at h;have h:(match iw d with|↥z=>(match intsOf z.2 with|↥ns=>ok (D.int ns.sum)|none=>none)|none=>none)=ok r:=h;cases b:iw d with
  |none=>rw[b]at h;exact nk h
  |some z =>
   rw[b]at h;have h:(match intsOf z.2 with|↥ns=>ok (D.int ns.sum)|none=>none)=ok r:=h;cases a:intsOf z.2 with
   |none=>rw[a]at h;exact nk h
   |some ns =>
    rw[a]at h;cases h;ext(⟨f,e⟩:l_ b);exact⟨f,z.1,ns,by rw[b8 c,e,eu a],rfl⟩
def VW(v d:Addr)(h:Heap):Prop:=h.IsValuesView v d
variable {p1 p2:Pos}{td:TE}
def Jv{x:Str}{p:Pos}(l:PE X (.Name x p) td)(m:(p1.endLine==p2.line)=true):PE X (.Call (.Attribute (.Name x p) ("values" : Str) p1) [] [] p2) (λf H Q=>td f H λu e=>∃d i as xs ep,u=.ref d/\e d=↥(.ext (DO d i as xs ep))/\∀v,e v=none->Q (.ref v) (upd e v (.ext (VW v d)))):=by
 intro pins s f H Q I h;refine yaz rfl rfl m C4 A4 PySem.F.type_dict_values (dO (l pins s f H _ I h) λu b y=>?_);ext(⟨v,e,c,j,d,i,as,xs,ep,t,hd,q⟩:y);subst t;cases j;ext(⟨w,z,C,G,B,hlen,A⟩:TM c hd)(⟨t1,t2⟩:dict_cls c hd);refine⟨t1,t2,?_⟩;show wpAny _ _ (callWith p2 (.builtin "dict.values") [.ref d] [] []) _ _ b;refine method_meetsIn A4 PySem.F.entry_dict_values rfl (PySem.evalArgs_none ⟨rfl,t1,PySem.F.args_dict_values_1 _,_,GQ d A,⟨w,ep,z⟩,?_⟩);have g:(b.heap.push { cls:=.type "dict_values",data:=.fields #[.ref d] }).get? b.heap.objs.size=some { cls:=.type "dict_values",data:=.fields #[.ref d] }:=aaC _ rfl;refine⟨.ref b.heap.objs.size,_,c.laid (a:=b.heap.objs.size) (o:=.ext (VW b.heap.objs.size d)) (t':=b.toks) (λ_ _ q=>aaq _ q) (aat _) ⟨⟨_,g,rfl,rfl⟩,⟨_,g⟩,?_⟩,rfl,q _ (c.cJ.fresh (aat _))⟩;rintro D E ⟨o,r,n⟩ k;exact⟨o,k _ r,n⟩
def CF(i:X.calm=true):fJ X (.builtin "sum") (λxs H Q=>∃v d b as ep,∃ns:ae,xs=[.ref v]/\H v=↥(.ext (VW v d))/\H d=↥(.ext (DO d b as (ns.map V.int) ep))/\Q ↑ns.sum H):=by
 intro pins s l H xs m Q I r h;ext(⟨v,d,b,as,ep,ns,rfl,f,hd,q⟩:h)(⟨u,rfl,c⟩:r.one);cases c;ext(⟨o,k,n,t,e,hlen,p⟩:TM I hd);obtain⟨j,_⟩:=(show cQ H s.heap v (.ext (VW v d)) from I.cJ v _ f)
 refine Q1 (I.ok.hd i) j k e λh' tk a g=>⟨.int ns.sum,H,I.kept (t':=tk) g,⟨a,rfl⟩,q⟩
variable {F:Addr->Prop}{cs:aA}{Φ:aV}
def Ti{n:Nat}(g:Φ n=RL){sc:Scope}{bl:ao}{k:Nat}(L:PX X sc bl k){e:Expr}(he:AU sc bl e=↥args)(hs:qJ X F Φ cs args):PE X e (tD X F Φ (.cM n cs))/\PT X e (jW X F Φ (.cM n cs)):=by
 ext(⟨q,b,x,p,p1,p2,rfl,rfl,w,A,z⟩:G6 he);cases cs with
 |nil=>exact hs.elim
 |cons c cs=>cases cs with
  |cons _ _=>exact hs.2.2.2.elim
  |nil =>
   have this:PE X (.Call (.Name ("sum" : Str) q) [.Call (.Attribute (.Name x p) ("values" : Str) p1) [] [] p2] [] b) (tD X F Φ (.cM n [c])):=by
    refine PE.imp (cZ (CF L.calm) (L.gl A) (L.bl _ z) ⇑6 (cc (Jv hs.1 w) dt)) λE H Q i=>?_;ext(⟨R,D,G,d,C,a,i⟩:i)(⟨xs,j,a⟩:aJ a);rw[g]at a;ext(⟨f,l,ns,rfl,rfl⟩:NK a)(⟨y,B,j⟩:aJ j);cases j;refine tD.intro C B λu M e1 r1=>?_;ext(⟨r,K,q1⟩:r1);cases q1 with
    | @cF _ o _ as I ep _ _ s J t =>
     cases t.ofInts;have hd:=s.dat;refine⟨o,l,as,_,ep,rfl,hd,λv m=>⟨v,o,l,as,ep,ns,rfl,aU,?_,i _ _ (e1.trans (aL.upd m)) ⟨λ_=>none,λ_ _ h=>by simp at h,.int _⟩⟩⟩;exact aL.upd m _ _ hd
   exact⟨this,cY this λ_=>rfl⟩
section
variable {prog:aG}{w:World}{K:Type}[DecidableEq K]{knd:HeapKind prog w K}{A:aF}{E:aB}{s:ap}
def vE{d a:Addr}{xs:List (K×Addr×Value)}{k:K}{v:Value}(t:knd.room A)(l:knd.is s.heap k a)(z:s.heap.DictOfH knd d xs)
  (C:∀p,atKey xs k=↥p->Q p.2 { s with toks:=s.toks+knd.draws k })
  (n:atKey xs k=none->∀h',h'.DictOfH knd d (r_ xs k a v)->i6 d s.heap h'->Q v { s with heap:=h',toks:=s.toks+knd.draws k })
  (hsz:xs.length<=sizeLine):⇑1 (OJ d (.ref a) v) Q E s:=by
 ext(⟨o,D,ep,c,B,hd,i,f,m⟩:z);unfold OJ
 try with_reducible refine abT ?_
 refine aaf (knd.pyHash t l ?_);refine aaf (wpAny_dictFind_heap (s:={ s with toks:=s.toks+knd.draws k }) t l c hd i f m ?_ ?_)
 ·intro g;have q:k∉xs.map (·.1):=not_mem_keys_of_get g;ext(n:n (rj g));refine aaf (acH (aaf (wpAny_updateDictKeys (hz:=by ext(e:size_of_entries i);left) (s:={ s with toks:=s.toks+knd.draws k }) c hd (aak (n _ ⟨_,_,ep+1,abM _ c (Obj.isFreed_of_dict (PP hd _)),
   B.mapDictKeys _,PP hd _,?_,?_,?_⟩ (acb ..))))))
  ·rw[Yb (rj g)];simp[i,entryOfKey]
  ·rw[Yb (rj g)];intro x b;ext((b|b):c0.mp b)
   ·exact knd.keeps (f x b) c hd (acb ..)
   ·simp only[zaN]at b;subst b;exact knd.keeps l c hd (acb ..)
  ·rw[Yb (rj g)];rw[zak,zbD];refine⟨m,by simp,?_⟩;intro x b y r;simp only[zal,zbH,zaN]at r;subst r;exact λe=>q (e▸b)
 ·intro j p u;refine aaf (acR (s:={ s with toks:=s.toks+knd.draws k }) c hd ?_);exact[entry_at i j,u]\aaf (acH (aak (C p (atKey_of_get m u))))
def tq(d a:Addr)(hd:(d==kb)=false)(v:Value):
  MeetsIn prog w (mX.«dict.setdefault» ⟨[.ref d,.ref a,v],[]⟩) (λA R s=>knd.room A.in1/\∃k xs,knd.is s.heap k a/\s.heap.DictOfH knd d xs/\xs.length<=sizeLine /\
   (∀p,atKey xs k=↥p->R (.ok (.ret p.2)) { s with toks:=s.toks+knd.draws k }) /\
   (atKey xs k=none->∀h',h'.DictOfH knd d (r_ xs k a v)->i6 d s.heap h'->R (.ok (.ret v)) { s with heap:=h',toks:=s.toks+knd.draws k })) :=
 .of_wp λA R s n=>by
  ext(⟨g,k,xs,e,b,f,m,l⟩:n);unfold mX.«dict.setdefault»;refine aaf ?_;unfold ybV;refine aaf (ad4 b.typeIs ?_);show wpAny _ _ (pure (d,em a,↥v)) _ _ s;refine aak ?_;show wpAny _ _ (if (d==kb)=true then _ else(OJ d (.ref a) v >>= _)) _ _ s;exact[zab ([hd]\zaj)]\aaf (vE g e b (λp i=>aak ⟨p.2,rfl,m p i⟩) (λj h' o c=>aak ⟨v,rfl,l j h' o c⟩) f)
end
meta def rC(J:Nat)(d:D):Nat->aa->aa
 |_,[]=>[]
 |n,x::xs=>(if n=J then d else x)::rC J d (n+1) xs
theorem aH.rC{T T':qI}{N N':lB}{q:bw}{J:Nat}{d:D}(i:∀p xs,T p xs->T' p xs)(j:∀c m p xs f,m≠J->N (c++(m::q)) p xs f->N' (c++(m::q)) p xs f){n:Nat}{vs:ah}{ds:aa}(h:aH T N q n vs ds):(∀k v,vs[k]?=↥v->n+k=J->Rep T' N' (J::q) v d)->aH T' N' q n vs (DI.rC J d n ds) :=
 h.ind (P:=λn vs ds=>(∀k v,vs[k]?=↥v->n+k=J->Rep T' N' (J::q) v d)->aH T' N' q n vs (DI.rC J d n ds)) (λ_ _=>.nil) λn v _ x _ h t g b=>by
  refine .cons ?_ (g λk v e z=>b (k+1) v e ([zS n k]\z));by_cases a:n=J
  ·rw[zac a];subst a;exact b 0 _ rfl rfl
  ·exact[zab a]\h.imp (q:=n::q) (q':=n::q) i λc p xs f h=>j c n p xs f a h
variable {ys:ah}
section
variable {X:Cx}{F R:ag}{τ:Addr->Option bw}{ρ:aS}{σ:St}{H:Hp}
def SI.XO{p a:Addr}{q q0:bw}{n:Nd}{f:Fl}{o:HO}{xs:ah}(j:SI X F R τ ρ σ H)(i:H p=↥(.lst xs))(c:τ p=↥q0)(g:q≠q0)(h:nd X.K R ⇑7 τ H q a n f):nd X.K R ⇑7 τ (upd H p o) q a n f:=by
 have b:∀{a:Addr} {z:Nd},a≠p->eN H a z->eN (upd H p o) a z:=λne h=>h.at λu e=>[bt ne]\e
 cases f with
 |ow=>exact⟨b (λz=>by subst z;exact g (aaV (h.2.symm.trans c))) h.1,h.2⟩
 |fz=>exact⟨b (λz=>by subst z;rw[j.rt _ h.2]at c;cases c) h.1,h.2⟩
 |al=>exact h.2.elim
 |sc =>
  ext(⟨ys,rfl,h⟩:h.DX);exact h.elim (λ⟨d,w⟩=>.inl ⟨d,by rw[bt (λz=>by subst z;rw[i]at w;cases w)];exact w⟩) .inr
def SI.clr{i j:Nat}{y d1:D}{p:Addr}{xs:ah}(b:SI X F R τ ρ σ H)(o:ρ[i]?=↥↥y)(l:H p=↥(.lst xs))(k:τ p=↥[j,i])
  {v:V} (r:σ[i]?=↥↥v) (s:Rep (aY X.K (upd H p (.lst ys))) (nd X.K R ⇑7 τ (upd H p (.lst ys))) [i] v d1):SI X F R τ (ρ.set i ↥d1) σ (upd H p (.lst ys)):=by
 have A:i<ρ.length:=by
  by_cases z:i<ρ.length
  ·exact z
  ·rw[dV ⋯]at o;cases o
 have there:∀a,H a≠none->upd H p (.lst ys) a≠none:=λa h=>by
  by_cases z:a=p
  ·rw[z,aU];simp
  ·exact[bt z]\h
 refine⟨by simp[b.len],λm d g=>?_,b.rt,λa t=>there a (b.rh a t),b.rf,λa q e=>there a (b.th a q e),b.t0,λa u e=>?_⟩
 ·by_cases z:m=i
  ·subst z;rw[eo A]at g;cases g;exact⟨v,r,s⟩
  ·rw[ce (ja z)]at g;ext(⟨v,x,w⟩:b.rep m d g);refine⟨v,x,w.imp (q:=[m]) (q':=[m]) (λ_ _ h=>jY l h) λc a n f h=>b.XO l k (λe=>?_) h⟩;have:=aa2 p0 e;simp at this;exact z this
 ·rw[bt (λz=>by subst z;rw[b.t0 _ _ k]at e;cases e)];exact b.same a u e
end
def FP{A:aF}{k:Nat}(a:gu k A):A.units+2<cLine:=aaZ (aaP (by decide:2<=64) _) a.units
meta def pE:Fl->Bool
 |.fz=>false
 |_=>true
variable {K:av}
def N_{R A A':ag}{a τ':Addr->Option bw}{H:Hp}{k k':bw}{v:V}{d:D}(h:Rep (aY K H) (nd K R A a H) k v d)(hf:aW pE d=false):Rep (aY K H) (nd K R A' τ' H) k' v d:=by
 have:=Rep.gen (T':=aY K H) (N':=nd K R A' τ' H) (g:=id) (P:=pE) (C:=λ_ _=>True) (I:=λ_ _=>True) ⇑10 trivial (λ_ _ e=>e) (λ_ _ _ _ e _=>e) (λk k' p xs f _ b h=>by
  cases f<;>first | (cases b;done)|exact h) h (k':=k') trivial hf
 rw[eX]at this;exact this
def mK:az->aa->ae->D->Option (aa)
 |[],vs,_,d=>if vs.length=0 then ↥[.ow\[d]] else none
 |c'::cs,vs,c,d=>match vs with
  |[]=>none
  |v::vs=>if c'=c then(match EF v with
    |some a=>if a.length<cU then ↥(.ow\(a++[d])::vs) else none
    |none=>none)else(mK cs vs c d).map (v :: ·)
theorem Ao{a:Type}{c:ae}:∀{cs:az} {xs:List a},c∉cs->cA cs xs c=none
 |[],_,_=>by unfold cA;rfl
 |c'::cs,[],_=>rfl
 |c'::cs,x::xs,h=>by
  show(if c'=c then ↥x else cA cs xs c)=none;rw[zab (λe:c'=c=>h (e▸zbm)),Ao λz=>h (zaS _ z)]
theorem zo{d:D}:∀{vs:aa} {j n m:Nat},rC (j+m) d (n+m) vs=rC j d n vs
 |[],_,_,_=>rfl
 |v::vs,j,n,m=>by
  show(if n+m=j+m then d else v)::rC (j+m) d (n+m+1) vs=(if n=j then d else v)::rC j d (n+1) vs;rw[show n+m+1=n+1+m by left,zo];by_cases e:n=j
  ·rw[zac e,zac ⋯]
  ·rw[zab e,zab ⋯]
theorem Dy{d:D}:∀{vs:aa} {j n:Nat},j<n->rC j d n vs=vs
 |[],_,_,_=>rfl
 |v::vs,j,n,h=>by
  show(if n=j then d else v)::rC j d (n+1) vs=_;rw[zab ⋯,Dy ⋯]
theorem tu{c:ae}{d:D}:∀{cs:az} {vs ws:aa},mK cs vs c d=↥ws->(c∉cs/\cs.length=vs.length/\ws=vs++[.ow\[d]])\/∃j a,vs[j]?=↥(.ow\a)/\a.length<cU/\c∈cs/\(∀(xs:ah),xs.length=vs.length->cA cs xs c=xs[j]?)/\ws=rC j (.ow\(a++[d])) 0 vs
 |[],vs,ws,h=>by
  unfold mK at h;by_cases g:vs.length=0
  ·rw[zac g]at h;cases h;ext(rfl:IS.mp g);exact .inl ⟨by simp,rfl,rfl⟩
  ·rw[zab g]at h;exact nk h
 |c'::cs,[],ws,h=>nk h
 |c'::cs,v::vs,ws,h=>by
  have h:(if c'=c then(match EF v with|↥a=>if a.length<cU then ↥(D.lst .ow (a++[d])::vs) else none|none=>none)else(mK cs vs c d).map (v :: ·))=↥ws:=h;by_cases e:c'=c
  ·rw[zac e]at h;cases b:EF v with
   |none=>rw[b]at h;exact nk h
   |some a =>
    rw[b]at h;have h:(if a.length<cU then ↥(D.lst .ow (a++[d])::vs) else none)=↥ws:=h;by_cases i:a.length<cU
    ·rw[zac i]at h;cases h;refine .inr ⟨0,a,by rw[yc b];rfl,i,e▸aam,λxs f=>?_,?_⟩
     ·cases xs with
      |nil=>cases f
      |cons x xs=>exact abi e
     ·show _=(if 0=0 then _ else v)::rC 0 _ 1 vs;rw[zac rfl,Dy ⋯]
    ·rw[zab i]at h;exact nk h
  ·rw[zab e]at h;ext(⟨o,b,rfl⟩:io.mp h)((⟨l,k,rfl⟩|⟨j,a,l,k,n,m,rfl⟩):tu b)
   ·exact .inl ⟨λz=>(ci.mp z).elim (λq=>e q.symm) l,by rw[zae,zae,k],rfl⟩
   ·refine .inr ⟨j+1,a,l,k,aap _ n,λxs f=>?_,?_⟩
    ·cases xs with
     |nil=>cases f
     |cons x xs =>
      show(if c'=c then ↥x else cA cs xs c)=_;rw[zab e,m xs (FB f)];rfl
    ·show _=(if 0=j+1 then _ else v)::rC (j+1) _ (0+1) vs;rw[zab ⋯,zo]
def vSd(e:Expr):Option (Expr×Expr):=(sU e).bind λz=>(zl z.1).bind λy=>(two z.2.1).bind λw=>(Nt w.2).bind λl =>
 if y.2.1=("setdefault" : Str)/\z.2.2.1.isEmpty=true/\(y.2.2.endLine==z.2.2.2.line)=true/\l.isEmpty=true then ↥(y.1,w.1) else none
variable {o:Expr}
def Np{e k:Expr}(h:vSd e=↥(o,k)):∃p1 p2 d,e=.Call (.Attribute o ("setdefault" : Str) p1) [k,.List [] d] [] p2/\(p1.endLine==p2.line)=true:=by
 ext(⟨⟨f,as,q,p2⟩,m,h⟩:bT h)(⟨⟨n,p,p1⟩,j,h⟩:bT h)(⟨⟨a,b⟩,i,h⟩:bT h)(⟨l,g,h⟩:bT h)(⟨c,h⟩:gT h);cases h;ext(rfl:mE m)(rfl:o7 j)(rfl:fq i)(⟨d,rfl⟩:zh g)(rfl:JK c.2.1)(rfl:JK c.2.2.2)(rfl:c.1);exact⟨p1,p2,d,rfl,c.2.2.1⟩
def yO(_:Scope)(_:ao)(st:Stmt):Option (Expr×aj):=(vk ("append" : Str) st).bind λz=>(one z.2).bind λe=>(vSd z.1).bind λy=>↥(y.1,[y.2,e])
variable {st:Stmt}
def CA{sc:Scope}{bl:ao}(h:yO sc bl st=↥(o,args)):∃k e p1 p2 d c f a,args=[k,e]/\st=.Expr (.Call (.Attribute (.Call (.Attribute o ("setdefault" : Str) p1) [k,.List [] f] [] p2) ("append" : Str) d) [e] [] c) a/\(p1.endLine==p2.line)=true/\(d.endLine==c.line)=true:=by
 ext(⟨⟨b,as⟩,m,h⟩:bT h)(⟨e,l,h⟩:bT h)(⟨⟨n,k⟩,j,h⟩:bT h);cases h;ext(rfl:b8 l)(⟨p1,p2,f,rfl,i⟩:Np j)(⟨d,c,a,rfl,g⟩:o5 m);exact⟨k,e,p1,p2,d,c,f,a,rfl,rfl,i,g⟩
variable {kd:D}
protected def OK{n i:Nat}{ρ:aS}{d:D}{r:Fo×aS}(h:EZ Φ n i ρ kd d=ok r):∃x a,ρ[i]?=↥↥x/\aW anyF kd=false/\aW anyF d=false/\Φ n [x,kd,d]=ok a/\r=(.nx,ρ.set i ↥a):=by
 unfold EZ at h;split at h
 ·rename_i x c;split at h
  ·rename_i b;ext(⟨a,f,e⟩:aJ h);cases e;exact⟨x,a,c,b.1,b.2,f,rfl⟩
  ·cases h
 ·cases h
section
variable {X:Cx}{F R:ag}{τ:Addr->Option bw}{ρ:aS}{σ:St}{H:Hp}
def SI.drop(i:Nat)(S:SI X F R τ ρ σ H):SI X F R τ (ρ.set i none) σ H:=by
 refine⟨by simp[S.len],λj d a=>?_,S.rt,S.rh,S.rf,S.th,S.t0,S.same⟩;have b:i≠j:=by
  rintro rfl;by_cases h:i<ρ.length
  ·rw[eo h]at a;cases a
  ·rw[dV (by rw[zba];left)]at a;cases a
 rw[ce b]at a;exact S.rep j d a
end
section
variable {X:Cx}{pins:au}{σ:St}{H:Hp}{s:ap}{p b:Addr}{cs:az}{as:aX}{xs:ah}{ep:Nat}{c:ae}{A:aF}{E:aB}
def GV{r:Value}{v:V}{t:Nat}{zs:List (ae×Addr×Value)}(I:Inv X pins σ H s)(h:H p=↥(.ext (DO p cs as xs ep)))(e1:zs.map (·.1)=cs)(e2:zs.map (·.2.1)=as)(e3:Vals xs (zs.map (·.2.2)))(M:cs.length<sizeLine)(hs:(p==kb)=false)(f:RelV v r)
  (dd:h'.DictOfH (vb (ov X.prog X.w)) p (r_ zs c b r)) (sb:i6 p s.heap h'):∃d,Inv X pins σ (upd H p (.ext (DO p (bo cs c) (nq cs as c b) (bQ cs xs c v) d))) { s with heap:=h',toks:=t }:=by
 ext(⟨q,L,d,e,n,m,l,_,k⟩:dd);refine⟨d,I.write (x:=p) ([h]\nv) (λb q j z=>(sb.2 b j).trans z) ⟨q,e⟩ ⟨⟨r_ zs c b r,q,L,?_,?_,?_,e,n,m,l,?_,?_,hs⟩,⟨q,e⟩,?_⟩⟩
 ·rw[gx,e1]
 ·rw[nB,e1,e2]
 ·exact[nA,e1]\vh e3 f
 ·exact[-e1,-gx (zs:=zs) (c:=c) b r]\k
 ·unfold bo;split
  ·left
  ·rw[zaf,zaC];left
 ·rintro O P ⟨J,g,a,G,C,B,y,u⟩ i;exact⟨J,g,a,G,C,B,i _ y,u⟩
def Cu{z:V}{r:Value}(U:A.units+2<cLine)(I:Inv X pins σ H s)(h:H p=↥(.ext (DO p cs as xs ep)))(k:dw (aY X.K H) as cs)(J:aY X.K H b (c.map V.int))(x:RelV z r)(O:cs.length<sizeLine)
  (M:∀v j d,cA cs xs c=↥v->Inv X pins σ H d->RelV v j->Q j d)
  (L:c∉cs->∀g d,Inv X pins σ (upd H p (.ext (DO p (bo cs c) (nq cs as c b) (bQ cs xs c z) g))) d->Q r d) :
  wpAny (model X.prog X.w) A (call (.builtin "dict.setdefault") [.ref p,.ref b,r]) Q E s:=by
 ext(⟨a,o,Y,e1,e2,e3,W,S,hd,n,_,m,l⟩:oN I h k);have y:a.length<=sizeLine:=by rw[<- e1,zaa]at m;exact m
 refine call_meetsIn wv n.typeIs PySem.F.entry_dict_setdefault (PySem.F.args_dict_setdefault_3 _ _ _) (tq (knd:=vb (ov X.prog X.w)) p b l r) ⟨adG ⋯,c,a,pP I J,n,y,λq B=>?_,λC h' P u=>?_⟩
 ·ext(e:lH (cs:=cs) e3 c);have:(atKey a c).map (·.2)=cA cs (a.map (·.2.2)) c:=by rw[ki,e1]
  rw[B]at this;rw[<- this]at e;cases f:cA cs xs c with
  |none=>rw[f]at e;exact e.elim
  |some v=>rw[f]at e;exact M v _ _ f (I.tok _) e
 ·have i:c∉cs:=λG=>by
   have:=(eB a c).mpr ([e1]\G);rw[C]at this;cases this
  ext(⟨g,R⟩:GV (t:=s.toks+(vb (ov X.prog X.w)).draws c) I h e1 e2 e3 O l x P u);exact L i g _ R
end
def Ol{x:Str}{p:Pos}{a b:Expr}{w:TA}(R:X.A.units+2<cLine)(S:PE X (.Name x p) td)(ha:PA X [a,b] w)(y:∀g,cm (a::g) X.env=(false,eval a X.env)::cm g X.env)(s2:∀g,cm (b::g) X.env=(false,eval b X.env)::cm g X.env)(W:(p1.endLine==p2.line)=true):
  PE X (.Call (.Attribute (.Name x p) ("setdefault" : Str) p1) [a,b] [] p2) (λe H Q=>td e H λv i=>∃q cs as xs ep,v=.ref q/\i q=↥(.ext (DO q cs as xs ep))/\w e i λys d=>∃k c z,ys=[.ref k,z]/\d q=↥(.ext (DO q cs as xs ep))/\dw (aY X.K d) as cs/\aY X.K d k (c.map V.int)/\cs.length<sizeLine/\(∀u,cA cs xs c=↥u->Q u d)/\(c∉cs->∀m,Q z (upd d q (.ext (DO q (bo cs c) (nq cs as c k) (bQ cs xs c z) m))))):=by
 intro pins s e H Q I h;refine yaz rfl (by rw[y,s2];rfl) W C4 wv PySem.F.type_dict_setdefault (dO (S pins s e H _ I h) λu j r=>?_);ext(⟨v,i,C,G,q,cs,as,xs,ep,ex,hd,q1⟩:r);subst ex;obtain rfl:u=em q:=G;ext(⟨t1,t2⟩:dict_cls C hd);refine⟨t1,t2,?_⟩;ext(B:ha p2 pins j e i _ C q1);rw[y]at B ⊢;refine Kf (by show(false||(nw p2 (cm [b] X.env)).any (·.1))=false;rw[s2];rfl) (ad_ ?_);refine dO B λus s3 r=>?_;ext(⟨ys,d,I2,L,k,c,z,ey,n,Y,Z,dm,O,M⟩:r);subst ey;ext(⟨w1,w2,rfl,l,f⟩:vals2 L);cases l;exact Cu R I2 n Y Z f dm (λv w' E P t J=>⟨v,d,t,J,O v P⟩) λU m E t=>⟨z,_,t,f,M U m⟩
def zt{k:bw}{v:V}{d:D}{c:ae}(a:keyOf d=↥c)(r:Rep T N k v d):∃b,v=.ref b/\T b (c.map V.int):=by
 rw[lW a]at r;ext(⟨b,xs,rfl,e,r1⟩:r.Dm);cases r1.ofInts;exact⟨b,rfl,e⟩
def yE(xs:aa):O D:=match two xs with
 |some z=>match iw z.1 with
  |some d=>match keyOf z.2 with
   |some c=>match cA d.1 d.2 c with
    |some v=>if aW pE v=false then ok v else none
    |none=>none
   |none=>none
  |none=>none
 |none=>none
def KN{r:D}(h:yE xs=ok r):∃f cs vs c kd,xs=[.cF f cs vs,kd]/\keyOf kd=↥c/\cA cs vs c=↥r/\aW pE r=false:=by
 unfold yE at h;cases g:two xs with
 |none=>rw[g]at h;cases h
 |some z =>
  rw[g]at h;have h:(match iw z.1 with|↥d=>(match keyOf z.2 with|↥c=>(match cA d.1 d.2 c with|↥v=>if aW pE v=false then ok v else none|none=>none)|none=>none)|none=>none)=ok r:=h;cases e:iw z.1 with
  |none=>rw[e]at h;cases h
  |some d =>
   rw[e]at h;have h:(match keyOf z.2 with|↥c=>(match cA d.1 d.2 c with|↥v=>if aW pE v=false then ok v else none|none=>none)|none=>none)=ok r:=h;cases b:keyOf z.2 with
   |none=>rw[b]at h;cases h
   |some c =>
    rw[b]at h;have h:(match cA d.1 d.2 c with|↥v=>if aW pE v=false then ok v else none|none=>none)=ok r:=h;cases a:cA d.1 d.2 c with
    |none=>rw[a]at h;cases h
    |some v =>
     rw[a]at h;ext(⟨hf,rfl⟩:rX (show(if aW pE v=false then ok v else none)=ok r from h))(⟨f,e1⟩:l_ e);exact⟨f,d.1,d.2,c,z.2,by rw[fq g,e1],b,a,hf⟩
def Oc(K:av):R2:=λx y H Q=>∃p b cs as xs ep c v,x=.ref p/\y=.ref b/\H p=↥(.ext (DO p cs as xs ep))/\dw (aY K H) as cs/\aY K H b (c.map V.int)/\cA cs xs c=↥v/\Q v H
def FD(J:X.A.units+2<cLine):LA X (Oc X.K):=by
 intro value slice pins s g H x y v u Q I l k h n;ext(⟨p,b,cs,as,xs,ep,c,w,rfl,rfl,t,z,C,B,q⟩:h);cases l;cases k;ext(⟨i,o,O,e1,e2,e3,L,G,hd,e,_,M,P⟩:oN I t z)(f:lH (cs:=cs) e3 c);rw[B]at f;ext(⟨u,E,m⟩:CO.some_of f);have:(atKey i c).map (·.2)=↥u:=[ki,e1]\E
 ext(⟨d,a,rfl⟩:io.mp this);exact ac1 (x:=d.2) e.typeIs zv.lookup
  (yaj (knd:=vb (ov X.prog X.w)) (Q:=λr j=>r=d.2/\EP X pins g Q r j) (adG ⋯) (pP I C) e a ⟨rfl,w,H,I.tok _,m,q⟩) n
def QX{n:Nat}(j:Φ n=yE){sc:Scope}{bl:ao}{k:Nat}(L:PX X sc bl k){e:Expr}(he:ng sc bl e=↥args)(hs:qJ X F Φ cs args):PE X e (tD X F Φ (.cM n cs))/\PT X e (jW X F Φ (.cM n cs)):=by
 unfold ng at he;cases p:xK e with
 |none=>rw[p]at he;cases he
 |some z =>
  rw[p]at he;cases he;ext(⟨i,rfl⟩:lI p)(⟨⟨c1,c2,rfl,p1,p2⟩,_⟩:mS hs);have this:PE X (.Subscript z.1 z.2 i) (tD X F Φ (.cM n [c1,c2])):=by
   refine PE.imp (EB (FD (FP L.room)) p1 p2 hs.2.2.2.2.2.1) λσ H Q l=>?_;ext(⟨R,C,ρ,d,t,g,l⟩:l)(⟨xs,a,g⟩:aJ g);rw[j]at g;ext(⟨f,cs,vs,c,kd,rfl,m,r,hf⟩:KN g)(⟨x,W,a⟩:aJ a)(⟨ys,Gs,a⟩:aJ a)(⟨y,V,Y⟩:aJ Gs);cases Y;cases a;refine tD.intro t W λv H1 e1 r1=>tD.intro (t.go e1) V λu Z e2 E=>?_;ext(⟨B,f1,q1⟩:r1)(⟨A,f2,G⟩:E)(⟨b,rfl,P⟩:zt m G);cases q1 with
   |cF M O J =>
    ext((⟨_,q⟩|⟨w,d',I,U,s,S,_⟩):pk J c)
    ·rw[r]at q;cases q
    ·rw[r]at s;cases s;refine⟨_,b,_,_,_,_,c,w,rfl,rfl,e2 _ _ M.dat,O.imp λ_ _ h=>aY.same e2 h,P,U,l w Z (e1.trans e2) ⟨λ_=>none,λ_ _ h=>by simp at h,?_⟩⟩;exact(N_ (A':=lg (gP X F) C (gJ (.cM n [c1,c2]))) (τ':=λ_=>none) (k':=[]) S hf).imp (λ_ _ h=>aY.same e2 h) λ_ _ _ _ h=>nd.same e2 h
  exact⟨this,cY this λ_=>rfl⟩
def xP(xs:aa):O D:=match three xs with
 |some z=>match z.1 with
  |.cF f cs vs=>match keyOf z.2.1 with
   |some c=>match mK cs vs c z.2.2 with
    |some a=>if cy f=true/\cs.length<cU then ok (.cF .ow (bo cs c) a)else none
    |none=>none
   |none=>none
  |_=>none
 |none=>none
protected def IC{x d r:D}(h:xP [x,kd,d]=ok r):∃cs vs c a,x=.cF .ow cs vs/\keyOf kd=↥c/\mK cs vs c d=↥a/\cs.length<cU/\r=.cF .ow (bo cs c) a:=by
 cases x<;>first|exact nk h | (cases h;done)|skip
 rename_i f cs vs;replace h:(match keyOf kd with|↥c=>(match mK cs vs c d with|↥a=>if cy f=true/\cs.length<cU then ok (D.cF .ow (bo cs c) a)else none|none=>none)|none=>none)=ok r:=h;cases e:keyOf kd with
 |none=>rw[e]at h;exact nk h
 |some c =>
  rw[e]at h;replace h:(match mK cs vs c d with|↥a=>if cy f=true/\cs.length<cU then ok (D.cF .ow (bo cs c) a)else none|none=>none)=ok r:=h;cases b:mK cs vs c d with
  |none=>rw[b]at h;exact nk h
  |some a =>
   rw[b]at h;ext(⟨⟨hf,g⟩,rfl⟩:rX (show(if cy f=true/\cs.length<cU then ok (D.cF .ow (bo cs c) a)else none)=ok r from h));cases f<;>first | (cases hf;done)|exact⟨cs,vs,c,a,rfl,rfl,b,g,rfl⟩
section
variable {X:Cx}{F R:ag}{τ:Addr->Option bw}{ρ:aS}{σ:St}{H:Hp}
def SI.acg{i j:Nat}{cs:az}{as:aX}{vs gs:aa}{d:D}{u:V}{p q:Addr}{xs:ah}(r:SI X F R τ ρ σ H)(C:ρ[i]?=↥↥(.cF .ow cs vs))(A:σ[i]?=↥↥(.ref q))(B:H q=↥(.ext (DO q cs as xs ep)))(s:τ q=↥[i])(E:dw (aY X.K H) as cs)
  (rs:aH (aY X.K H) (nd X.K R ⇑7 τ H) [i] 0 xs vs) (x:xs[j]?=↥(.ref p)) (G:vs[j]?=↥(.ow\gs)) {k:bw} (y:Rep (aY X.K H) N k u d) (hf:aW anyF d=false) :
  ∃e,H p=↥(.lst e)/\e.length=gs.length/\τ p=↥[j,i]/\SI X F R τ (ρ.set i ↥(.cF .ow cs (rC j (.ow\(gs++[d])) 0 vs))) σ (upd H p (.lst (e++[u]))):=by
 ext(⟨w,hw,v⟩:rs.get G);rw[zaD]at v;rw[x]at hw;cases hw;cases v with
 | @lst _ _ e _ _ b t =>
 refine⟨e,b.1,t.length,b.2,r.clr C b.1 b.2 A (.cF (as:=as) (ep:=ep) (xs:=xs) (r.XO (n:=.d cs as xs ep) (f:=.ow) b.1 b.2 (λz=>?_) ⟨B,s⟩) (E.imp λ_ _ h=>jY b.1 h) (aH.rC (λ_ _ h=>jY b.1 h) (λc m a n f l h=>r.XO b.1 b.2 (λz=>?_) h) rs λm w g l=>?_))⟩
 ·have:=aa2 mo z;simp at this
 ·have:=aa2 List.reverse z;simp at this;exact l this.1
 ·rw[zaD]at l;subst l;rw[x]at g;cases g;refine .lst ⟨aU,b.2⟩ (aH.snoc (aH.child (λ_ _ h=>jY b.1 h) (λc n a ys f h=>r.XO b.1 b.2 (λz=>?_) h) t) ((ou (N':=nd X.K R ⇑7 τ (upd H p (.lst (e++[u])))) y hf).imp (q:=(0+gs.length)::[m,i]) (λ_ _ h=>jY b.1 h) λ_ _ _ _ h=>h))
  ·have:=aa2 mo z;simp at this
end
def NB{n:Nat}(hΦ:Φ n=xP){sc:Scope}{bl:ao}{k:Nat}(L:PX X sc bl k)(hN:X.N.Nodup)(qH:∀x,X.fn x=true){x:Str}{pos:Pos}(he:yO sc bl st=↥(.Name x pos,args))
  {i:Nat} (hi:X.N[i]?=↥x) (hl:L2.Loc X.env.scope x) (pe:PE X (.Name x pos) (mF i)) {c1 c2:CE} (hs:qJ X F Φ [c1,c2] args):PS X st (mj X F Φ (.mu2 n i c1 c2)):=by
 ext(⟨ke,ve,p1,p2,p3,p4,pl,pos',rfl,rfl,MI,Ai⟩:CA he)(⟨⟨a1,a2,e0,h1,h2⟩,_,s1,s2⟩:mS hs);cases e0;refine PS.imp (lR (EC adO adF A2 rS (Ol (FP L.room) pe (cc h1 (cc (tO dt) dt) (s1 _)) s1 (λ_=>rfl) MI) (cc h2 dt (s2 _)) (hfew:=by rw[s2];rfl) (hline:=Ai) (hs:=s2 _))) λD W H hq=>?_;ext(⟨R,τ,Y,r,B,O,hq⟩:hq)(⟨kd,ekd,O⟩:aJ O)(⟨d,ed,O⟩:aJ O)(⟨x0,x',I,hfk,hfd,xw,rfl⟩:OK O);rw[hΦ]at xw;ext(⟨cs,vs,c,ws,rfl,hkc,G,mY,rfl⟩:IC xw)(⟨q,as,xs,ep,hv,hd,ht,hk,t⟩:B.Ou I);have hc0:cU=1000000:=rfl;have FO:sizeLine=16777216:=acI;have MJ:i<Y.length:=by
  by_cases z:i<Y.length
  ·exact z
  ·rw[dV ⋯]at I;cases I
 have fin:∀{H':Hp} {τ':Addr->Option bw} {ρ1:aS} {A:az} {g:aX} {LG:ah} {P:Nat} {vs1 gs:List DI.D} {j:Nat} {u:V},SI X F R τ' ρ1 W H'->Kp R H R H'->ρ1[i]?=↥↥(.cF .ow A vs1)->ρ1.set i none=Y.set i none->vs1[j]?=↥(.ow\gs)->gs.length<cU->A=bo cs c->ws=rC j (.ow\(gs++[d])) 0 vs1 ->
   H' q=↥(.ext (DO q A g LG P))->τ' q=↥[i]->dw (aY X.K H') g A->aH (aY X.K H') (nd X.K R ⇑7 τ' H') [i] 0 LG vs1->LG[j]?=↥u->YQ X.K "list" u H'/\DJ (tD X F Φ c2) NH W H' λxs H2=>zN u xs H2 λ_ H3=>D.nx W H3:=by
  intro H' τ' ρ1 A g LG P vs1 gs j u eH kp MG U7 hj hg ek ew wt Pq CZ tF E;ext(S:eH.drop i);rw[U7]at S;ext(⟨w,hw,kN⟩:tF.get hj);rw[E]at hw;cases hw;ext(⟨l,zs,rfl,Z,rz⟩:kN.nN);refine⟨⟨rfl,_,eG.of Z.1⟩,tD.intro S ed λy H3 e3 r3=>?_⟩;ext(⟨τ3,f3,q3⟩:r3)(⟨zs3,J,g5,g6,U⟩:(eH.go e3).acg MG hv (e3 _ _ wt) Pq (CZ.imp λ_ _ h=>aY.same e3 h) (tF.imp (λ_ _ h=>aY.same e3 h) λ_ _ _ _ h=>nd.same e3 h) E hj q3 hfd);refine⟨l,zs3,y,rfl,rfl,J,by left,?_⟩;have er:ρ1.set i ↥(.cF .ow A (rC j (.ow\(gs++[d])) 0 vs1))=Y.set i ↥(.cF .ow (bo cs c) ws):=by
   rw[ek,<- ew];have:=aa2 (λz:aS=>z.set i ↥(.cF .ow (bo cs c) ws)) U7;simpa using this
  rw[er]at U;exact hq W _ R τ' U (kp.trans (pN (n:=.l _) (eH.go e3) e3 (λ_ h=>h) J g6))
 refine⟨.ref q,hv,q,cs,as,xs,ep,rfl,hd,tD.intro B ekd λu p e1 ru=>⟨by simp,λl Z=>?_⟩⟩;ext(⟨τ1,f1,r1⟩:ru)(⟨b,rfl,hb⟩:zt hkc r1);have e2:aL p (upd p l (.lst [])):=aL.upd Z;ext(e:e1.trans e2)(sO:B.go e)(Ak:hk.imp λ_ _ h=>aY.same e h);have f:aY X.K (upd p l (.lst [])) b (c.map V.int):=aY.same e2 hb;have L3:aH (aY X.K (upd p l (.lst []))) (nd X.K R ⇑7 τ (upd p l (.lst []))) [i] 0 xs vs:=t.imp (λ_ _ h=>aY.same e h) λ_ _ _ _ h=>nd.same e h;refine⟨b,c,.ref l,rfl,e _ _ hd,Ak,f,by left,λw hw=>?_,λhn l8=>?_⟩
 ·ext((⟨HR,_,_⟩|⟨j,gs,g1,g2,g3,J,g5⟩):tu G)
  ·rw[Ao HR]at hw;exact nk hw
  ·rw[J xs t.length]at hw;exact fin sO (Kp.of e λ_ h=>h) I rfl g1 g2 (by unfold bo;rw[zac g3]) g5 (e _ _ hd) ht Ak L3 hw
 ·ext((⟨HR,hlen,hws⟩|⟨j,gs,g1,g2,g3,J,g5⟩):tu G)
  ·have s:H l=none:=e1.free Z;have hlq:l≠q:=λz=>by rw[z,hd]at s;cases s
   have rk:gX X R τ (upd p l (.lst [])) (.ref l) (.ow\[]):=⟨λa=>if a=l then ↥[] else none,λa z hz=>by
    by_cases ha:a=l
    ·subst ha;refine⟨?_,λhr=>B.rh a hr s,?_,by rw[aU];simp⟩
     ·cases hta:τ a with
      |none=>rfl
      |some z=>exact absurd s (B.th a z hta)
     ·cases h0:X.H₀ a with
      |none=>rfl
      |some o=>rw[B.same a o h0]at s;cases s
    ·simp[ha]at hz,.lst ⟨aU,by simp⟩ .nil⟩
   have C:eN (upd p l (.lst [])) q (.d cs as xs ep):=e _ _ hd;have ekc:bo cs c=cs++[c]:=by unfold bo;rw[zab HR]
   have M:bQ cs xs c (.ref l)=xs++[.ref l]:=by unfold bQ;rw[zab HR]
   obtain⟨τ3,Lv,ht3,rs3⟩:=sO.T2 (m:=vs.length) (n':=.d (bo cs c) (nq cs as c b) (bQ cs xs c (.ref l)) l8) (o:=.ext (DO q (bo cs c) (nq cs as c b) (bQ cs xs c (.ref l)) l8)) (d1:=.cF .ow (bo cs c) (vs++[.ow\[]])) (xs':=bQ cs xs c (.ref l)) (ds':=vs++[.ow\[]]) I hv C ht L3 rk aU
    (λhN r=>.cF hN (pO (Ak.imp λ_ _ h=>mH C h) (mH C f)) r) (λt r=>by ext(h:aH.snoc t ⇑r);rw[<- M]at h;exact h)
   refine fin (vs1:=vs++[.ow\[]]) (gs:=[]) (j:=vs.length) Lv (pN sO e (λ_ h=>h) C ht) ⇑[eo MJ] ⇑5 ⇑5 (by simp;left) rfl ?_ aU ht3 (pO (Ak.imp λ_ _ h=>mH C h) (mH C f)) rs3 (by rw[M,d6 ([t.length]\zbU _),t.length];simp);rw[hws];have:∀(vs:List DI.D) (n:Nat),rC (n+vs.length) (.ow\[d]) n (vs++[.ow\[]])=vs++[.ow\[d]]:=λvs=>by
    induction vs with
    |nil=>intro n;show(if n=n+0 then _ else _)::rC _ _ _ []=_;rw[zac ⋯];rfl
    |cons v vs ih =>
     intro n;show(if n=n+(vs.length+1)then _ else v)::rC (n+(vs.length+1)) _ (n+1) (vs++[.ow\[]])=_;rw[zab ⋯,show n+(vs.length+1)=n+1+vs.length by left,ih];rfl
   ext(h0:this vs 0);rw[zaD]at h0;exact h0.symm
  ·exact absurd g3 hn
meta def Dx(n:Int):ae:=(eg n.toNat).map λ(k:Nat)=>(k:Int)
def su(xs:aa):O D:=match two xs with
 |some z=>match z.1 with
  |.lst _ a=>match z.2 with
   |.int k=>if k = -1/\1<=a.length then ok (.ow\(ak bp (a.drop (a.length - 1))))else none
   |_=>none
  |_=>none
 |none=>none
def G3{x y d:D}(h:su [x,y]=ok d):∃(f:Fl) (ds:aa),x=.lst f ds/\y=.int (-1)/\1<=ds.length/\d=.ow\(ak bp (ds.drop (ds.length - 1))):=by
 cases x<;>first|exact nk h | (cases h;done) | (cases y<;>first|exact nk h | (cases h;done)|skip)
 ext(⟨⟨c,b⟩,a⟩:rX h);subst c;exact⟨_,_,rfl,rfl,b,a.symm⟩
def K1{n:Nat}(r:Φ n=su){sc:Scope}{bl:ao}{k:Nat}(L:PX X sc bl k){e:Expr}(he:nh true sc bl e=↥args)(hs:qJ X F Φ cs args):PE X e (tD X F Φ (.cM n cs))/\PT X e (jW X F Φ (.cM n cs)):=by
 ext(⟨a,O,p,m,rfl,rfl⟩:sF he);cases cs with
 |nil=>exact hs.elim
 |cons c cs=>cases cs with
  |nil=>exact hs.2.2.2.elim
  |cons E cs=>cases cs with
   |cons _ _=>exact hs.2.2.2.2.2.2.elim
   |nil =>
    ext(⟨V,_,_,U,_,_,_⟩:hs);have this:PE X (.Subscript a (.Slice ↥O none none p) m) (tD X F Φ (.cM n [c,E])):=by
     refine PE.imp (vU (L2.tj) V (tJ U) tL) λσ H Q s=>?_;ext(⟨R,τ,ρ,d,z,j,s⟩:s)(⟨xs,g,j⟩:aJ j)(⟨x,ex,g⟩:aJ g)(⟨ys,A,g⟩:aJ g);cases g;ext(⟨y,Z,A⟩:aJ A);cases A;rw[r]at j;ext(⟨f,C,rfl,rfl,j2,rfl⟩:G3 j);refine tD.intro z ex λv H1 e1 r1=>tD.intro (z.go e1) Z λw H2 e2 M=>?_;cases M.isInt;refine⟨-1,rfl,?_⟩;ext(J:(r1.go e2).mono (fv':=gJ (.cM n [c,E])) λi S=>aa0 _ S)(⟨G,Y,I⟩:J)(⟨q,xs,rfl,P,B⟩:I.nN)(t:e1.trans e2);have hlen:=B.length;refine⟨q,xs,rfl,P.sq,λl b=>?_⟩;have u:Cz xs ↥(-1) none=xs.drop (C.length - 1):=by
      unfold Cz;have W:HT.uW xs.length 0 ↥(-1)=xs.length - 1:=by
       unfold HT.uW;simp;left
      rw[W,HT.D3,<- zbo,zbJ,hlen]
     rw[u];refine s _ _ (t.trans (aL.upd b)) (cz.qT (t.free b) (t.trans (aL.upd b)) aU ?_);exact((B.GS (C.length - 1)).gM z Y).imp (λ_ _ h=>aY.same (aL.upd b) h) λ_ _ _ _ h=>nd.same (aL.upd b) h
    exact⟨this,cY this λ_=>rfl⟩
def kz:aa->Option (az)
 |[]=>↥[]
 |d::ds=>match keyOf d with
  |some c=>(kz ds).map (c :: ·)
  |none=>none
theorem vK:∀{ds:aa} {nss:az},kz ds=↥nss->ds=nss.map cH
 |[],nss,h=>by cases h;rfl
 |d::ds,nss,h=>by
  have h:(match keyOf d with|↥c=>(kz ds).map (c :: ·)|none=>none)=↥nss:=h;cases a:keyOf d with
  |none=>rw[a]at h;cases h
  |some c =>
   rw[a]at h;ext(⟨b,e,rfl⟩:io.mp (show(kz ds).map (c :: ·)=↥nss from h));rw[vK e,lW a];rfl
theorem rK:∀nss:az,kz (nss.map cH)=↥nss
 |[]=>rfl
 |c::nss=>by
  show(match keyOf (cH c)with|↥c=>(kz (nss.map cH)).map (c :: ·)|none=>none)=_;have:keyOf (cH c)=↥c:=bX c;rw[this,rK nss];rfl
def L4(K:av)(H:Hp)(ys:ah)(nss:az):Prop:=ys.length=nss.length/\∀(i:Nat) (ns:ae),nss[i]?=↥ns->∃t,ys[i]?=↥(.ref t)/\aY K H t (ns.map V.int)
def BB{H:Hp}{k:bw}{n:Nat}(r:aH (aY K H) N k n ys (nss.map cH)):L4 K H ys nss:=by
 refine⟨by rw[r.length,zaa],λi ns e=>?_⟩;obtain⟨v,c,a⟩:=r.get (j:=i) (d:=cH ns) (by rw[bv,e];rfl);cases a with
 |tup f b=>cases b.ofInts;exact⟨_,c,f⟩
section
variable {prog:aG}{w:World}{A:aF}{E:aB}{s:ap}
def s_{l:Addr}(r:A.units+2<cLine)(n:s.heap.IsList l vs.toArray)(q:vs.length<1000)(c:nss.Nodup)(g:mf s.heap vs nss)
  (h:∀p:Array Nat,Arr p vs.length->(p.toList.map λi=>nss.getD i [])=a_ nss->Q (.ref (s.heap.objs.size+1)) { s with heap:=sortedAll s.heap vs (iQ (p.toList.map λi=>vs.getD i ft)) }) :
  ⇑1 (call (.builtin "sorted") [.ref l]) Q E s:=by
 refine adB Ym Vv VG (VP _) ?_;unfold mX.«sorted»;have a:vs.length<=sizeLine:=by rw[kD];left
 refine aaf (m:=yaD "sorted" 1 1 _) (aak (aaf (collect_list n (aaf (adY ?_ a)) a)));have e1:((s.heap.push (fY "list" #[] 0)).update s.heap.objs.size (ej (· ++ vs.toArray))).objs.size=s.heap.objs.size+1:=by rw[Xw,Py]
 have e2:(((s.heap.push (fY "list" #[] 0)).update s.heap.objs.size (ej (· ++ vs.toArray))).push (fY "list" vs.toArray 0)).get? (s.heap.objs.size+1)=↥(fY "list" vs.toArray 0):=by
  exact[-e1]\aaC _ rfl
 show wpAny _ _ _ _ _ ({ s with heap:=((s.heap.push (fY "list" #[] 0)).update s.heap.objs.size (ej (· ++ vs.toArray))).push (fY "list" vs.toArray 0) }:ap);rw[e1];have f:∀b o,s.heap.get? b=↥o->(((s.heap.push (fY "list" #[] 0)).update s.heap.objs.size (ej (· ++ vs.toArray))).push (fY "list" vs.toArray 0)).get? b=↥o:=λb o e=>by
  refine aaq _ ?_;exact[qZ _ _ (zbt (xi e))]\aaq _ e
 have d:∀b o,s.heap.get? b=↥o->((((((s.heap.push (fY "list" #[] 0)).update s.heap.objs.size (ej (· ++ vs.toArray))).push (fY "list" vs.toArray 0)).update (s.heap.objs.size+1) (ej λ_=>#[])).push (fY "tuple" vs.toArray 0)).push (fY "list" #[] 0)).get? b=↥o:=λb o e=>by
  refine aaq _ (aaq _ ?_);exact[qZ _ _ (zbt (wS (xi e)))]\f b o e
 exact aaf (abT (abN Op ⟨_,e2,rfl⟩ Kk (rH (s:={ s with heap:=((s.heap.push (fY "list" #[] 0)).update s.heap.objs.size (ej (· ++ vs.toArray))).push (fY "list" vs.toArray 0) }) (nss:=nss) (show A.in1.in1.units<cLine by show A.units+1+1<cLine;left) e2 ⋯ c (g.mono d) λp k j=>⟨_,rfl,aak ⟨_,rfl,h p k j⟩⟩) (O1 _)))
end
def yS(y:X.A.units+2<cLine):fJ X (.builtin "sorted") (λxs H Q=>∃(p:Addr) (ys:ah) (nss:az),xs=[.ref p]/\eG X.K H p ys/\L4 X.K H ys nss/\nss.Nodup/\nss.length<1000 /\
  ∀(l:Addr) (bs:aX),H l=none->dw (aY X.K H) bs (a_ nss)->Q (.ref l) (upd H l (.lst (bs.map V.ref)))):=by
 intro pins s σ H xs us Q I r h;ext(⟨p,ys,nss,rfl,Y,⟨hl,hT⟩,P,xB,q⟩:h)(⟨u,rfl,w⟩:r.one);cases w;ext(⟨d,E,O,hz⟩:I.list Y);have MJ:d.length=nss.length:=[-E.length]\hl
 have k:∀(i:Nat) (ns:ae),nss[i]?=↥ns->∃t,ys[i]?=↥(.ref t)/\d[i]?=↥(.ref t)/\aY X.K H t (ns.map V.int):=λi ns e=>by
  ext(⟨t,e1,e2⟩:hT i ns e)(⟨u,y,w⟩:E.get e1);cases w;exact⟨t,e1,y,e2⟩
 have P4:∃as:aX,d=as.map em/\as.length=nss.length:=by
  have:∀(d:aw) (nss:az),d.length=nss.length->(∀(i:Nat) (ns:ae),nss[i]?=↥ns->∃t,d[i]?=↥(.ref t))->∃as:aX,d=as.map em/\as.length=nss.length:=λd=>by
   induction d with
   |nil=>intro nss h _;exact⟨[],rfl,⇑h⟩
   |cons v d x =>
    intro nss h G;cases nss with
    |nil=>simp at h
    |cons ns nss =>
     ext(⟨t,U⟩:G 0 ns rfl)(⟨as,f,g⟩:x nss ⇑h λi R e=>G (i+1) R e);cases U;exact⟨t::as,by rw[f];rfl,by simp[g]⟩
  exact this d nss MJ λi ns e=>let ⟨t,_,h,_⟩:=k i ns e;⟨t,h⟩
 ext(⟨as,rfl,J⟩:P4);have hk:dw (aY X.K H) as nss:=⟨J,λj a c f g=>by
  ext(⟨t,_,e2,e3⟩:k j c g);rw[bv,f]at e2;cases e2;exact e3⟩
 refine s_ (nss:=nss) y (dP O) (by rw[zaa];left) P ⟨by rw[zaa,J],λi ns e=>?_⟩ λm n W=>?_
 ·ext(⟨t,_,e2,e3⟩:k i ns e)(⟨BW,L,S,_⟩:I.tuple e3);exact⟨t,BW,e2,S,dB L⟩
 ·rw[zaa]at n;have Pz:(m.toList.map λi=>(as.map em).getD i ft)=(m.toList.map λi=>as.getD i 0).map em:=by
   rw[zag];refine aaW λi hi=>?_;have C:i<as.length:=hA.mp (n.pm.mem_iff.mp hi);simp[C]
  rw[Pz];have PN:dw (aY X.K H) (m.toList.map λi=>as.getD i 0) (a_ nss):=by
   rw[<- W];refine⟨by simp,λj a c f g=>?_⟩;rw[bv]at f g;cases B:m.toList[j]? with
   |none=>rw[B]at f;cases f
   |some i =>
    rw[B]at f g;have C:i<as.length:=hA.mp (n.pm.mem_iff.mp (aa3 B));cases f;cases g;exact hk.tup i _ _ (by simp[C]) (by simp[show i<nss.length by left])
  have M:∀l:aX,Vals (l.map V.ref) (l.map em):=λl=>by
   induction l with
   |nil=>exact .nil
   |cons a l x=>exact .cons rfl x
  ext(⟨e,he⟩:sortedAll_at s.heap (as.map em) (iQ ((m.toList.map λi=>as.getD i 0).map em)));have Z:H (s.heap.objs.size+1)=none:=I.cJ.fresh (adU _);refine⟨.ref (s.heap.objs.size+1),upd H (s.heap.objs.size+1) (.lst ((m.toList.map λi=>as.getD i 0).map V.ref)),I.laid (t':=s.toks) (λb u z=>sortedAll_old z) (adU _) ⟨?_,_,e,M _,he⟩,rfl,q _ _ Z PN⟩;rw[zaa,zaa,zan,n.sz,kD];left
def pd(xs:aa):O D:=match one xs with
 |some x=>match x with
  |.lst _ a=>match kz a with
   |some nss=>if nss.Nodup/\nss.length<1000 then ok (.ow\((a_ nss).map cH))else none
   |none=>none
  |_=>none
 |none=>none
protected def Bw{r:D}(h:pd xs=ok r):∃(f:Fl) (nss:az),xs=[.lst f (nss.map cH)]/\nss.Nodup/\nss.length<1000/\r=.ow\((a_ nss).map cH):=by
 unfold pd at h;cases b:one xs with
 |none=>rw[b]at h;cases h
 |some x =>
  rw[b]at h;ext(rfl:b8 b);cases x<;>first | (cases h;done)|skip
  rename_i f c;have h:(match kz c with|↥nss=>if nss.Nodup/\nss.length<1000 then ok (D.lst .ow ((a_ nss).map cH))else none|none=>none)=ok r:=h;cases a:kz c with
  |none=>rw[a]at h;cases h
  |some nss =>
   rw[a]at h;ext(⟨⟨g,e⟩,d⟩:rX h);cases vK a;exact⟨f,nss,rfl,g,e,d.symm⟩
def DN:RB (k9 ("sorted" : Str)) pd:=by
 intro Φ n m X U bl k L e args s F cs g;ext(⟨p,j,a,rfl,rfl,E,C⟩:m_ s)(⟨c,rfl⟩:g.c1);have z:PA X [a] (sW X F Φ [c]):=PA.imp (cc g.1 (PA.imp dt λ_ _ _ h=>lL h) (g.2.1 _)) λ_ _ _ h=>hZ h;have B:X.A.units+2<cLine:=aaZ (aaP (by decide:2<=64) _) L.room.units;have this:PE X (.Call (.Name ("sorted" : Str) p) [a] [] j) (tD X F Φ (.cM n [c])):=by
  refine PE.imp (cZ (yS B) (L.gl E) (L.bl _ C) ⇑6 z (he:=g.2.1 _)) λP H Q q=>?_;ext(⟨R,u,w,d,M,i,q⟩:q)(⟨xs,J,i⟩:aJ i);rw[m]at i;ext(⟨f,nss,rfl,I,G,rfl⟩:Bw i);refine⟨R,u,w,_,M,J,λS W e1 r1=>?_⟩;ext(⟨t,V,y⟩:r1)(⟨v,rfl,x⟩:y.one);cases x with
  |lst h r =>
   refine⟨_,_,nss,rfl,h.sq,BB r,I,G,λl bs b O=>q _ _ (e1.trans (aL.upd b)) (cz.qT (e1.free b) (e1.trans (aL.upd b)) aU ?_)⟩;exact mO (O.imp λ_ _ h=>aY.same (aL.upd b) h)
 exact⟨this,cY this λ_=>rfl⟩
end DI
end
section
namespace DI
open PySem PySem.Spec PyProof.Rows PySem.W
structure XC(K:Frag)(C:Addr):Prop where
 ga:findIn K (.ref C) "__getattribute__" = ↥↥(.builtin "BaseException.__getattribute__")
 gt:findIn K (.ref C) "__getattr__" = ↥none
 cl:findIn K (.ref C) "__class__" = ↥↥(.builtin "object.__class__")
 be:mroIn K C (.type "BaseException")=↥true
 ob:mroIn K C (.type "object")=↥true
 cs:(clsIn K C).isSome=true
section
variable {prog:aG}{w:World}{A:aF}{E:aB}{h:Heap}{g:Array yar}{d:Drawn}{t:Nat}{os:OsState}{K:Frag}{x C:Addr}{o:Obj}
def YG{R:Result->ap->Prop}(Z:XC K C)(X:K.In h)(a:h.get? x=↥o)(b:o.cls=.ref C)(f:R (.ok (.ret (.ref C))) ⟨h,g,d,t,os⟩):
  qS (model prog w) A (.call (.builtin "getset_descriptor.__get__") ⟨[.builtin "object.__class__",.ref x,.ref C],[]⟩) R ⟨h,g,d,t,os⟩:=by
 ext(c:looks_mroIn (M:=model prog w) X Z.ob);refine aed KF.slot_gs.plain KF.entry_gs (KF.slot_gs.check _ _ _ _ _ _ _ _ KF.type_class (KF.args_gs _ _ _) ?_);have e:(⟨h,g,d,t,os⟩:ap).TypeIs (.builtin "object.__class__") "getset_descriptor":=ad6;have e1:(".".intercalate ("object.__class__".cutAt '.').dropLast) = "object":=F.owner_object_class
 repeat (any_goals (first|assumption | (with_reducible refine acz a ?_;rw[b]) | (with_reducible refine c.at ?_) | (rw[e1];with_reducible refine c.at ?_)|wp_step))
 refine⟨aei _ ⇑6,acY F.entry_object_class ?_⟩
 repeat (any_goals (first|assumption | (with_reducible refine acz a ?_;rw[b])|wp_step))
def Ni{tk:Tok}{Q:Fin->ap->Prop}(Z:XC K C)(X:K.In h)(a:h.get? x=↥o)(b:o.cls=.ref C)(f:Q (.done (.ret (.ref C))) ⟨h,g,d,t,os⟩):
  ⇑1 (mX.«object.__getattribute__» ⟨[.ref x,.str "__class__" tk],[]⟩) Q E ⟨h,g,d,t,os⟩:=by
 have c:(⟨h,g,d,t,os⟩:ap).TypeIs (.builtin "object.__class__") "getset_descriptor":=ad6;have k:=ad6;have j:=F.slot_gs_get.lookup;have i:=F.slot_gs_set.lookup;ext(e:VA (M:=model prog w) X Z.cl)
 repeat (any_goals (first|assumption | (with_reducible refine acz a ?_;rw[b]) | (with_reducible refine e.at ?_)|wp_step))
 refine YG Z X a b ?_
 repeat (any_goals (first|assumption|wp_step))
def Nj{M:Model}{a:Value}{Q:Unit->ap->Prop}(Z:XC K C)(X:K.In h)(b:h.get? x=↥o)(f:o.cls=.ref C)(c:Q () ⟨h,g,d,t,os⟩):
  wpAny M A (yaW "BaseException.__getattribute__" ⟨[.ref x,a],[]⟩) Q E ⟨h,g,d,t,os⟩:=by
 have e:builtinKind "BaseException.__getattribute__" = ↥.slot:=by decide +kernel
 have i:splitId "BaseException.__getattribute__" = ↥("BaseException","__getattribute__"):=by decide +kernel
 ext(j:looks_mroIn (M:=M) X Z.be)(k:F.args_bexc_ga (.ref x) a);simp only[yaW,e,i];refine aaf ?_
 ·unfold isInstance
  repeat (first | (with_reducible refine acz b ?_;rw[f]) | (with_reducible refine j.at ?_)|wp_step)
  exact c
def SA{tk:Tok}{R:Result->ap->Prop}(B:FS "ValueError")(Z:XC K C)(X:K.In h)(a:h.get? x=↥o)(b:o.cls=.ref C)(c:R (.ok (.ret (.ref C))) ⟨h,g,d,t,os⟩):
  qS (model prog w) A (.call (.builtin "BaseException.__getattribute__") ⟨[.ref x,.str "__class__" tk],[]⟩) R ⟨h,g,d,t,os⟩ :=
 aed B.ga.plain F.entry_bexc_ga (Nj Z X a b (Ni Z X a b c))
def xby{tk:Tok}{Q:aB}(B:FS "ValueError")(Z:XC K C)(X:K.In h)(a:h.get? x=↥o)(b:o.cls=.ref C)(i:Q (.ref C) ⟨h,g,d,t,os⟩):
  ⇑1 (getAttrBy (.ref x) (.str "__class__" tk) false) Q E ⟨h,g,d,t,os⟩:=by
 ext(j:B.ga.bind (.ref x));have f:(false&&onTheHeap (pc "BaseException.__getattribute__"))=false:=rfl;have c:(pc "BaseException.__getattribute__" == pc "object.__getattribute__")=false:=by decide +kernel
 have k:(onTheHeap (em C)&&pc "BaseException.__getattribute__" == pc "object.__getattribute__")=false:=by rw[c];rfl
 ext(e:VA (M:=model prog w) X Z.ga)(L2:VA (M:=model prog w) X Z.gt)
 repeat (any_goals (first|assumption | (with_reducible refine acz a ?_;rw[b]) | (with_reducible refine e.at ?_) | (with_reducible refine L2.at ?_)|wp_step))
 refine SA B Z X a b ?_
 repeat (any_goals (first|assumption|wp_step))
def SD{Q:Option Value->ap->Prop}(B:FS "ValueError")(Z:XC K C)(X:K.In h)(a:h.get? x=↥o)(b:o.cls=.ref C)(c:Q ↥(.ref C) ⟨h,g,d,t+1,os⟩):
  ⇑1 (getAttr? (.ref x) "__class__") Q E ⟨h,g,d,t,os⟩:=by
 unfold getAttr? getAttrBy?
 repeat (any_goals (first|assumption|with_reducible apply xby B Z X a b|wp_step))
end
def A9(x C:Addr)(h:Heap):Prop:=∃o,h.get? x=↥o/\o.cls=.ref C
protected def Fy{K:Frag}{x C:Addr}(B:FS "ValueError")(Z:XC K C):KitX K (.ref x) (.ref C) (A9 x C) where
 ty:=λM h _ p=>by
  ext(⟨o,f,c⟩:p);exact c▸(Looks.ld f).andThen .now
 it:=λ_ _ X _=>by
  ext(⟨i,a⟩:oe.mp Z.cs);unfold clsIn at a;split at a
  ·rename_i r m j u b;intro L I J D k q;unfold isType loadHead;exact aaf (wpAny_loadPart (k _ _ (X _ _ b)) (aak q))
  ·cases a
 ne:=λh l G H n y X v=>by
  ext(⟨i,a⟩:oe.mp Z.cs);refine Bool.eq_false_iff.mpr λq=>?_;have e:C=l:=Value.ref.inj (beq_iff_eq.mp q);subst e;unfold clsIn at a;split at a
  ·rename_i r m j u b;ext(z:(X _ _ b).symm.trans v);cases z
  ·cases a
 ca:=λ{prog w A E Q s} X p k=>by
  ext(⟨o,f,c⟩:p)(⟨h,g,d,t,F⟩:s);exact SD B Z X f c k
end DI
end
section
namespace DI
open PySem PySem.Spec PyProof.Rows L2
def YD(l:List Env)(H':Hp)(h h' B:Heap):Prop:=∀b o,h'.get? b=↥o->b∉m6 l->(H' b≠none\/h.get? b≠none)->B.get? b=↥o
variable {B base h h' h2 h3:Heap}{H' H1:Hp}
def moved{l:List Env}{H:Hp}(un:Un (m6 l) [] H H' h h2)(p:kj H' h2)(r:YD l H' h h2 B)(m:h.FunFrames base l)(s:∀b∈m6 l,H b=none)
  (st:B.StaysIn h3) (f:h2.UpToSlots h3):Un (m6 l) [] H H' h h3/\kj H' h3/\YD l H' h h3 B:=by
 have A:∀b∈m6 l,H' b=none:=λb c=>by
  ext(⟨_,o,y,_⟩:m.mem c);exact un.free b o y (s b c) ⇑5
 have keep:∀b o,h2.get? b=↥o->b∉m6 l->(H' b≠none\/h.get? b≠none)->h3.get? b=↥o:=λb o e c d=>st b o (r b o e c d);have slot:∀b o,h.get? b=↥o->b∈m6 l->∃f,h3.get? b=some { o with slots:=f }:=λb o e c=>by
  ext(⟨w,e1⟩:un.slot b o e (s b c) c ⇑5)(⟨_,i,j,x⟩:m.mem c);rw[e]at j;cases j;ext(⟨t,e2⟩:f b _ e1 (λv z=>x v z));exact⟨t,e2⟩
 refine⟨⟨λb o e n c _=>keep b o (un.keep b o e n c ⇑5) c (.inr (by rw[e];simp)),λb o e n c _=>slot b o e c,un.free,λb o e _=>?_,un.nP,un.m5⟩,λa o e=>?_,λb o e c d=>?_⟩
 ·by_cases c:b∈m6 l
  ·ext(⟨C,e1⟩:slot b o e c);exact⟨_,e1⟩
  ·ext(⟨i,e1⟩:un.there b o e ⇑5);exact⟨i,keep b i e1 c (.inr (by rw[e];simp))⟩
 ·have k:H' a≠none:=by rw[e];simp
  exact(p a o e).lO λu q=>keep a u q (λz=>k (A a z)) (.inl k)
 ·have:∃g,h2.get? b=↥g:=by
   ext((d|d):d)
   ·cases q:H' b with
    |none=>exact absurd q d
    |some u=>exact gD (p b u q)
   ·cases q:h.get? b with
    |none=>exact absurd q d
    |some u=>exact un.there b u q ⇑5
  ext(⟨g,e2⟩:this)(e3:keep b g e2 c d);rw[e]at e3;cases e3;exact r b _ e2 c d
structure YA(P:aG)(w:World)(C:Addr)(l:List Env)(H:Hp)(s:ap)(e:Addr)(H':Hp)(s':ap):Prop where
 fly:∃t B,xz B l e (.ref C) (.ref t) s'.heap/\YD l H' s.heap s'.heap B
 os:s'.os=s.os
 bare:sB s'.gens
 un:Un (m6 l) [] H H' s.heap s'.heap
 cJ:kj H' s'.heap
abbrev uU(P:aG)(w:World)(C:Addr):CU:=λl H s E e b=>∃a H',e=.ref a/\YA P w C l H s a H' b/\E (.ref C) none H'
def wG{l:List Env}{e:Addr}{cls a0:Value}(f:xz B l e cls a0 h):e∉m6 l:=λg=>by
 ext(⟨_,o,d,c⟩:f.2.2.1.mem g)(⟨i,b,a,_,hd,_⟩:f.first);rw[d]at a;cases a;exact c b hd
variable {C ea f:Addr}{P:aG}{w:World}
def YA.new{l:List Env}{H:Hp}{s s':ap}{e:Addr}(f:YA P w C l H s e H' s'):H' e=none/\s.heap.get? e=none:=by
 ext(⟨t,B,b,g⟩:f.fly)(⟨c,i,d,_⟩:b.first);have a:¬ (H' e≠none\/s.heap.get? e≠none):=λz=>by
  have:=g e c d (wG b) z;rw[b.2.1]at this;cases this
 exact⟨KT.mp λz=>a (.inl z),KT.mp λz=>a (.inr z)⟩
variable {s1:ap}{σ:L2.St}
section
variable {P:aG}{w:World}{C:Addr}{K:av}{mg:aT}{base:Heap}{N:ao}{qual:Str}{scope:Scope}{f:Addr}{cd:Value}{A:aF}{outer:List Env}{s:ap}{H:Hp}{E:XK}
def left{pins:au}{s2:ap}{t:Addr}
  (I:Inv (js (uU P w C) P w K mg base N qual scope f cd A outer s H E) pins σ H1 s1)
  (un:Un (m6 (js (uU P w C) P w K mg base N qual scope f cd A outer s H E).stack) [] H1 H' s1.heap h2) (p:kj H' h2) (r:YD (js (uU P w C) P w K mg base N qual scope f cd A outer s H E).stack H' s1.heap h2 B)
  (i:xz B outer ea (.ref C) (.ref t) h3) (k:h2.UpToSlots h3) (l:s2.os=s1.os) (bare:sB s2.gens):YA P w C outer H s ea H' { s2 with heap:=h3 }:=by
 ext(⟨c,j,g⟩:moved un p r I.stack I.lN i.1 k);have J:=I.AZ (s':={ s2 with heap:=h3 }) (ch:=[]) l c j bare λ_ z=>nomatch z;refine⟨⟨t,B,i,λb o e m a=>?_⟩,J.os,bare,J.base,j⟩;have d:b≠s.heap.objs.size:=by
  ext((a|a):a)
  ·rintro rfl;exact a J.free
  ·rintro rfl;exact a (Ps (aat _))
 refine g b o e (λz=>?_) ?_
 ·rcases ci.mp (I.kL b z)with z|z
  ·exact d z
  ·exact m z
 ·ext((a|a):a)
  ·exact .inl a
  ·right;cases q:s.heap.get? b with
   |none=>exact absurd q a
   |some u =>
    ext(⟨v,n⟩:I.base.there b u q (by intro z;cases z));rw[n];simp
def T9{E1:XK}(j:∀H',E1 (.ref C) none H'->E (.ref C) none H'):Passes (uU P w C) (js (uU P w C) P w K mg base N qual scope f cd A outer s H E) E1:=by
 intro pins σ H1 s1 e c I g;ext(⟨ea,H',rfl,⟨⟨t,B,k,m⟩,d,bare,un,l⟩,i⟩:g);show wpAny (model P w) _ (leaving _ (.ref ea)) _ _ c;refine wpAny_leaves_onW (L:=s.heap.objs.size) I.ok.frames rfl k λh' a b=>?_;exact⟨ea,H',rfl,left I un l m a b d bare,j H' i⟩
def Jl{pins:au}{vs:aw}
  (I:Inv (js (uU P w C) P w K mg base N qual scope f cd A outer s H E) pins σ H1 s1) (d:FM s1.heap h' ea (.ref C) vs) (he:E (.ref C) none H1) :
  (js (uU P w C) P w K mg base N qual scope f cd A outer s H E).xe (.ref ea) { s1 with heap:=h' }:=by
 show wpAny (model P w) _ (leaving _ (.ref ea)) _ _ _
 let l:=(js (uU P w C) P w K mg base N qual scope f cd A outer s H E).stack
 let B:=RN s1.heap (m6 l)
 have n:B.StaysIn s1.heap:=λb o e=>L1 _ e;refine wpAny_leaves_madeW (h:=s1.heap) (base:=B) (L:=s.heap.objs.size) I.ok.frames rfl n (PySem.W.funFrames_hide (as:=m6 l) I.stack λi he a m=>wi.mpr ⟨i,he,m⟩) d λp t r _ _ j=>?_;refine⟨ea,H1,rfl,left (s2:=s1) (H':=H1) I (Un.kept d.keeps) (I.cJ.kept d.keeps) (λb o e k c=>?_) r j rfl I.bare,he⟩;have:∃g,s1.heap.get? b=↥g:=by
  ext((c|c):c)
  ·cases q:H1 b with
   |none=>exact absurd q c
   |some u=>exact gD (I.cJ b u q)
  ·cases q:s1.heap.get? b with
   |none=>exact absurd q c
   |some u=>exact⟨u,rfl⟩
 ext(⟨g,e1⟩:this)(e2:d.keeps b g e1);have e:h'.get? b=↥o:=e;rw[e]at e2;cases e2;exact Kt _ e1 k
end
abbrev LJ:aw:=[.type "ValueError",.type "Exception",.type "BaseException",.type "object"]
abbrev oh(x:Str)(C:Addr)(mg:aT)(h:Heap):Prop:=OwnCls x C LJ "ValueError.__new__" mg h
variable {K:av}
protected def AA(q:lz K C LJ "ValueError.__new__" = true):∃(dd:Option Addr) (nm:Str) (bs bm:aw) (ns:Addr) (b:Str) (hd:Bool) (sn:ao) (sub:aw) (ab:Bool) (col:Option Bool) (k0 k1 k2 k3 k5:Option Value),
  K.lookup C=↥(Kj nm b C ns bs bm hd sn sub ab col dd k0 k1 k2 k3 k5 "ValueError.__new__")/\PySem.W.tailIn K LJ bm=true/\PySem.W.nsOkIn K ns=true/\eO K ns "__init__" = ↥none:=by
 unfold lz at q;split at q
 case h_2=>cases q
 case h_1 dd cd sl ho =>
  split at q
  case h_2=>cases q
  case h_1 C' bm k0 k1 k2 k3 n k5 hm hs =>
   rw[zah,zah,zah,zah,zah]at q;ext(⟨⟨⟨⟨⟨e1,e2⟩,e3⟩,e4⟩,e5⟩,e6⟩:q)(e1:beq_iff_eq.mp e1)(e2:beq_iff_eq.mp e2)(e6:beq_iff_eq.mp e6);subst e1;subst e2;cases cd with
   |mk nm bs c ns b hd sn sub ab col a =>
    cases hm;have e3:a=false:=⇑e3
    subst e3;cases sl with
    |mk l =>
     cases hs;exact⟨_,_,_,_,_,_,_,_,_,_,_,_,_,_,_,_,ho,e4,e5,e6⟩
variable {mg:Str->Option Value}
def tQ{x:Str}(X:K.In h)(G:h.Ns cr mg)(e:eO K cr x=↥↥(.ref C))(q:lz K C LJ "ValueError.__new__" = true):oh x C mg h:=by
 ext(⟨_,_,_,_,_,_,_,_,_,_,_,_,_,_,_,_,a,e4,e5,e6⟩:AA q);exact⟨acA X G e,_,_,_,_,_,_,_,_,_,_,_,_,_,_,_,_,_,X _ _ a,.of_isNs (PySem.W.isNs_of_in X e5),PySem.W.nsMap_none_of_in X e5 e6,PySem.W.tail_of_in X e4⟩
variable {cpos np p1 p2 p3 p4 p5 pos:Pos}
section
variable {X:Cx}{C:Addr}{x:Str}
def NF(X:Cx)(C:Addr):TS:=λD σ H=>∀pins s h' ea a,Inv X pins σ H s->FM s.heap h' ea (.ref C) a->X.xe (.ref ea) { s with heap:=h' }
def Eg{m:Str}{j:Nat}{p:Pos}(U:X.calm=true)(O:oh x C X.mg X.base)(S:Gl X x)(hd:(x==⇑9)=false):
  PS X (.Raise ↥(.Call (.Name x np) [.Constant (.str m) j p] [] cpos) none pos) (NF X C):=by
 intro pins s σ H D I hw;ext(⟨tl,N,l,q,bs,a,k,b,G,c,E,y,v,u,t,o,n,W,V,g,T⟩:O.obj);refine wpAny_Raise_call_subT (C:=C) (nm:=l) (q:=q) (N:=N) (bs:=bs) (bm:=tl) (hdct:=a) (sn:=k) (sub:=b) (ab:=G) (col:=c) (dd:=E) (k0:=y) (k1:=v) (k2:=u) (k3:=t) (k5:=o)
  UF (mN:=n) (T.hasType UF.hasBase) (I.ok.hd U) rfl g (t_ I S O.bound ⟨rfl,?_⟩ hd)
 have A:cm [.Constant (.str m) j p] X.env=(false,eval (.Constant (.str m) j p) X.env)::cm [] X.env:=rfl;ext(z:cc (pz (X:=X) (x:=m) (j:=j) (pos:=p)) dt A cpos pins s σ H (λi H'=>H'=H/\i.length<=1) I ⟨rfl,aat 1⟩);rw[A]at z ⊢;refine ad_ (dO z λJ L Y=>?_);ext(⟨i,Z,d,r,Q,M⟩:Y);subst Q;exact⟨rfl,[-r.length]\aav M ⇑4,d.bk _ _ W,V.keeps d.bk,T.keeps d.bk,λh' e R=>hw pins L h' e J d R⟩
end
variable {X:Cx}
def Cx.Ok.mk'(ok:X.Ok)(e:Value)(E:aB):Cx.Ok { X with A:=X.A.mark ↥e,calm:=false,xe:=E } :=
 ⟨ok.mod,ok.kind,ok.glob,ok.blt,ok.above,ok.inj,ok.has,ok.M5,(λh=>by cases h),ok.frames,ok.NL,ok.Wb,ok.bs,ok.Hj,ok.v7,ok.yA,ok.kT,ok.C8⟩
def FK{pins:au}{H:Hp}{s:ap}(I:Inv X pins σ H s)(e:Value)(E:aB):Inv { X with A:=X.A.mark ↥e,calm:=false,xe:=E } pins σ H s :=
 ⟨Cx.Ok.mk' I.ok e E,I.os,I.bare,I.base,I.loc,I.cell,I.free,I.fZ,I.pin,I.cJ,I.len⟩
variable {E:Value->ap->Prop}
def yn{pins:au}{H:Hp}{s:ap}{e:Value}(ok:X.Ok)(I:Inv { X with A:=X.A.mark ↥e,calm:=false,xe:=E } pins σ H s):Inv X pins σ H s :=
 ⟨ok,I.os,I.bare,I.base,I.loc,I.cell,I.free,I.fZ,I.pin,I.cJ,I.len⟩
def Ju{i:Nat}{x:Str}(c:X.N[i]?=↥x)(b:Nb X.env.scope x)(hd:(x==⇑9)=false)(a:(x==("__classdict__" : Str))=false):PE X (.Name x pos) (mF i):=iN c b hd a
noncomputable abbrev Cx.nQ(X:Cx)(pins:au)(E:aB):Cx:={ X with xe:=E,pn:=X.pn++pins }
section
variable {X:Cx}{C:Addr}{x n y:Str}{i j:Nat}{E1:XK}
def J_{pins:au}{H:Hp}{s:ap}(I:Inv X pins σ H s)(E:aB):Inv (Cx.nQ X pins E) [] σ H s :=
 ⟨⟨I.ok.mod,I.ok.kind,I.ok.glob,I.ok.blt,I.ok.above,I.ok.inj,I.ok.has,I.ok.M5,I.ok.hd,I.ok.frames,I.ok.NL,I.ok.Wb,I.ok.bs,I.ok.Hj,I.ok.v7,I.ok.yA,I.ok.kT,I.ok.C8⟩,I.os,I.bare,I.base,I.loc,I.cell,I.free,I.fZ,λp a=>I.pin p ⇑a,I.cJ,I.len⟩
def ie{pins q:au}{H:Hp}{s:ap}(I:Inv (Cx.nQ X pins E) q σ H s):Inv X pins σ H s :=
 ⟨⟨I.ok.mod,I.ok.kind,I.ok.glob,I.ok.blt,I.ok.above,I.ok.inj,I.ok.has,I.ok.M5,I.ok.hd,I.ok.frames,I.ok.NL,I.ok.Wb,I.ok.bs,I.ok.Hj,I.ok.v7,I.ok.yA,I.ok.kT,I.ok.C8⟩,I.os,I.bare,I.base,I.loc,I.cell,I.free,I.fZ,λp a=>I.pin p (aa0 _ a),I.cJ,I.len⟩
def tracked{l:List Env}{H:Hp}(un:Un (m6 l) [] H H' h h')(r:kj H' h')(m:H' ea=none)(g:h.get? ea=none)(a:A9 ea C h'):
  Un (m6 l) [] H (upd H' ea (.ext (A9 ea C))) h h'/\kj (upd H' ea (.ext (A9 ea C))) h':=by
 have ne:∀b u,H' b=↥u->b≠ea:=λb u q=>dX q m;refine⟨⟨un.keep,un.slot,λb o e n p=>?_,un.there,λb d q=>?_,λb o u q=>?_⟩,λb u q=>?_⟩
 ·have:b≠ea:=by rintro rfl;rw[g]at e;cases e
  exact[bt this]\un.free b o e n p
 ·have:=un.nP b d q;exact[bt (ne _ _ this)]\this
 ·have:=un.m5 b o u q;exact[bt (ne _ _ this)]\this
 ·by_cases c:b=ea
  ·subst c;rw[aU]at q;cases q;ext(⟨o,e1,e2⟩:a);exact⟨⟨o,e1,e2⟩,⟨o,e1⟩,λs h2 ⟨o,e1,e2⟩ k=>⟨o,k o e1,e2⟩⟩
  ·rw[bt c]at q;exact(r b u q).lO λ_ q=>q
end
def YY(C:Addr)(i:Nat)(b:Bool):TE:=λσ H Q=>∃ea,σ[i]?=↥↥(.ref ea)/\H ea=↥(.ext (A9 ea C))/\Q (.bl b) H
def Ta(C:Addr)(i:Nat)(bs:List Bool):TA:=λσ H Q=>∃ea,σ[i]?=↥↥(.ref ea)/\H ea=↥(.ext (A9 ea C))/\Q (bs.map V.bl) H
section
variable {X:Cx}{C:Addr}{i:Nat}
def Pb{c:V}{d:Value}{b:Bool}(Z:XC X.K C)(k:∀u,RelV c u->u=d)(l:bi X.K (.ref C) d=↥b):
  fJ X (.builtin "isinstance") (λa H Q=>∃ea,a=[.ref ea,c]/\H ea=↥(.ext (A9 ea C))/\Q (.bl b) H):=by
 intro pins s σ H a n Q I r h;ext(⟨ea,rfl,m,q⟩:h)(⟨u,e,rfl,g,j⟩:vals2 r);cases g;cases k e j;obtain⟨⟨o,e1,e2⟩,_⟩:=(show cQ H s.heap ea (.ext (A9 ea C)) from I.cJ ea _ m)
 exact acq (Fy PySem.F.attr_ValueError Z) I.CW ⟨o,e1,e2⟩ l (λz=>nomatch z) λtk=>⟨.bl b,H,I.tok tk,rfl,q⟩
structure Sv(X:Cx)(C:Addr)(cl:Str->Option Bool):Prop where
 xc:XC X.K C
 isi:Gl X "isinstance"
 isn:X.mg "isinstance" = none
 ex:∀x b,cl x=↥b->∀p,∃cv cu,PE X (.Name x p) (tC cv)/\(∀u,RelV cv u->u=cu)/\bi X.K (.ref C) cu=↥b
def wk(err:Str)(cl:Str->Option Bool)(e:Expr):Option Bool:=(fc e).bind λz=>(two z.2).bind λw=>(HJ w.1).bind λy=>(HJ w.2).bind λx=>if z.1 = "isinstance" /\ y=err then cl x else none
def eI(err:Str)(cl:Str->Option Bool):aj->Option (List Bool)
 |[]=>↥[]
 |e::es=>match wk err cl e,eI err cl es with
  |some b,↥bs=>↥(b::bs)
  |_,_=>none
def ya{err:Str}{cl:Str->Option Bool}(Z:Sv X C cl)(he:∀p,PE X (.Name err p) (mF i)){e:Expr}{b:Bool}(h:wk err cl e=↥b):PE X e (YY C i b)/\(∀d,cm (e::d) X.env=(false,eval e X.env)::cm d X.env)/\∀whole,PB e X.env whole=(do let v <- whole;standAt e.pos;holding [v] (truthy v)):=by
 ext(⟨⟨f,as⟩,k,r⟩:i8.mp h)(⟨u,pos,rfl⟩:cn k)(⟨⟨s,t⟩,hw,o⟩:i8.mp r);obtain rfl:as=[s,t]:=fq hw;ext(⟨y,g,n⟩:i8.mp o)(⟨p1,rfl⟩:gQ g)(⟨x,j,a⟩:i8.mp n)(⟨p2,rfl⟩:gQ j);by_cases c:f = "isinstance" /\ y=err
 ·rw[zac c]at a;ext(⟨rfl,rfl⟩:c);refine⟨?_,λ_=>rfl,λ_=>rfl⟩;ext(⟨z,A,m,h2,h3⟩:Z.ex x b a p2);refine PE.imp (cZ (Pb Z.xc h2 h3) Z.isi Z.isn um (cc (he p1) (cc m dt))) λσ H Q l=>?_;ext(⟨ea,e1,e2,q⟩:l);exact⟨_,e1,ea,rfl,e2,q⟩
 ·rw[zab c]at a;cases a
set_option tactic.hygienic true in
theorem yb{err:Str}{cl:Str->Option Bool}(Z:Sv X C cl)(he:∀p,PE X (.Name err p) (mF i)):∀{es:aj} {bs:List Bool},eI err cl es=↥bs->PA X es (Ta C i bs)
 |[],bs,h=>by
  cases h;exact PA.imp dt λσ H Q ⟨ea,_,_,q⟩=>q
 |e::es,bs,h=>by
  rw[eI]at h;split at h
  ·rename_i b d c h2;cases h;ext(⟨p1,p2,_⟩:ya Z he c);refine PA.imp (cc p1 (yb Z he h2) (p2 es)) λσ H Q a=>?_;ext(⟨ea,e1,e2,q⟩:a);exact⟨ea,e1,e2,ea,e1,e2,q⟩
  ·cases h
end
meta def yU:CE:=.cmp .eq (.bf .len [.comp 1 (.nm 0) [] .seq [.v 1] [.v 0] (.v 0)]) ↑1
meta def oq(told:Str)(a b r:Expr)(n m l k i:aj)(g e c:Pos)(j:Nat)(d pr I p1 J L p2 D s o x p3 F t N y p4 G u p z p5 H v q A M:Pos):aP :=
 [.If (.BoolOp .Or [.UnaryOp .Not a g,.UnaryOp .Not b e] c) [.Return ↥(.Constant (.bool false) j d) pr] [] I,.Assign [.Name told p1] (.List n J) L,.Assign [.Name told p2] (.BinOp (.Name told D) .Add (.List m s) o) x,
   .Assign [.Name told p3] (.BinOp (.Name told F) .Add (.List l t) N) y,.Assign [.Name told p4] (.BinOp (.Name told G) .Add (.List k u) p) z,.Assign [.Name told p5] (.BinOp (.Name told H) .Add (.List i v) q) A,.Return ↥r M]
def sY(C:Addr):Sp:=λa H Q _=>∃ea,a=[.ref ea]/\H ea=↥(.ext (A9 ea C))/\∀H',aL H H'->Q (.bl true) H'
variable {qual told:Str}
def La{i j:Nat}{err:Str}{cl:Str->Option Bool}{es:aj}{bs bs':List Bool}(Z:Sv X C cl)(he:∀p,PE X (.Name err p) (mF i))(n:∀p,PE X (.Name told p) (mF j))(nd:X.N.Nodup)(s:X.N[j]?=↥told)(g:X.env.scope.names.lookup told=↥.local)(t:i≠j)
  (h:eI err cl es=↥bs) (hlen:bs'.length+bs.length<=sizeLine):PS X (.Assign [.Name told p1] (.BinOp (.Name told p2) .Add (.List es p3) p4) p5)
   (λD σ H=>∃ea l,σ[i]?=↥↥(.ref ea)/\H ea=↥(.ext (A9 ea C))/\σ[j]?=↥↥(.ref l)/\H l=↥(.lst (bs'.map V.bl))/\∀a H' b,aL H H'->H b=none->a[i]?=↥↥(.ref ea)->a[j]?=↥↥(.ref b)->H' b=↥(.lst ((bs'++bs).map V.bl))->a.length=σ.length->D.nx a H'):=by
 refine PS.imp (kO (i:=j) nd s (.inl g) (Mm EK (n p2) (tO (yb Z he h))) (hf:=.inr g)) λD σ H r=>?_;ext(⟨ea,l,e1,e2,e3,e4,q⟩:r);have c:j<σ.length:=by
  by_cases z:j<σ.length
  ·exact z
  ·rw[dV ⋯]at e3;cases e3
 refine⟨_,e3,ea,e1,e2,by simp;left,λp e=>?_⟩;refine⟨l,p,_,_,rfl,rfl,[bt (dX e4 e)]\e4,aU,⇑hlen,λm d=>?_⟩;have s1:aL H (upd H p (.lst (bs.map V.bl))):=aL.upd e;ext(k:s1.trans (aL.upd (o:=.lst (bs'.map V.bl++bs.map V.bl)) d));refine q _ _ m k (aL.free s1 d) ?_ ?_ ?_ ?_
 ·exact[ce (ja t)]\e1
 ·rw[eo c]
 ·rw[aU,zak]
 ·simp
variable {b1 b2 b3 b4 b5:List Bool}{Φ:aV}
def yX{S:Sx}{k:Nat}{err:Str}{cl:Str->Option Bool}(L:Lk X S k Φ)(Z:Sv X C cl)(u:X.N=[err,told])(he:X.env.scope.names.lookup err=↥.local)(g:X.env.scope.names.lookup told=↥.local)
  (d1:(err==⇑9)=false) (d2:(err==("__classdict__" : Str))=false) (d3:(told==⇑9)=false) (d4:(told==("__classdict__" : Str))=false) (nd:X.N.Nodup)
  (hlen:b1.length+b2.length+b3.length+b4.length+b5.length<=sizeLine)
  (yt:aZ Φ yU [none,↥(.fz\((b1++b2++b3++b4++b5).map DI.D.bl))]=ok (.bl true)) :
  ∀{a b r:Expr} {l1 l2 l3 W Q:aj} {O I z:Pos} {j:Nat} {pj pr Jt p1 Js Jp p2 Ma Mj Mq Me p3 L_ Mi A Md p4 L9 Mh Mp Mc p5 L8 Mf Mo Mb Jo:Pos},wk err cl a=↥true->wk err cl b=↥true->eI err cl l1=↥b1->eI err cl l2=↥b2->eI err cl l3=↥b3->eI err cl W=↥b4->eI err cl Q=↥b5->cg S yU r=true ->
   gO X (oq told a b r l1 l2 l3 W Q O I z j pj pr Jt p1 Js Jp p2 Ma Mj Mq Me p3 L_ Mi A Md p4 L9 Mh Mp Mc p5 L8 Mf Mo Mb Jo) (λD σ H=>∃ea,σ=[↥(.ref ea),none]/\H=X.H₀/\H ea=↥(.ext (A9 ea C))/\∀H',aL H H'->D.rt (.bl true) H'):=by
 intro a b r l1 l2 l3 W Q O I z j pj pr Jt p1 Js Jp p2 Ma Mj Mq Me p3 L_ Mi A Md p4 L9 Mh Mp Mc p5 L8 Mf Mo Mb Jo ha hb i1 i2 i3 i4 i5 hr;have h0:X.N[0]?=↥err:=by rw[u];rfl
 have m:X.N[1]?=↥told:=by rw[u];rfl
 have c:∀p,PE X (.Name err p) (mF 0):=λp=>iN h0 (.inl he) d1 d2;have pt:∀p,PE X (.Name told p) (mF 1):=λp=>iN m (.inl g) d3 d4;unfold oq;ext(⟨M,_,J⟩:ya Z c ha)(⟨G,_,A⟩:ya Z c hb)(T:L7 (pos:=z) (rest:=[]) (tH (pos:=O) (tG M J)) (Ed (pos:=z) (tH (pos:=I) (tG G A))))(P1:kO (X:=X) (pos:=Jp) (pos':=p1) (i:=1) nd m (.inl g) (tO (pos:=Js) (yb Z c i1)) (hf:=.inr g))(R:(fA (F:=λ_=>False) L yU r hr).1);refine gO.imp (cG (vQ (pos:=Jt) T.pt (gz (mQ (pos:=pr) Mn)) tI) (cG P1 (cG (La (bs':=b1) Z c pt nd m g ⇑4 i2 ⋯) (cG (La (bs':=b1++b2) Z c pt nd m g ⇑4 i3 (by simp;left))
  (cG (La (bs':=b1++b2++b3) Z c pt nd m g ⇑4 i4 (by simp;left)) (cG (La (bs':=b1++b2++b3++b4) Z c pt nd m g ⇑4 i5 (by simp;left)) (gz (mQ (pos:=Jo) R)))))))) λD σ H hq=>?_
 ext(⟨ea,rfl,rfl,e,q⟩:hq);refine⟨ea,rfl,e,true,rfl,?_⟩;refine⟨ea,rfl,e,true,rfl,?_⟩;refine⟨ea,rfl,e,by simp;left,λt n1=>?_⟩;have s1:aL X.H₀ (upd X.H₀ t (.lst (b1.map V.bl))):=aL.upd n1;refine⟨ea,t,rfl,s1 _ _ e,rfl,aU,λσ2 H2 l2' y n2 e2 f2 g2 JS=>?_⟩;ext(y:s1.trans y);refine⟨ea,l2',e2,y _ _ e,f2,g2,λσ3 H3 Y x n3 e3 f3 g3 OU=>?_⟩;ext(x:y.trans x);refine⟨ea,Y,e3,x _ _ e,f3,g3,λσ4 H4 U s4 n4 e4 f4 g4 Z3=>?_⟩;ext(Zv:x.trans s4);refine⟨ea,U,e4,Zv _ _ e,f4,g4,λσ5 H5 s s5 n5 e5 f5 g5 Z2=>?_⟩;ext(o:Zv.trans s5);refine⟨λp=>p=s,λ_=>none,[none,↥(.fz\((b1++b2++b3++b4++b5).map DI.D.bl))],_,⟨?_,λi d l=>?_,λ_ _=>rfl,λp hp=>?_,λp hp=>?_,λ_ _ h=>by simp at h,λ_ _ h=>by simp at h,o⟩,yt,λv H' sv rv=>?_⟩
 ·rw[Z2,Z3,OU,JS];rfl
 ·match i,l with
  |1,l =>
   cases l;refine⟨_,f5,.lst ⟨g5,rfl⟩ ?_⟩;have:∀(bs:List Bool) (n:Nat),aH (aY X.K H5) (DI.nd X.K (λp=>p=s) ⇑7 ⇑8 H5) [1] n (bs.map V.bl) (bs.map DI.D.bl):=by
    intro bs;induction bs with
    |nil=>intro n;exact .nil
    |cons b bs ih=>intro n;exact .cons (.bl b) (ih _)
   exact this _ _
  |0,l=>cases l
  |n+2,l=>simp at l
 ·subst hp;rw[g5];simp
 ·subst hp;exact .inr (aL.free Zv n5)
 ·ext(⟨τt,_,rp⟩:rv);cases rp;exact q H' (o.trans sv)
variable {A:aF}
def Ky{M:Model}{nm q i q':Str}{N B N':Addr}{bs bm bs' a:aw}{hdct F:Bool}{sn c:ao}{sub z:aw}{ab l:Bool}{col k:Option Bool}{dd D:Option Addr}{k0 k1 k2 k3 k5 v u s r p:Option Value}{newId H:String}
   {g:Array yar} {d:Drawn} {t:Nat} {m:OsState} {e:Addr} {n:Obj} {Q:Bool->ap->Prop} {b:Bool}
  (y:h.get? C=↥(Kj nm q C N bs bm hdct sn sub ab col dd k0 k1 k2 k3 k5 newId)) (o:h.get? B=↥(Kj i q' B N' bs' a F c z l k D v u s r p H)) (he:h.get? e=↥n) (J:n.cls=.ref C) (I:a.contains (.type "BaseException")=true) (G:(em C::bm).contains (.ref B)=b)
  (x:Q b ⟨h,g,d,t,m⟩):wpAny M A (excMatches (.ref e) (.ref B)) Q E ⟨h,g,d,t,m⟩:=by
 have j:(em B::a).contains (.type "BaseException")=true:=by rw[List.contains_cons,I,zbs]
 have f:=tc_notTuple;unfold excMatches;cases b
 all_goals
  repeat (first | (with_reducible refine acz he ?_;rw[J])|with_reducible refine acz o ?_ | (with_reducible refine X7 o ?_;rw[j]) | (with_reducible refine X7 y ?_;rw[G])|wp_step)
  exact x
def nu(C B:Addr)(b:Bool)(h:Heap):Prop:=∃(nm q:Str) (N:Addr) (bs bm:aw) (hdct:Bool) (sn:ao) (sub:aw) (ab:Bool) (col:Option Bool) (dd:Option Addr) (k0 k1 k2 k3 k5:Option Value) (newId:String),h.get? C=↥(Kj nm q C N bs bm hdct sn sub ab col dd k0 k1 k2 k3 k5 newId)/\(em C::bm).contains (.ref B)=b
def YM(y:Str)(s:Stmt):Option Expr:=(Bl s).bind λa=>(one a.1).bind λt=>(HJ t).bind λb=>if b=y then ↥a.2 else none
def Dq{y:Str}{s:Stmt}{e:Expr}(h:YM y s=↥e):∃p1 p2,s=.Assign [.Name y p1] e p2:=by
 ext(⟨⟨d,v⟩,b,h⟩:bT h)(⟨t,h2,h⟩:bT h)(⟨c,h3,h⟩:bT h)(⟨a,h⟩:gT h);cases h;ext(⟨p,rfl⟩:jV b)(⟨q,rfl⟩:gQ h3)(rfl:b8 h2);exact⟨q,p,a▸rfl⟩
meta def vCS:Const->Option Str
 |.str w=>↥w
 |_=>none
def Nx{c:Const}{w:Str}(h:vCS c=↥w):c=.str w:=by cases c<;>cases h;rfl
def LK(n y z:Str):eF->Option (Str×Str)
 |.ExceptHandler t m b _=>t.bind λe=>(HJ e).bind λx=>b.head?.bind λs1=>(one b.tail).bind λa=>(YM y s1).bind λc=>(vC c).bind λc=>(vCS c).bind λw=>(YM z a).bind λd=>(HJ d).bind λg=>if m=↥n/\g=n then ↥(x,w) else none
def Dt{n y z x w:Str}{h:eF}(e:LK n y z h=↥(x,w)):∃np p1 g p2 p3 q1 d c pos,h=.ExceptHandler ↥(.Name x np) ↥n [.Assign [.Name y p1] (.Constant (.str w) g p2) p3,.Assign [.Name z q1] (.Name n d) c] pos:=by
 ext(⟨t,m,b,pos⟩:h)(⟨_,rfl,h⟩:bT e)(⟨_,p,h⟩:bT h)(⟨s1,a,h⟩:bT h)(⟨q,h2,h⟩:bT h)(⟨_,h3,h⟩:bT h)(⟨_,o,h⟩:bT h)(⟨_,l,h⟩:bT h)(⟨_,j,h⟩:bT h)(⟨_,i,h⟩:bT h)(k:gT h);cases k.2;ext(⟨rfl,rfl⟩:k.1)(⟨_,rfl⟩:gQ p)(⟨_,_,rfl⟩:Dq h3)(⟨_,_,rfl⟩:vm o)(rfl:Nx l)(⟨_,_,rfl⟩:Dq j)(⟨_,rfl⟩:gQ i);cases b with
 |nil=>cases a
 |cons s b =>
  cases a;ext(rfl:b8 h2);exact⟨_,_,_,_,_,_,_,_,_,rfl⟩
section
variable {X:Cx}{C:Addr}{n y z:Str}{i j l:Nat}{E1:XK}
inductive zc(X:Cx)(C:Addr)(n y z w:Str):List eF->Prop
 |here {h:eF} {hs:List eF} {x:Str} (v:LK n y z h=↥(x,w)) (O:oh x C X.mg X.base) (g:Gl X x) (d:(x==⇑9)=false):zc X C n y z w (h::hs)
 |next {h:eF} {hs:List eF} {x w':Str} {B:Addr} (v:LK n y z h=↥(x,w')) (O:oh x B X.mg X.base) (OS:nu C B false X.base) (g:Gl X x) (d:(x==⇑9)=false) (r:zc X C n y z w hs):zc X C n y z w (h::hs)
def yf{M:Model}{pins:au}{H:Hp}{s:ap}{Q:Unit->ap->Prop}(I:Inv X pins σ H s)(Z:X.env.kindOf n=↥.local)(nd:X.N.Nodup)(hi:X.N[i]?=↥n)
  (h:∀J,Inv X pins (σ.set i none) H J->Q () J):wpAny M A (do GE X.env n .none;XT X.env n pos) Q E s:=by
 ext(⟨m,Y,D⟩:id I.loc);have F1:(X.env.scope.kind==.class||(X.env.scope.kind==.module&&X.env.locals != X.env.globals))=false:=by rw[I.ok.kind];rfl
 refine wpAny_nameGoes_keeps Z Y F1 λh' u L a=>h _ ?_;have tracked:kj H h':=λb T e=>by
  exact(I.cJ b T e).lO λG q=>(a.2 b (by rintro rfl;rw[I.free]at e;cases e)).trans q
 refine⟨I.ok,I.os,I.bare,⟨λb o e n F g=>?_,λb o e n F g=>?_,I.base.free,λb o e g=>?_,I.base.nP,I.base.m5⟩,⟨_,L,λk z v' e1 e2 e3=>?_⟩,λz c e=>?_,I.free,I.fZ,λp W=>?_,tracked,[zba]\I.len⟩
 ·exact(a.2 b (aax (aao (aas e) I.ok.above))).trans (I.base.keep b o e n F g)
 ·ext(⟨R,e1⟩:I.base.slot b o e n F g);exact⟨R,(a.2 b (aax (aao (aas e) I.ok.above))).trans e1⟩
 ·ext(⟨U,e1⟩:I.base.there b o e g);exact⟨U,(a.2 b (aax (aao (aas e) I.ok.above))).trans e1⟩
 ·have r:i≠k:=by
   rintro rfl;rw[ww]at e2;simp at e2
  rw[ce r]at e2;have x:z≠n:=by
   rintro rfl;obtain⟨h1,h2⟩:=bn.mp e1;obtain⟨h3,h4⟩:=bn.mp hi;exact r ((ad0 nd).mp (h4.trans h2.symm))
  ext(⟨O,S,q⟩:D k z _ e1 e2 e3);refine⟨O,S,?_⟩;ext((⟨v,e⟩|⟨v,c,e,t⟩):q)
  ·exact .inl ⟨v,by show(if z=n then u else m z)=_;rw[zab x];exact e⟩
  ·exact .inr ⟨v,c,e,t.sameBut a (I.K4 z c e)⟩
 ·ext(⟨G,t⟩:I.cell z c e);exact⟨G,t.sameBut a (I.K4 z c e)⟩
 ·ext(⟨e,n,ne,V,d⟩:I.pin p W);exact⟨(a.2 p.1 ne).trans e,n,ne,V,d⟩
def Cj{Q:Flow->ap->Prop}{pins:au}{H:Hp}{s:ap}{w:Str}{hs:List eF}(I:Inv X pins σ H s)(o:∃t,s.heap.get? ea=↥t/\t.cls=.ref C)(h:zc X C n y z w hs)
  (go:∀p1 m p2 p3 q1 c k pos,qS (model X.prog X.w) (X.A.mark ↥(.ref ea)) (.handlers (.ref ea) [.ExceptHandler none ↥n [.Assign [.Name y p1] (.Constant (.str w) m p2) p3,.Assign [.Name z q1] (.Name n c) k] pos] X.env) (λr a=>match r with
     |.ok f=>⇑0 (do GE X.env n .none;XT X.env n pos) (λ_ b=>Q f b) X.xe a
     |.error x=>cameBackBy (model X.prog X.w) X.A X.env X.xe x a) s):⇑0 (handleBy (.ref ea) X.env hs) Q X.xe s:=by
 ext(⟨t,o,J⟩:o);induction h with
 |here v O g d =>
  ext(⟨np,p1,m,p2,p3,q1,c,k,pos,rfl⟩:Dt v);refine X9 (VJ (acQ I.ok.kind g (adM ([I.ok.glob]\I.mod.glob.keeps I.bk) O.bound ?_) d)) (by intro q;cases q);ext(⟨bm,u,S,N,bs,e,M,p,ab,F,dd,Z,Y,W,V,U,T,D,_,_,G⟩:(O.keeps I.bk).obj);exact wpAny_excMatches_sub_self D o J (G.hasType ⇑6) (go p1 m p2 p3 q1 c k pos)
 |next v O OS g d r ih =>
  ext(⟨np,p1,m,p2,p3,q1,c,k,pos,rfl⟩:Dt v);refine X9 (VJ (acQ I.ok.kind g (adM ([I.ok.glob]\I.mod.glob.keeps I.bk) O.bound ?_) d)) (by intro q;cases q);ext(⟨bm,u,S,N,bs,e,M,p,ab,F,dd,Z,Y,W,V,U,T,hB,_,_,G⟩:(O.keeps I.bk).obj)(⟨R,c,N2,bs2,bm2,adP,L,afh,ab2,ahD,Cy,l0,l1,l2,l3,l5,id2,D,PH⟩:OS);exact Ky (I.bk _ _ D) hB o J (G.hasType ⇑6) PH ih
def Jn{body:aP}{tb:TS}{w:Str}{h0:eF}{hs:List eF}(U6:X.stack=X.env::X.outer)(Sa:X.env.frame=↥X.env.locals)(Hs:zc X C n y z w (h0::hs))
  (nd:X.N.Nodup) (p:X.N[i]?=↥n) (V:X.N[j]?=↥y) (U:X.N[l]?=↥z) (hyn:y≠n) (hzn:z≠n) (hyz:y≠z) (S:X.env.scope.names.lookup n=↥.local) (O:X.env.scope.names.lookup y=↥.local) (M:X.env.scope.names.lookup z=↥.local) (dn:(n==⇑9)=false) (dc:(n==("__classdict__" : Str))=false)
  (hb:∀pn Ik,Passes (uU X.prog X.w C) (Cx.nQ X pn Ik) E1->gO (Cx.nQ X pn Ik) body tb) :
  PS X (.Try body (h0::hs) [] [] pos)
   (λD σ H=>tb D σ H/\∀ea H' c,E1 (.ref C) none H'->H' ea=none->c[j]?=↥↥(.str w)->c[l]?=↥↥(.ref ea)->D.nx c (upd H' ea (.ext (A9 ea C)))):=by
 intro pins s σ H D I hw;ext(⟨hbd,hh⟩:hw);have ok:=I.ok;have lY:∀{a b:Nat} {u v:Str},X.N[a]?=↥u->X.N[b]?=↥v->u≠v->a≠b:=λ{a b u v} h1 h2 h3 h4=>by
  subst h4;rw[h1]at h2;cases h2;exact h3 rfl
 refine wpAny_Try_except ?_;refine aa1 (hb pins _ ?_ [] s σ H D (J_ I (λe k=>⇑0 (noteFrame e X.env) (λ_ J=>⇑0 (setFlight e none) (λ_ G=>⇑0 (handleBy e X.env (h0::hs)) (SP X pins D) X.xe G) X.xe J) X.xe k)) hbd) (λf k q=>?_) (λ_ _ q=>q)
 ·intro Ep d H1 s1 e L g hx;ext(⟨ea,H',rfl,fl,he⟩:hx)(⟨n1,n2⟩:fl.new)(⟨⟨t,B,fw,HW⟩,os,bare,un,cJ⟩:fl);have g:Inv X pins d H1 s1:=ie g;have fw:xz B (X.env::X.outer) ea (.ref C) (.ref t) L.heap:=U6▸fw;have abG:X.A.frames=↥(X.env::X.outer):=U6▸g.ok.frames;show ⇑0 (noteFrame (.ref ea) X.env) _ X.xe L;refine wpAny_looks_onW abG Sa fw λh4 held sl4=>?_;refine wpAny_landsW held λh5 m sl5=>?_;ext(⟨F,Vc,ab9⟩:moved un cJ HW g.stack g.lN m.1 (sl4.trans sl5));have I5:Inv X pins d H' { L with heap:=h5 }:=g.AZ (ch:=[]) os F Vc bare λ_ z=>nomatch z;refine Cj I5 m.there Hs λp1 jj p2 p3 q1 q2 q3 aaF=>codeAny_handlers_suite_as ?_;refine lands_againW m λh6 Q sl6=>?_;ext(⟨Z,aaH,ahC⟩:moved F Vc ab9 g.stack g.lN Q.1 sl6)(⟨Y,aaG⟩:tracked (C:=C) Z aaH n1 n2 Q.there);have W:Inv X pins d (upd H' ea (.ext (A9 ea C))) { L with heap:=h6 }:=g.AZ (s':={ L with heap:=h6 }) (ch:=[]) os Y aaG bare λ_ z=>nomatch z;have eP:i<d.length:=[W.len]\(bn.mp p).1
  have C1:j<d.length:=[W.len]\(bn.mp V).1
  have kc:l<d.length:=[W.len]\(bn.mp U).1
  ext(ij:lY p V (ada hyn))(il:lY p U (ada hzn))(jl:lY V U hyz);refine h_ W nd p (.inl S) (v:=.ref ea) (u:=.ref ea) rfl (λs8 I8=>?_) (.inr S)
  let R:Cx:={ X with A:=X.A.mark ↥(.ref ea),calm:=false,xe:=AsSuiteRaised (model X.prog X.w) (X.A.mark ↥(.ref ea)) X.env n aaF (notedBy (model X.prog X.w) (X.A.mark ↥(.ref ea)) X.env (cameBackBy (model X.prog X.w) X.A X.env X.xe)) }
  have ps:gO R [.Assign [.Name y p1] (.Constant (.str w) jj p2) p3,.Assign [.Name z q1] (.Name n q2) q3] _:=cG (kO (X:=R) (i:=j) nd V (.inl O) (pz (X:=R) (x:=w) (j:=jj) (pos:=p2)) rfl (hf:=.inr O)) (gz (kO (X:=R) (i:=l) nd U (.inl M) (Ju (X:=R) (i:=i) (pos:=q2) p (.inl S) dn dc) rfl (hf:=.inr M)));refine aa1 (ps pins s8 _ _ { nx:=λc kI=>kI=upd H' ea (.ext (A9 ea C))/\c[j]?=↥↥(.str w)/\c[l]?=↥↥(.ref ea),rt:=λ_ _=>False } (FK I8 _ _) ?_) (λf s9 T=>?_) (λ_ _ q=>q)
  ·refine⟨.ref ea,?_,rfl,?_,?_⟩
   ·rw[ce (ja ij),eo eP]
   ·rw[ce (ja jl),eo ⇑C1]
   ·rw[eo ⇑kc]
  ·cases f with
   |next =>
    ext(⟨σ9,H9,I9,rfl,e9,e10⟩:T)(I9:yn ok I9);exact yf I9 S nd p λs10 I10=>⟨_,_,I10,hh ea H' _ he n1 ([ce ij]\e9) ([ce il]\e10)⟩
   |ret v=>ext(⟨_,_,_,_,_,z⟩:T);exact z.elim
   |brk=>ext(⟨_,_,_,z⟩:T);exact z.elim
   |cont=>ext(⟨_,_,_,z⟩:T);exact z.elim
 ·cases f with
  |next=>ext(⟨c,H',o,q⟩:q);exact adA ⟨c,H',ie o,q⟩
  |ret v=>ext(⟨v,c,H',o,r,q⟩:q);exact⟨v,c,H',ie o,r,q⟩
  |brk=>ext(⟨c,H',o,q⟩:q);exact⟨c,H',ie o,q⟩
  |cont=>ext(⟨c,H',o,q⟩:q);exact⟨c,H',ie o,q⟩
end
variable {N ps:ao}{st:Stmt}
def ab7{CX:CU}{x:Str}{b:hD}{k:Nat}{sp:Sp}(F:CQ K x qual st f b)(S:e_ N ps (aD st))(len:∀vs H Q E,sp vs H Q E->vs.length=ps.length)
  (d:∀(a:Value) (A:aF) (outer:List Env) (s:ap) (H:Hp) (vs:ah) (Q:VK) (E:XK),gu k (A.deeper (D0 qual (aD st) s.heap.objs.size f a))->sp vs H Q E ->
   ∃t,gO (js CX P w K mg base N qual (aD st) f a A outer s H E) (bB st) t/\t { nx:=λ_ H'=>Q .b0 H',rt:=Q } (L2.start N vs) H):fP P w K mg base CX (k+1) f b ps sp:=by
 ext(⟨n,m,kV,j,l,p,a,o,q,rfl,g,c⟩:F.ex);exact MQ g c S len λA outer s H vs Q E i e=>d a A outer s H vs Q E i e
def Zh(K:av)(C:Addr)(n:Nat)(b:aa->Prop):Sp:=λa H _ E=>∃(F:ag) (ds:aa),a.length=n/\aH (aY K H) (nd K F ⇑7 ⇑8 H) [] 0 a ds/\b ds/\∀H',aL H H'->E (.ref C) none H'
variable {F:Addr->Prop}
def vA{vs:ah}{ds:aa}{H:Hp}(l:X.H₀=H)(n:ds.length<=N.length)(rs:aH (aY X.K H) (nd X.K F ⇑7 ⇑8 H) [] 0 vs ds):
  SI X F (λp=>F p/\H p≠none) ⇑8 (ds.map some++cj (N.length - ds.length) none) (L2.start N vs) H:=by
 have g:vs.length=ds.length:=rs.length;refine⟨?_,λi d a=>?_,λ_ _=>rfl,λp h=>h.2,λp h=>.inl h.1,λ_ _ h=>by simp at h,λ_ _ h=>by simp at h,l▸aL.refl H⟩
 ·unfold L2.start;simp[g]
 ·have e:i<ds.length:=by
   by_cases b:i<ds.length
   ·exact b
   ·rw[d6 ⇑b,h9]at a;split at a<;>simp at a
  rw[d7 ⇑e,bv]at a;have hd:ds[i]?=↥d:=by
   cases q:ds[i]? with
   |none=>rw[q]at a;exact nk a
   |some z=>rw[q]at a;simp at a;rw[a]
  ext(⟨v,k,j⟩:rs.get hd);refine⟨v,?_,j.imp (q:=[0+i]) (q':=[i]) ⇑10 λc p m f h=>?_⟩
  ·unfold L2.start;rw[d7 ([zaa,g]\e),bv,k];rfl
  ·cases f with
   |ow=>exact nomatch h.2
   |fz=>exact⟨h.1,h.2,h.1.ne⟩
   |al=>exact h.2.elim
   |sc=>exact h
def mG(X:Cx)(F:ag)(a:aS->Prop):TS:=λ_ σ H=>∃R c b,SI X F R c b σ H/\a b
theorem PS.yd{X:Cx}{st:Stmt}{t:TS}(h:PS X.yd st t):PS X st t:=λpins s σ H D I hw =>
 aa1 (h pins s σ H D (I.oZ _) hw) (λ_ _ q=>q.iI) λ_ _ q=>q.elim
theorem SI.yd{X:Cx}{F R:ag}{a:Addr->Option bw}{ρ:aS}{σ:St}{H:Hp}(S:SI X F R a ρ σ H):SI X.yd F R a ρ σ H:=⟨S.len,S.rep,S.rt,S.rh,S.rf,S.th,S.t0,S.same⟩
variable {ρ:aS}
def SI.SS{R:Addr->Prop}{a:Addr->Option bw}{H:Hp}(S:SI X.yd F R a ρ σ H):SI X F R a ρ σ H:=⟨S.len,S.rep,S.rt,S.rh,S.rf,S.th,S.t0,S.same⟩
def Br(X:Cx)(F:ag)(a:aS->Prop):TE:=λσ H _=>∃R b ρ,SI X F R b ρ σ H/\a ρ
section
variable {X:Cx}{S:Sx}{k:Nat}{Φ:aV}{F:ag}{bad:aS->Prop}{C:Addr}
def KC{l:Addr}{i:hD}{j:ao}{d:aa->Prop}{m:aA}{g:Str}{e:Expr}{es:aj}(L:Lk X S k Φ)(y:Passes (uU X.prog X.w C) X (λc _ H'=>c=.ref C/\aL X.H₀ H'))
  (O:fP X.prog X.w X.K X.mg X.base (uU X.prog X.w C) k l i j (Zh X.K C j.length d)) (h2:gq S.sc g=true) (G:X.mg g=↥(.ref l)) (D:hP X.K (.ref l)=true) (I:Binds X.K i j []) (hd:(g==⇑9)=false)
  (h3:bV S m (e::es)=true) (x:∀r,cm (e::r) X.env=(false,eval e X.env)::cm r X.env) (hpl:(nw cpos (cm es X.env)).any (·.1)=false) :
  PE X (.Call (.Name g np) (e::es) [] cpos) (Br X F λρ=>∃a,bY Φ m ρ=ok a/\d (ak aK a)/\a.length=j.length):=by
 refine PE.imp (tP (X:=X) (p:=np) (pos:=cpos) O L.room (L.gl h2) G D I .nil y (oo (F:=F) L m (e::es) h3) hd (x _) hpl) λσ H Q z=>?_;ext(⟨R,t,ρ,q,a,M,n,o⟩:z);refine⟨R,t,ρ,a,q,M,λu Y e2 v=>?_⟩;ext(⟨s,V,b⟩:v);rw[zav];refine⟨λ_=>True,ak aK a,by rw[b.length,o],aH.jz ⇑10 (λk U p T f h=>?_) b _ _,n,λH' J=>⟨rfl,(q.same.trans e2).trans J⟩⟩;cases f with
 |ow=>exact⟨h.1,trivial⟩
 |fz=>exact⟨h.1,trivial⟩
 |al=>exact⟨h.1,trivial⟩
 |sc=>exact h
def QO{e:Expr}(h:PE X e (Br X F bad)):PS X (.Return ↥e pos) (mG X F bad):=PS.imp (mQ h) λ_ _ _ q=>q
def MT{e:Expr}(h:PE X e (Br X F bad))(hs:mu e none pos.line X.env=pure false):PS X (.Expr e pos) (mG X F bad):=PS.imp (lR h hs) λ_ _ _ q=>q
def QN{i:Nat}{x:Str}{e:Expr}{p:Pos}(c:X.N.Nodup)(b:X.N[i]?=↥x)(a:L2.Loc X.env.scope x)(hf:X.fn x=true)(h:PE X e (Br X F bad))(hs:mu e ↥(.Name x p) pos.line X.env=pure false):PS X (.Assign [.Name x p] e pos) (mG X F bad) :=
 PS.imp (kO c b a h hs (.inl hf)) λ_ _ _ q=>q
end
meta def yI(x:Str):Bool:=!(x==⇑9)&&!(x==("__classdict__" : Str))
theorem SI.nQ{X:Cx}{F R:ag}{a:Addr->Option bw}{ρ:aS}{σ:St}{H:Hp}{pn:au}{E:aB}(S:SI X F R a ρ σ H):SI (Cx.nQ X pn E) F R a ρ σ H:=⟨S.len,S.rep,S.rt,S.rh,S.rf,S.th,S.t0,S.same⟩
theorem Eo{S:Sx}{env:Env}{pos:Pos}:∀{es:aj} {cs:aA},bV S cs es=true->(nw pos (cm es env)).any (·.1)=false
 |[],_,_=>rfl
 |e::es,[],h=>by exact(aaj h).elim
 |e::es,c::cs,h=>by
  replace h:=aC h;rw[bG h.1 es env];show(false||(nw pos (cm es env)).any (·.1))=false;rw[Eo h.2];rfl
meta def Ug:CI->Bool
 |.seq _=>true
 |_=>false
mutual
inductive oW(Φ:aV)(Ψ:Nat->aa->Prop)(n:Nat):CS->aS->Prop
 |ex {g:Nat} {es:aA} {ρ:aS} {xs:aa} (h1:bY Φ es ρ=ok xs) (h2:Ψ g (ak aK xs)):oW Φ Ψ n (.ex (.call g es)) ρ
 |asg {i g:Nat} {es:aA} {ρ:aS} {xs:aa} (h1:bY Φ es ρ=ok xs) (h2:Ψ g (ak aK xs)):oW Φ Ψ n (.asg (.nm i) (.call g es)) ρ
 |ret {g:Nat} {es:aA} {ρ:aS} {xs:aa} (h1:bY Φ es ρ=ok xs) (h2:Ψ g (ak aK xs)):oW Φ Ψ n (.ret (.call g es)) ρ
 |rs {ρ:aS}:oW Φ Ψ n (.rs n) ρ
 |Pm {c:CE} {a b:ai} {ρ:aS} (h1:wJ Φ c ρ=ok true) (h2:Er Φ Ψ n a ρ):oW Φ Ψ n (.ifs c a b) ρ
 |iff {c:CE} {a b:ai} {ρ:aS} (h1:wJ Φ c ρ=ok false) (h2:Er Φ Ψ n b ρ):oW Φ Ψ n (.ifs c a b) ρ
 |fr {t:Tg} {a:CI} {b:ai} {ρ ρ1:aS} {items:aa} (h1:cI Φ a ρ=ok (items,ρ1)) (h2:HZ Φ Ψ n t b items ρ1) (h3:Ug a=true):oW Φ Ψ n (.fr t a b) ρ
inductive Er(Φ:aV)(Ψ:Nat->aa->Prop)(n:Nat):ai->aS->Prop
 |hd {c:CS} {cs:ai} {ρ:aS} (h:oW Φ Ψ n c ρ):Er Φ Ψ n (c::cs) ρ
 |tl {c:CS} {cs:ai} {ρ ρ':aS} (h1:ir Φ c ρ=ok (.nx,ρ')) (h2:Er Φ Ψ n cs ρ'):Er Φ Ψ n (c::cs) ρ
inductive HZ(Φ:aV)(Ψ:Nat->aa->Prop)(n:Nat):Tg->ai->aa->aS->Prop
 |hd {t:Tg} {b:ai} {d:D} {ds:aa} {ρ ρ1:aS} (h1:cw t d ρ=ok ρ1) (h2:Er Φ Ψ n b ρ1):HZ Φ Ψ n t b (d::ds) ρ
 |tl {t:Tg} {b:ai} {d:D} {ds:aa} {ρ ρ1 ρ2:aS} (h1:cw t d ρ=ok ρ1) (h2:bE Φ b ρ1=ok (.nx,ρ2)) (h3:HZ Φ Ψ n t b ds ρ2):HZ Φ Ψ n t b (d::ds) ρ
end
meta def vRs:Stmt->Option Expr
 |.Raise e c _=>match c with
  |none=>e
  |some _=>none
 |_=>none
protected def Nq{s:Stmt}{e:Expr}(h:vRs s=↥e):∃p,s=.Raise ↥e none p:=by
 cases s<;>first|exact nk h | (cases h;done)|skip
 rename_i a c p;cases c with
 |some _=>cases h
 |none=>cases h;exact⟨p,rfl⟩
meta def UU:Expr->Bool
 |.Constant c _ _=>match c with|.str _=>true|_=>false
 |_=>false
protected def J8{e:Expr}(h:UU e=true):∃m j p,e=.Constant (.str m) j p:=by
 cases e<;>first|exact(aaj h).elim|skip
 rename_i c _ _;cases c<;>first|exact(aaj h).elim|exact⟨_,_,_,rfl⟩
def rsB(y:Str)(st:Stmt):Bool:=bz (vRs st) λe=>bz (fc e) λz=>(z.1==y)&&bz (one z.2) UU
mutual
meta def xk(gl:Bool)(n:Nat)(y:Str):CS->Stmt->Bool
 |.rs m,st=>!(m==n)||(gl&&rsB y st)
 |.ifs _ a b,st=>bz (Nu st) λz=>uV gl n y a z.2.1&&uV gl n y b z.2.2
 |.fr _ _ b,st=>bz (Nv st) λz=>uV gl n y b z.2.2.1
 |_,_=>true
meta def uV(gl:Bool)(n:Nat)(y:Str):ai->aP->Bool
 |c::cs,st::nS=>xk gl n y c st&&uV gl n y cs nS
 |_,_=>true
end
structure jR(P:aG)(w:World)(K:av)(mg:aT)(base:Heap)(k:Nat)(C:Addr)(y:Str)(mr:aa->Prop):Prop where
 ex:∃(f:Addr) (fd:hD) (ps:ao),fP P w K mg base (uU P w C) k f fd ps (Zh K C ps.length mr)/\mg y=↥(.ref f)/\hP K (.ref f)=true/\Binds K fd ps []/\∀ds,mr ds->ds.length=ps.length
structure RD(X:Cx)(S:Sx)(k:Nat)(Φ:aV)(Ψ:Nat->aa->Prop)(C:Addr)(y:Str)(gl:Bool):Prop where
 ls:ny X S k Φ
 hR:∀pins σ H1 s1 h' ea vs,Inv X pins σ H1 s1->aL X.H₀ H1->FM s1.heap h' ea (.ref C) vs->X.xe (.ref ea) { s1 with heap:=h' }
 hx:Passes (uU X.prog X.w C) X (λc _ H'=>c=.ref C/\aL X.H₀ H')
 fe:∀g x,S.fn g=↥x->(∃ds,Ψ g ds)->jR X.prog X.w X.K X.mg X.base k C x (Ψ g)
 gy:gl=true->Gl X y/\(y==⇑9)=false
 own:oh y C X.mg X.base
variable {es:aA}{xs:aa}
section
variable {X:Cx}{S:Sx}{k n:Nat}{Φ:aV}{Ψ:Nat->aa->Prop}{F:ag}{C:Addr}{y:Str}{gl:Bool}
def wK(L:Lk X S k Φ)(u:Passes (uU X.prog X.w C) X (λc _ H'=>c=.ref C/\aL X.H₀ H'))(T:∀g x,S.fn g=↥x->(∃i,Ψ g i)->jR X.prog X.w X.K X.mg X.base k C x (Ψ g)){g:Nat}{e:Expr}(h:cg S (.call g es) e=true):PE X e (Br X F λρ=>∃xs,bY Φ es ρ=ok xs/\Ψ g (ak aK xs)):=by
 ext(⟨⟨x,as⟩,v,q1⟩:bu h)(⟨p,pos,rfl⟩:cn v)(⟨s,q⟩:aC q1)(⟨o,h3⟩:aC s)(⟨O,h2⟩:aC o)(⟨⟨a,l⟩,z,b⟩:bu q);obtain rfl:as=a::l:=xM z;by_cases j:∃i,Ψ g i
 case neg=>exact λ_ _ _ _ _ _ ⟨_,_,_,_,xs,_,e2⟩=>absurd ⟨_,e2⟩ j
 ext(⟨f,W,ps,Fo,G,J,M,I⟩:(T g x (aag O) j).ex);unfold nY at h3;simp only[zah,zbb]at h3;have t:∀r,cm (a::r) X.env=(false,eval a X.env)::cm r X.env:=λr=>by
  cases es with
  |nil=>exact(aaj b).elim
  |cons c U=>exact bG (aC b).1 r _
 have d:(nw pos (cm l X.env)).any (·.1)=false:=by
  cases es with
  |nil=>exact(aaj b).elim
  |cons c U=>exact Eo (aC b).2
 refine PE.imp (KC (F:=F) (C:=C) (np:=p) (cpos:=pos) L u Fo h2 G J M h3.1.1 b t d) λσ H Q D=>?_;ext(⟨R,m,ρ,V,xs,e1,e2⟩:D);exact⟨R,m,ρ,V,xs,e1,e2,by have:=I _ e2;rw[aN,zaa]at this;exact this⟩
def ux(L:RD X S k Φ Ψ C y gl){g:Nat}{e:Expr}(h:cg S (.call g es) e=true):PE X e (Br X F λρ=>∃xs,bY Φ es ρ=ok xs/\Ψ g (ak aK xs)):=wK L.ls.toLk L.hx L.fe h
def CT(X:Cx)(F:ag)(Φ:aV)(Ψ:Nat->aa->Prop)(n:Nat)(t:Tg)(b:ai)(R1:ag)(H1:Hp)(items:aa)(i:Nat)(σ:St)(H:Hp):Prop:=∃d c a,SI X F d c a σ H/\Kp R1 H1 d H/\HZ Φ Ψ n t b (items.drop i) a
def tEr(X:Cx)(F:ag)(Φ:aV)(Ψ:Nat->aa->Prop)(n:Nat)(b:ai):TS:=λD σ H=>lM X F Φ b D σ H\/mG X F (Er Φ Ψ n b) D σ H
def AE{g:TG}{t:Tg}{b:ai}{D:L2.Ends}{R1:ag}{items:List DI.D}{xs:ah}{q:bw}
  (u:∀(v:V) (σ:St) (H:Hp) (Q:St->Hp->Prop) (R:ag) (s:Addr->Option bw) (ρ ρ':aS) (d:DI.D),SI X F R s ρ σ H->gX X R s H v d->cw t d ρ=ok ρ'->(∀c a,SI X F R a ρ' c H->Q c H)->g v σ H Q)
  (rs:aH (aY X.K H1) (nd X.K R1 ⇑7 ⇑8 H1) q 0 xs items) (i:Nat) (x:V) (σ:St) (H:Hp) (O:xs[i]?=↥x) (h:CT X F Φ Ψ n t b R1 H1 items i σ H) :
  g x σ H λm W=>tEr X F Φ Ψ n b { D with nx:=CT X F Φ Ψ n t b R1 H1 items (i+1),ct:=CT X F Φ Ψ n t b R1 H1 items (i+1),bk:=D.nx } m W:=by
 ext(⟨j,a,ρ',I,p,G⟩:h)(⟨d,hd,z⟩:rs.Gh O);have e:i<items.length:=by
  by_cases e:i<items.length
  ·exact e
  ·rw[dV ⋯]at hd;cases hd
 have L:items.drop i=d::items.drop (i+1):=by
  rw[zax e];rw[cb e]at hd;cases hd;rfl
 rw[L]at G;cases G with
 |hd e1 e2=>exact u x σ H _ j a ρ' _ d I (j4 (Rep.mV (p.rep z))) e1 λc o r=>.inr ⟨j,o,_,r,e2⟩
 |tl e1 e2 e3=>exact u x σ H _ j a ρ' _ d I (j4 (Rep.mV (p.rep z))) e1 λc o r=>.inl ⟨j,o,_,(.nx,_),r,e2,λJ Y T l U M=>⟨T,l,_,U,p.trans M,e3⟩⟩
def Gx{t:Tg}{b:ai}{R1:ag}{items:List DI.D}{m:Nat}{P:Prop}(hn:m=items.length)(σ:St)(H:Hp)(h:CT X F Φ Ψ n t b R1 H1 items m σ H):P:=by
 ext(⟨_,_,_,_,_,a⟩:h);subst hn;rw[W1]at a;cases a
protected def QL(L:ny X S k Φ){t:Tg}{a:CE}{b:ai}{W iter:Expr}{x:aP}(ht:ra S t W=true)(r:Rh S (.seq a) iter=true)(hb:gO X x (tEr X F Φ Ψ n b)):PS X (.For W iter x [] pos) (mG X F (oW Φ Ψ n (.fr t (.seq a) b))):=by
 ext(⟨g,hg,V⟩:zw (F:=F) L ht);have Z:∀y,m8 iter X.env y=pure y:=by
  intro y;cases iter<;>first|rfl|exact(aaj r).elim|exact(aaj (aC r).2).elim
 intro pins s σ H D I R5;ext(⟨R,τ,ρ,u,Q⟩:R5);cases Q with
 |fr j ef _ =>
  replace r:=aC r;ext(⟨d,ed,j⟩:aJ j)(Y:(fA (F:=F) L.toLk a iter r.1).1);cases d<;>try (simp at j;done)
  ·rename_i U;simp at j;ext(⟨rfl,rfl⟩:j);refine kP L.px L.calm (x9 Y) hg hb Z pins s σ H D I (tD.intro u ed λv H1 e1 J=>?_);ext(⟨l,e,hR,T,o⟩:oE u e1 J);rw[aI]at o;cases o with
   | @tup _ p xs _ q m =>
    refine⟨p,rfl,⟨xs,q⟩,oF (xs:=xs) (CT X F Φ Ψ n t b l H1 (ak aK U)) ⟨l,e,_,T,Kp.refl l H1,[zaT]\ef⟩ (λi c H' _ h=>?_) (λi x c H' O h=>AE V m i x c H' O h) (λc H' h=>Gx (m.length) c H' h)⟩;ext(⟨R2,z,G,_,M,_⟩:h);exact M.Ts q
  ·rename_i f U;simp at j;ext(⟨rfl,rfl⟩:j);refine kP L.px L.calm (tM Y) hg hb Z pins s σ H D I (tD.intro u ed λv H1 e1 J=>?_);ext(⟨l,e,hR,T,o⟩:oE u e1 J);rw[aI]at o;cases o with
   | @lst _ p xs _ _ q m =>
    refine⟨p,rfl,⟨xs,q.sq⟩,oF (xs:=xs) (CT X F Φ Ψ n t b l H1 (ak aK U)) ⟨l,e,_,T,Kp.refl l H1,[zaT]\ef⟩ (λi c H' _ h=>?_) (λi x c H' O h=>AE V m i x c H' O h) (λc H' h=>Gx (m.length) c H' h)⟩;ext(⟨R2,z,G,_,M,_⟩:h);exact(M.nd q).sq
def gb{c:CS}(h:∀ρ,oW Φ Ψ n c ρ->False):PS X st (mG X F (oW Φ Ψ n c)):=λ_ _ _ _ _ _ a=>by
 ext(⟨_,_,ρ,_,b⟩:a);exact(h ρ b).elim
def Gy{c:CS}(h:∀ρ,oW Φ Ψ n c ρ->PS X st (λ_ σ H=>∃R a,SI X F R a ρ σ H)):PS X st (mG X F (oW Φ Ψ n c)):=λpins s σ H D I b=>by
 ext(⟨R,a,ρ,e,d⟩:b);exact h ρ d pins s σ H D I ⟨R,a,e⟩
def QP(L:RD X S k Φ Ψ C y gl){g:Nat}(h:qt S (.ex (.call g es)) st=true)(a:bY Φ es ρ=ok xs)(b:Ψ g (ak aK xs)):PS X st (λ_ σ H=>∃R c,SI X F R c ρ σ H):=by
 ext(⟨v,e,q1⟩:bu h)(⟨pos,rfl⟩:o6 e)(⟨d,h2⟩:aC q1);exact PS.imp (MT (ux (F:=F) L d) (iA d (dZ h2) _ _ _)) λD σ H i=>by ext(⟨R,c,j⟩:i);exact⟨R,c,ρ,j,_,a,b⟩
def KA(L:RD X S k Φ Ψ C y gl){g:Nat}(h:qt S (.ret (.call g es)) st=true)(a:bY Φ es ρ=ok xs)(b:Ψ g (ak aK xs)):PS X st (λ_ σ H=>∃R c,SI X F R c ρ σ H):=by
 ext(⟨z,e,q1⟩:bu h)(⟨pos,rfl⟩:zf e)(⟨v,d,i⟩:bu q1);obtain rfl:z=↥v:=d;exact PS.imp (QO (ux (F:=F) L i)) λD σ H j=>by ext(⟨R,c,l⟩:j);exact⟨R,c,ρ,l,_,a,b⟩
def KD(L:RD X S k Φ Ψ C y gl){i g:Nat}(h:qt S (.asg (.nm i) (.call g es)) st=true)(a:bY Φ es ρ=ok xs)(b:Ψ g (ak aK xs)):PS X st (λ_ σ H=>∃R c,SI X F R c ρ σ H):=by
 ext(⟨⟨G,v⟩,m,q1⟩:bu h)(⟨pos,rfl⟩:jV m)(⟨e,l,r⟩:bu q1);obtain rfl:G=[e]:=b8 l;ext(⟨q,I⟩:aC r)(⟨o,h3⟩:aC q)(⟨d,h2⟩:aC o);obtain⟨x,p,rfl⟩:∃x p,e=.Name x p:=uB h2;ext(j:aC (show _=true from h2));have u:iR v=false:=by
  ext(⟨⟨x,as⟩,s,_⟩:bu d)(⟨p,pos,rfl⟩:cn s);rfl
 exact PS.imp (QN L.ls.nd ([L.ls.N]\aag j.1) (L.ls.loc j.2) (L.ls.oI _) (ux (F:=F) L d) (iA d u _ _ _)) λD σ H t=>by ext(⟨R,c,z⟩:t);exact⟨R,c,ρ,z,_,a,b⟩
mutual
theorem erS(L:RD X S k Φ Ψ C y gl):∀(c:CS) (st:Stmt),qt S c st=true->xk gl n y c st=true->PS X st (mG X F (oW Φ Ψ n c))
 |.ex e,st,h,_=>Gy λρ d=>by cases d with|ex a b=>exact QP L h a b
 |.ret e,st,h,_=>Gy λρ d=>by cases d with|ret a b=>exact KA L h a b
 |.asg t e,st,h,_=>Gy λρ d=>by cases d with|asg a b=>exact KD L h a b
 |.rs m,st,h,g=>by
  by_cases T:m=n
  ·subst T;have g:(!(m==m)||(gl&&rsB y st))=true:=g;rw[zbd,Bool.not_true,yas]at g;ext(⟨hg,g⟩:aC g)(⟨gy,dy⟩:L.gy hg)(⟨e,r,q1⟩:bu g)(⟨pos,rfl⟩:Nq r)(⟨⟨x,as⟩,Y,u⟩:bu q1)(⟨p,pos',rfl⟩:cn Y)(⟨M,J⟩:aC u)(⟨c,W,q5⟩:bu J);obtain rfl:as=[c]:=b8 W;ext(⟨m',j,p',rfl⟩:J8 q5);obtain rfl:x=y:=eq_of_beq M;exact PS.imp (Eg L.ls.calm L.own gy dy) λD σ H q=>by
    ext(⟨R,o,ρ,l,d⟩:q);exact λpins s h' ea Z I FU=>L.hR pins _ H s h' ea Z I l.same FU
  ·exact gb λ_ d=>by cases d;exact absurd rfl T
 |.ifs c a b,st,h,g=>by
  ext(⟨⟨t,x,z⟩,r,q1⟩:bu h)(⟨pos,rfl⟩:sT r)(⟨u,h3⟩:aC q1)(⟨v,h2⟩:aC u)(⟨Q,O⟩:aC (show(uV gl n y a x&&uV gl n y b z)=true from g));refine PS.imp (vQ (pos:=pos) (fA (F:=F) L.ls.toLk c t v).2 (Gz L a x h2 Q) (Gz L b z h3 O)) λD σ H q=>?_;ext(⟨R,o,ρ,l,d⟩:q);cases d with
  |Pm e1 e2=>exact⟨R,o,ρ,true,l,e1,λH2 es=>UO ⟨R,o,ρ,l.go es,e2⟩⟩
  |iff e1 e2=>exact⟨R,o,ρ,false,l,e1,λH2 es=>J6 ⟨R,o,ρ,l.go es,e2⟩⟩
 |.par _ _ _ _,st,h,_=>gb λ_ d=>by cases d
 |.mut _ _ _,st,h,_=>gb λ_ d=>by cases d
 |.mu2 _ _ _ _,st,h,_=>gb λ_ d=>by cases d
 |.unp _ _,st,h,_=>gb λ_ d=>by cases d
 |.app _ _,st,h,_=>gb λ_ d=>by cases d
 |.aug _ _ _,st,h,_=>gb λ_ d=>by cases d
 |.LI _ _,st,h,_=>gb λ_ d=>by cases d
 |.fr t it b,st,h,g=>by
  ext(⟨⟨tg,iter,x,z⟩,r,q1⟩:bu h)(⟨pos,rfl⟩:zi r)(⟨u,U⟩:aC q1)(⟨M,h4⟩:aC u)(⟨J,h3⟩:aC M)(⟨v,h2⟩:aC J);obtain rfl:z=[]:=jD v;have g:uV gl n y b x=true:=g;cases it with
  |seq a =>
   ext(p1:iK (F:=F) L.ls b x U)(p2:Gz L b x U g);exact QL L.ls h2 h3 λpins s σ H D I q=>q.elim (p1 pins s σ H D I) (p2 pins s σ H D I)
  |Ml p cs=>exact gb λ_ d=>by cases d with|fr _ _ h=>cases h
  |nC a=>exact gb λ_ d=>by cases d with|fr _ _ h=>cases h
  |mM a c=>exact gb λ_ d=>by cases d with|fr _ _ h=>cases h
theorem Gz(L:RD X S k Φ Ψ C y gl):∀(cs:ai) (i:aP),jo S cs i=true->uV gl n y cs i=true->gO X i (mG X F (Er Φ Ψ n cs))
 |[],_,_,_=>λ_ _ _ _ _ _ b9=>by ext(⟨_,_,_,_,d⟩:b9);cases d
 |_::_,[],h,_=>by exact(aaj h).elim
 |c::cs,st::i,h,g=>by
  replace h:=aC h;ext(⟨Q,O⟩:aC (show(xk gl n y c st&&uV gl n y cs i)=true from g));have hN:gO X i NI:=λ_ _ _ _ _ _ z=>z.elim;have v:PS X st (mj X F Φ c):=xW (F:=F) L.ls c st h.1;have A:gO X (st::i) _:=cG (erS L c st h.1 Q) hN;have B:gO X (st::i) _:=cG v (Gz L cs i h.2 O);intro pins s σ H D I q;ext(⟨R,o,ρ,l,d⟩:q);cases d with
  |hd e=>exact A pins s σ H D I ⟨R,o,ρ,l,e⟩
  |tl e1 e2=>exact B pins s σ H D I ⟨R,o,ρ,(.nx,_),l,e1,λV H' R' G eH kp=>⟨R',G,_,eH,e2⟩⟩
end
end
def QM{x:Str}{p:hD}{k n:Nat}{bl:ao}{cs:List (Str×GK)}{px:Px}{c:Nat->Option Str}{Ψ:Nat->aa->Prop}{m:aa->Prop}{b:ai}{y:Str}
  (W:CQ K x qual st f p) (d:e_ N ps (aD st)) (F2:jo ⟨aD st,N,c,bl,cs,px⟩ b (bB st)=true) (S:uV (gq (aD st) y&&!(y==⇑9)) n y b (bB st)=true) (Z:og px Φ) (U:HE px Φ)
  (r:∀y∈bl,mg y=none) (G:∀y i,(y,i)∈cs->∃u,mg y=↥u/\xE K i u) (D:∀g y,c g=↥y->Ent P w K mg base k y (Φ g)) (j:∀g y,c g=↥y->(∃a,Ψ g a)->jR P w K mg base k C y (Ψ g))
  (O:oh y C mg base) (M:∀a,m a->a.length=ps.length/\Er Φ Ψ n b (a.map some++cj (N.length - a.length) none)):fP P w K mg base (uU P w C) (k+1) f p ps (Zh K C ps.length m):=by
 refine ab7 (N:=N) W d (λl H Q E ⟨_,_,h,_⟩=>h) λR A outer s H l Q E J t=>?_;ext(⟨F,a,hl,v,e,o⟩:t)(⟨Vs,T⟩:M a e)
 let X:=js (uU P w C) P w K mg base N qual (aD st) f R A outer s H E
 have q:ny X ⟨aD st,N,c,bl,cs,px⟩ k Φ:=⟨⟨rfl,rfl,d.nd,rfl,J,r,λg y h=>⟨(D g y h).ex⟩,G,Z⟩,λ_=>rfl,PassesOwn.leaving,d.kind,U⟩
 have L:ps.length<=N.length:=by have:=aa2 mo d.pre;rw[zar]at this;left
 have V:RD X ⟨aD st,N,c,bl,cs,px⟩ k Φ Ψ C y (gq (aD st) y&&!(y==⇑9)):=⟨q,λpins σ H1 s1 h' ea l I es Y=>Jl I Y (o H1 es),T9 λH' h=>o H' h.2,j,λz=>⟨q.gl (aC z).1,⇑(aC z).2⟩,O⟩
 exact⟨_,Gz (F:=F) V b _ F2 S,_,_,_,vA (X:=X) rfl ⋯ v,T⟩
section
variable {X:Cx}{S:Sx}{k n:Nat}{Φ:aV}{Ψ:Nat->aa->Prop}{F:ag}{C B:Addr}
meta def Pd:CE->Bool
 |.call _ _=>true
 |_=>false
def Pc:CS->Bool
 |.ex e=>Pd e
 |_=>false
def ID:CS->Bool
 |.ex e=>Pd e
 |.ifs _ a b=>bz (one a) λx=>bz (one b) λy=>Pc x&&Pc y
 |_=>false
def Ae{e:CE}(h:Pd e=true):∃g es,e=.call g es:=by
 cases e<;>first|exact(aaj h).elim|exact⟨_,_,rfl⟩
def Ad{c:CS}(h:Pc c=true):∃g es,c=.ex (.call g es):=by
 cases c<;>first|exact(aaj h).elim|skip
 ext(⟨g,es,rfl⟩:Ae h);exact⟨g,es,rfl⟩
def MR(L:Lk X S k Φ)(j:Passes (uU X.prog X.w C) X (λc _ H'=>c=.ref C/\aL X.H₀ H'))(m:∀g x,S.fn g=↥x->(∃o,Ψ g o)->jR X.prog X.w X.K X.mg X.base k C x (Ψ g)){g:Nat}(h:qt S (.ex (.call g es)) st=true):PS X st (mG X F (oW Φ Ψ n (.ex (.call g es)))):=by
 ext(⟨v,i,q1⟩:bu h)(⟨pos,rfl⟩:o6 i)(⟨d,h2⟩:aC q1);exact PS.imp (MT (wK (F:=F) L j m d) (iA d (dZ h2) _ _ _)) λD σ H p=>by ext(⟨R,e,ρ,q,l⟩:p);cases l with|ex a b=>exact⟨R,e,ρ,q,_,a,b⟩
def Wc(L:Lk X S k Φ)(m:Passes (uU X.prog X.w C) X (λc _ H'=>c=.ref C/\aL X.H₀ H'))(o:∀g x,S.fn g=↥x->(∃J,Ψ g J)->jR X.prog X.w X.K X.mg X.base k C x (Ψ g)){c:CS}(l:ID c=true)(h:qt S c st=true):PS X st (mG X F (oW Φ Ψ n c)):=by
 cases c<;>first|exact(aaj l).elim|skip
 ·ext(⟨g,es,rfl⟩:Ae l);exact MR L m o h
 ·ext(⟨T,s,G⟩:bu l)(⟨Q,r,i⟩:bu G)(⟨q,p⟩:aC i)(⟨_,_,rfl⟩:Ad q)(⟨_,_,rfl⟩:Ad p);cases b8 s;cases b8 r;ext(⟨⟨t,x,z⟩,u,q1⟩:bu h)(⟨pos,rfl⟩:sT u)(⟨v,h3⟩:aC q1)(⟨I,h2⟩:aC v);have one:∀{g:Nat} {es:aA} {j:aP},jo S [.ex (.call g es)] j=true->gO X j (mG X F (Er Φ Ψ n [.ex (.call g es)])):=λ{g es j} d=>by
   cases j with
   |nil=>exact(aaj d).elim
   |cons O rest =>
    ext(d:aC d);cases rest with
    |cons _ _=>exact(aaj d.2).elim
    |nil =>
     refine gO.imp (gz (MR (F:=F) (n:=n) L m o d.1)) λD σ H ⟨R,a,ρ,b,i⟩=>?_;cases i with
     |hd e=>exact⟨R,a,ρ,b,e⟩
     |tl _ e=>cases e
  refine PS.imp (vQ (pos:=pos) (fA (F:=F) L _ t I).2 (one h2) (one h3)) λD σ H y=>?_;ext(⟨R,a,ρ,b,i⟩:y);cases i with
  |Pm e1 e2=>exact⟨R,a,ρ,true,b,e1,λM es=>UO ⟨R,a,ρ,b.go es,e2⟩⟩
  |iff e1 e2=>exact⟨R,a,ρ,false,b,e1,λM es=>J6 ⟨R,a,ρ,b.go es,e2⟩⟩
end
meta def Xv:Px:=⟨λ_ _ _ _=>none,λ_ _ _ _=>none,λ_ _ _ _=>none,λ_ _ _ _=>none⟩
def pr0:og Xv Φ:=⟨(λX b bl k L p e args a F g c=>by cases a),(λX b bl k L p e args a F g j l c pins s σ H R i ρ xs d items I q o n m r hR=>by cases a)⟩
def Xa(K:av)(mg:aT)(sc:Scope)(C:Addr)(x:Str)(b:Bool):Prop :=
 (gq sc x=true/\(x==⇑9)=false)/\((∃a,mg x=↥(.ref a)/\bi K (.ref C) (.ref a)=↥b)\/∃T,mg x=none/\kE x=↥(.type T)/\x ≠ "__name__" /\ bi K (.ref C) (.type T)=↥b)
def Hr{x:Str}{G:hD}{k:Nat}{bl:ao}{err:Str}{cl:Str->Option Bool} 
  (Fu:CQ K x qual st f G) (l:e_ [err,told] [err] (aD st)) {a b r:Expr} {t q o n m:aj} {Y W U:Pos} {j:Nat} {V pr Jt Js Jp Ma Mj Mq Me L_ Mi HN Md L9 Mh Mp Mc L8 Mf Mo Mb Jo:Pos}
  (Kg:bB st=oq told a b r t q o n m Y W U j V pr Jt p1 Js Jp p2 Ma Mj Mq Me p3 L_ Mi HN Md p4 L9 Mh Mp Mc p5 L8 Mf Mo Mb Jo) (ha:wk err cl a=↥true) (hb:wk err cl b=↥true)
  (i1:eI err cl t=↥b1) (i2:eI err cl q=↥b2) (i3:eI err cl o=↥b3) (i4:eI err cl n=↥b4) (i5:eI err cl m=↥b5) (c:cg ⟨aD st,[err,told],λ_=>none,bl,[],Xv⟩ yU r=true)
  (he:(aD st).names.lookup err=↥.local) (hl:(aD st).names.lookup told=↥.local) (d1:(err==⇑9)=false) (d2:(err==("__classdict__" : Str))=false) (d3:(told==⇑9)=false) (d4:(told==("__classdict__" : Str))=false)
  (R:∀y∈bl,mg y=none) (M:XC K C) (gi:gq (aD st) "isinstance" = true) (ni:mg "isinstance" = none) (d:∀x b,cl x=↥b->Xa K mg (aD st) C x b) (hlen:b1.length+b2.length+b3.length+b4.length+b5.length<=sizeLine)
  (J:aZ (λ_ _=>none) yU [none,↥(.fz\((b1++b2++b3++b4++b5).map DI.D.bl))]=ok (.bl true)):fP P w K mg base u_ (k+1) f G [err] (sY C):=by
 refine Fu.ok (N:=[err,told]) l (λO H Q E b9=>by ext(⟨_,h,_⟩:b9);rw[h];rfl) λfM A outer s H O Q E hr S=>?_;ext(⟨ea,rfl,hH,hq⟩:S)
 let X:=(js u_ P w K mg base [err,told] qual (aD st) f fM A outer s H E).yd
 have L:Lk X ⟨aD st,[err,told],λ_=>none,bl,[],Xv⟩ k (λ_ _=>none):=⟨rfl,rfl,l.nd,rfl,hr,R,(λg y h=>by cases h),(λy i h=>by cases h),pr0⟩
 have Z:Sv X C cl:=⟨M,L.gl gi,ni,λx b h p=>by
  ext(⟨⟨v,h2⟩,h3⟩:d x b h)((⟨I,h3,e⟩|⟨T,h3,e,h5,h6⟩):h3)
  ·exact⟨.ref I,.ref I,zW (L.gl v) h3 rfl h2,λu z=>z,e⟩
  ·exact⟨.ty T,.type T,zY (L.gl v) h3 e rfl h5 h2,λu z=>z,h6⟩⟩
 exact[Kg]\⟨_,yX (X:=X) L Z rfl he hl d1 d2 d3 d4 l.nd hlen J ha hb i1 i2 i3 i4 i5 c,ea,rfl,rfl,hH,hq⟩
end DI
end
section
namespace DI
open PySem (Str)
section
variable {α β:Type}
nonrec def cP(a:α)(f:α->O β):bd (ok a) f=f a:=rfl
nonrec def Yt(c:Nat)(f:α->O β):bd ↥(.error c) f=↥(.error c):=rfl
meta def M_(f:α->O β)(x:O α):O β:=bd x f
nonrec def ach(f:α->O β)(a:α):M_ f (ok a)=f a:=rfl
nonrec def Yw(f:α->O β)(c:Nat):M_ f ↥(.error c)=↥(.error c):=rfl
end
def WK(op:Bb)(x y:O D):O D:=bd x λx=>bd y λy=>dk op x y
nonrec def Yq(op:Bb)(x y:D):WK op (ok x) (ok y)=dk op x y:=rfl
def Wz(op:C_)(x y:O D):O D:=bd x λx=>bd y λy=>jH op x y
nonrec def Yn(op:C_)(x y:D):Wz op (ok x) (ok y)=jH op x y:=rfl
def ixO(x y:O D):O D:=bd x λx=>bd y λy=>HQ x y
nonrec def Z8(x y:D):ixO (ok x) (ok y)=HQ x y:=rfl
def Uh(x:O D):O D:=bd (bd x jq) λb=>ok (.bl (!b))
nonrec def XH(b:Bool):Uh (ok (.bl b))=ok (.bl (!b)):=rfl
nonrec def SX(b:Bool):jq (.bl b)=ok b:=rfl
def xQ(x:O D):O Bool:=bd x jq
nonrec def Xh(b:Bool):xQ (ok (.bl b))=ok b:=rfl
nonrec def SW(c:Nat):xQ ↥(.error c)=↥(.error c):=rfl
def isO(t:Ty)(x:O D):O D:=bd x λx=>ok (.bl (eC t x))
nonrec def aae(t:Ty)(x:D):isO t (ok x)=ok (.bl (eC t x)):=rfl
def AY(m:aE)(xs:O (aa)):O D:=bd xs λxs=>bd (m (ak aK xs)) λr=>ok (aI fC r)
def Qf(x:O D):O D:=bd x λr=>ok (aI fC r)
nonrec def abE(r:D):Qf (ok r)=ok (aI fC r):=rfl
nonrec def Yc(c:Nat):Qf ↥(.error c)=↥(.error c):=rfl
nonrec def qu(m:aE)(xs:aa):AY m (ok xs)=Qf (m (ak aK xs)):=rfl
nonrec def So(m:aE)(c:Nat):AY m ↥(.error c)=↥(.error c):=rfl
meta def qo(x:O D)(xs:O (aa)):O (aa):=bd x λx=>bd xs λxs=>ok (x::xs)
nonrec def Wy(x:D)(xs:aa):qo (ok x) (ok xs)=ok (x::xs):=rfl
nonrec def Sl(c:Nat)(xs:O (aa)):qo ↥(.error c) xs=↥(.error c):=rfl
nonrec def Ra(x:D)(c:Nat):qo (ok x) ↥(.error c)=↥(.error c):=rfl
def Lq(x y:O D):O D:=bd (bd x jq) λc=>if c then y else ok (.bl false)
nonrec def aci(y:O D):Lq (ok (.bl true)) y=y:=rfl
nonrec def acj(y:O D):Lq (ok (.bl false)) y=ok (.bl false):=rfl
nonrec def ack(a b:Bool):Lq (ok (.bl a)) (ok (.bl b))=ok (.bl (a&&b)):=by cases a<;>rfl
def XA(x y:O D):O D:=bd (bd x jq) λc=>if c then ok (.bl true)else y
nonrec def ac4(y:O D):XA (ok (.bl true)) y=ok (.bl true):=rfl
nonrec def ac5(y:O D):XA (ok (.bl false)) y=y:=rfl
nonrec def ac6(a b:Bool):XA (ok (.bl a)) (ok (.bl b))=ok (.bl (a||b)):=by cases a<;>rfl
def Fw(x:O D):O D:=bd (bd x jq) λc=>ok (.bl c)
nonrec def UG(c:Bool):Fw (ok (.bl c))=ok (.bl c):=rfl
nonrec def Tv(d:D):zH ↥↥d=ok (aI bp d):=rfl
section
variable (Φ:aV)(ρ:aS)
nonrec def aeq:aZ Φ .b0 ρ=ok .b0:=rfl
nonrec def ahA(b:Bool):aZ Φ (.bl b) ρ=ok (.bl b):=rfl
nonrec def MX(i:Int):aZ Φ ↑i ρ=ok ↑i:=rfl
nonrec def aem(i:Str):aZ Φ (.str i) ρ=ok (.str i):=rfl
nonrec def aeu(x:Str)(i:Int):aZ Φ (.glo x i) ρ=ok ↑i:=rfl
nonrec def e_v(i:Nat):aZ Φ (.v i) ρ=zH ρ[i]?:=rfl
nonrec def GN(op:Bb)(a b:CE):aZ Φ (.bin op a b) ρ=WK op (aZ Φ a ρ) (aZ Φ b ρ):=rfl
nonrec def Wo(op:C_)(a b:CE):aZ Φ (.cmp op a b) ρ=Wz op (aZ Φ a ρ) (aZ Φ b ρ):=rfl
nonrec def aes(a:CE):aZ Φ (.neg a) ρ=M_ JL (aZ Φ a ρ):=rfl
nonrec def aep(a:CE):aZ Φ (.not a) ρ=Uh (aZ Φ a ρ):=rfl
nonrec def aet(a:CE)(t:Ty):aZ Φ (.qV a t) ρ=isO t (aZ Φ a ρ):=rfl
nonrec def m7(f:Nat)(es:aA):aZ Φ (.call f es) ρ=AY (Φ f) (bY Φ es ρ):=rfl
nonrec def Ct(f:Bf)(es:aA):aZ Φ (.bf f es) ρ=M_ (rg f) (bY Φ es ρ):=rfl
nonrec def MW(f:Nat)(es:aA):aZ Φ (.cM f es) ρ=M_ (Φ f) (bY Φ es ρ):=rfl
nonrec def Wj(a b:CE):aZ Φ (.ix a b) ρ=ixO (aZ Φ a ρ) (aZ Φ b ρ):=rfl
nonrec def abX(a:CE):aZ Φ (.mW a) ρ=M_ z7 (aZ Φ a ρ):=rfl
nonrec def MV(es:aA):aZ Φ (.tup es) ρ=M_ (λa=>ok (.tup a)) (bY Φ es ρ):=rfl
nonrec def Wi(es:aA):aZ Φ (.lst es) ρ=M_ (λa=>ok (.ow\a)) (bY Φ es ρ):=rfl
nonrec def aev(es:aA):aZ Φ (.and es) ρ=sk Φ es ρ:=rfl
nonrec def ahz(es:aA):aZ Φ (.or es) ρ=Cp Φ es ρ:=rfl
nonrec def abZ(e:CE):sk Φ [e] ρ=Fw (aZ Φ e ρ):=rfl
nonrec def abY(e a:CE)(es:aA):sk Φ (e::a::es) ρ=Lq (aZ Φ e ρ) (sk Φ (a::es) ρ):=rfl
nonrec def aeo(e:CE):Cp Φ [e] ρ=Fw (aZ Φ e ρ):=rfl
nonrec def aen(e a:CE)(es:aA):Cp Φ (e::a::es) ρ=XA (aZ Φ e ρ) (Cp Φ (a::es) ρ):=rfl
nonrec def aer:bY Φ [] ρ=ok []:=rfl
nonrec def bL(e:CE)(es:aA):bY Φ (e::es) ρ=qo (aZ Φ e ρ) (bY Φ es ρ):=rfl
nonrec def e_T(e:CE):wJ Φ e ρ=xQ (aZ Φ e ρ):=rfl
def ab3(e:CE):bd (aZ Φ e ρ) jq=xQ (aZ Φ e ρ):=rfl
nonrec def ab1:ji Φ [] ρ=ok true:=rfl
nonrec def ab0(e:CE):ji Φ [e] ρ=xQ (aZ Φ e ρ):=by
 rw[ji,ab3];cases h:xQ (aZ Φ e ρ)with
 |none=>rfl
 |some r=>cases r with
  |error c=>rfl
  |ok b=>cases b<;>simp[ji,bd,ok]
end
def qa(is:aR):Nat->aS->aS
 |_,[]=>[]
 |n,d::ρ=>(if n∈is then d.map (aI aK)else d)::qa is (n+1) ρ
theorem MP(is:aR):∀(ρ:aS) (n:Nat),ρ.mapIdx (λi d=>if i+n∈is then d.map (aI aK)else d)=qa is n ρ
 |[],_=>rfl
 |d::ρ,n=>by
  rw[List.mapIdx_cons,qa,<- MP is ρ (n+1)];simp only[zaD,zaG,zbq 1 n]
def p_(is:aR)(ρ:aS):iF is ρ=qa is 0 ρ:=by rw[<- MP];rfl
nonrec def V4(is:aR)(n:Nat):qa is n []=[]:=rfl
nonrec def Sj(is:aR)(n:Nat)(d:aM)(ρ:aS):qa is n (d::ρ)=(if n∈is then d.map (aI aK)else d)::qa is (n+1) ρ:=rfl
def cS(e:CE)(ρ:aS)(x:O D):O (D×aS):=bd x λd=>ok (keep e d ρ)
variable {ρ:aS}
nonrec def fi{e:CE}{d:D}(h:aW bW d=false):cS e ρ (ok d)=ok (d,ρ):=by
 show ok (keep e d ρ)=_;rw[keep,h];rfl
nonrec def pQ{e:CE}{d:D}(h:aW bW d=true):cS e ρ (ok d)=ok (aI aK d,qa (gJ e) 0 ρ):=by
 show ok (keep e d ρ)=_;rw[keep,h,<- p_];rfl
nonrec def RW(e:CE)(ρ:aS)(c:Nat):cS e ρ ↥(.error c)=↥(.error c):=rfl
def E7(i:Nat)(ρ:aS)(o:Option (aM)):O (D×aS):=match o with
 |some ↥d=>if aW cy d then ok (d,ρ.set i none)else ok (d,ρ)
 |_=>none
nonrec def Uq{i:Nat}{d:D}(h:aW cy d=true):E7 i ρ ↥↥d=ok (d,ρ.set i none):=abi h
nonrec def Ur{i:Nat}{d:D}(h:aW cy d=false):E7 i ρ ↥↥d=ok (d,ρ):=aec ([h]\aaj)
nonrec def k_v(Φ:aV)(i:Nat)(ρ:aS):kf Φ (.v i) ρ=E7 i ρ ρ[i]?:=rfl
meta def US:CE->Bool
 |.v _=>true
 |_=>false
nonrec def ado(Φ:aV)(ρ:aS)(op:Bb)(a b:CE):kf Φ (.bin op a b) ρ=cS (.bin op a b) ρ (aZ Φ (.bin op a b) ρ):=rfl
nonrec def adn(Φ:aV)(ρ:aS)(op:C_)(a b:CE):kf Φ (.cmp op a b) ρ=cS (.cmp op a b) ρ (aZ Φ (.cmp op a b) ρ):=rfl
nonrec def O0(Φ:aV)(ρ:aS)(f:Nat)(es:aA):kf Φ (.call f es) ρ=cS (.call f es) ρ (aZ Φ (.call f es) ρ):=rfl
nonrec def agd(Φ:aV)(ρ:aS)(f:Bf)(es:aA):kf Φ (.bf f es) ρ=cS (.bf f es) ρ (aZ Φ (.bf f es) ρ):=rfl
nonrec def adh(Φ:aV)(ρ:aS)(f:Nat)(es:aA):kf Φ (.cM f es) ρ=cS (.cM f es) ρ (aZ Φ (.cM f es) ρ):=rfl
nonrec def agb(Φ:aV)(ρ:aS)(a b:CE):kf Φ (.ix a b) ρ=cS (.ix a b) ρ (aZ Φ (.ix a b) ρ):=rfl
nonrec def adf(Φ:aV)(ρ:aS)(es:aA):kf Φ (.tup es) ρ=cS (.tup es) ρ (aZ Φ (.tup es) ρ):=rfl
nonrec def adl(Φ:aV)(ρ:aS)(es:aA):kf Φ (.lst es) ρ=cS (.lst es) ρ (aZ Φ (.lst es) ρ):=rfl
nonrec def Mz(Φ:aV)(ρ:aS)(i:Int):kf Φ ↑i ρ=cS ↑i ρ (aZ Φ ↑i ρ):=rfl
nonrec def agc(Φ:aV)(ρ:aS)(i:Bool):kf Φ (.bl i) ρ=cS (.bl i) ρ (aZ Φ (.bl i) ρ):=rfl
nonrec def adj(Φ:aV)(ρ:aS): kf Φ (.b0) ρ=cS (.b0) ρ (aZ Φ (.b0) ρ):=rfl
nonrec def adk(Φ:aV)(ρ:aS)(a:CE):kf Φ (.neg a) ρ=cS (.neg a) ρ (aZ Φ (.neg a) ρ):=rfl
nonrec def adi(Φ:aV)(ρ:aS)(a:CE):kf Φ (.not a) ρ=cS (.not a) ρ (aZ Φ (.not a) ρ):=rfl
nonrec def adp(Φ:aV)(ρ:aS)(es:aA):kf Φ (.and es) ρ=cS (.and es) ρ (aZ Φ (.and es) ρ):=rfl
nonrec def aga(Φ:aV)(ρ:aS)(es:aA):kf Φ (.or es) ρ=cS (.or es) ρ (aZ Φ (.or es) ρ):=rfl
nonrec def Z6(Φ:aV)(ρ:aS)(n:Nat)(t:Tg)(caps:aR)(b:IK)(es c:aA)(a:CE):kf Φ (.comp n t caps b es c a) ρ=cS (.comp n t caps b es c a) ρ (aZ Φ (.comp n t caps b es c a) ρ):=rfl
nonrec def adg(Φ:aV)(ρ:aS)(s:Str):kf Φ (.str s) ρ=cS (.str s) ρ (aZ Φ (.str s) ρ):=rfl
nonrec def adm(Φ:aV)(ρ:aS)(a:CE)(t:Ty):kf Φ (.qV a t) ρ=cS (.qV a t) ρ (aZ Φ (.qV a t) ρ):=rfl
nonrec def Z5(Φ:aV)(ρ:aS)(a:CE):kf Φ (.mW a) ρ=cS (.mW a) ρ (aZ Φ (.mW a) ρ):=rfl
def JW(Φ:aV)(e:CE)(ρ:aS)(h:US e=false):kf Φ e ρ=cS e ρ (aZ Φ e ρ):=by cases e<;>first|rfl|cases h
nonrec def RM(ρ:aS):dH [] [] ρ=ok ρ:=rfl
variable {ds:aa}{is:aR}
nonrec def NW{i:Nat}{d:D}(h:i<ρ.length):dH (i::is) (d::ds) ρ=dH is ds (ρ.set i ↥d):=abi h
nonrec def IZ{i:Nat}{d:D}(h:i<ρ.length):cw (.nm i) d ρ=ok (ρ.set i ↥d):=abi h
nonrec def Xp(h:aQ cy ds=false):cw (.tp is) (.tup ds) ρ=dH is ds ρ:=aec ([h]\aaj)
def Ru(i:Nat)(r:O (D×aS)):O (Fo×aS):=bd r λr=>bd (cw (.nm i) r.1 r.2) λa=>ok (.nx,a)
nonrec def oR{i:Nat}{d:D}(h:i<ρ.length):Ru i (ok (d,ρ))=ok (.nx,ρ.set i ↥d):=by
 show bd (cw (.nm i) d ρ) _=_;rw[cw,zac h];rfl
nonrec def WO(i:Nat)(c:Nat):Ru i ↥(.error c)=↥(.error c):=rfl
def WN(is:aR)(r:O (D×aS)):O (Fo×aS):=bd r λr=>bd (cw (.tp is) r.1 r.2) λa=>ok (.nx,a)
nonrec def Yv(h:aQ cy ds=false):WN is (ok (.tup ds,ρ))=bd (dH is ds ρ) λa=>ok (.nx,a):=by
 show bd (cw (.tp is) (.tup ds) ρ) _=_;rw[cw,h];rfl
meta def retS(r:O (D×aS)):O (Fo×aS):=bd r λr=>ok (.rt r.1,r.2)
nonrec def Xq(d:D)(ρ:aS):retS (ok (d,ρ))=ok (.rt d,ρ):=rfl
nonrec def TJ(c:Nat):retS ↥(.error c)=↥(.error c):=rfl
meta def exO(ρ:aS)(x:O D):O (Fo×aS):=bd x λ_=>ok (.nx,ρ)
nonrec def abK(ρ:aS)(d:D):exO ρ (ok d)=ok (.nx,ρ):=rfl
nonrec def Yh(ρ:aS)(c:Nat):exO ρ ↥(.error c)=↥(.error c):=rfl
meta def rG(Φ:aV)(a:ai)(r:O (Fo×aS)):O (Fo×aS):=bd r λr=>match r with
 | (.nx,ρ')=>bE Φ a ρ'
 |r=>ok r
nonrec def dq(Φ:aV)(a:ai)(ρ:aS):rG Φ a (ok (.nx,ρ))=bE Φ a ρ:=rfl
nonrec def SY(Φ:aV)(a:ai)(d:D)(ρ:aS):rG Φ a (ok (.rt d,ρ))=ok (.rt d,ρ):=rfl
nonrec def RK(Φ:aV)(a:ai)(c:Nat):rG Φ a ↥(.error c)=↥(.error c):=rfl
meta def J5(Φ:aV)(a b:ai)(ρ:aS)(x:O Bool):O (Fo×aS):=bd x λk=>if k then bE Φ a ρ else bE Φ b ρ
nonrec def aab(Φ:aV)(a b:ai)(ρ:aS):J5 Φ a b ρ (ok true)=bE Φ a ρ:=rfl
nonrec def aac(Φ:aV)(a b:ai)(ρ:aS):J5 Φ a b ρ (ok false)=bE Φ b ρ:=rfl
nonrec def UP(Φ:aV)(a b:ai)(ρ:aS)(c:Nat):J5 Φ a b ρ ↥(.error c)=↥(.error c):=rfl
def WR(i:Nat)(r:O (D×aS)):O (Fo×aS):=bd r λr=>match EE r.2[i]? with
  |some ds=>if ds.length<cU then ok (.nx,r.2.set i ↥(.ow\(ds++[r.1])))else none
  |none=>none
nonrec def Ln{i:Nat}{d:D}(h:ρ[i]?=↥↥(.ow\ds))(a:ds.length<cU):WR i (ok (d,ρ))=ok (.nx,ρ.set i ↥(.ow\(ds++[d]))):=by
 show(match EE ρ[i]? with|↥ds=>_|none=>_)=_;exact[h]\abi a
section
variable (Φ:aV)(ρ:aS)
nonrec def acD:bE Φ [] ρ=ok (.nx,ρ):=rfl
nonrec def bD(s:CS)(a:ai):bE Φ (s::a) ρ=rG Φ a (ir Φ s ρ):=rfl
nonrec def ze(i:Nat)(e:CE):ir Φ (.asg (.nm i) e) ρ=Ru i (kf Φ e ρ):=rfl
nonrec def YJ(is:aR)(e:CE):ir Φ (.asg (.tp is) e) ρ=WN is (kf Φ e ρ):=rfl
nonrec def Dg(e:CE):ir Φ (.ret e) ρ=retS (kf Φ e ρ):=rfl
def ro(c:CE)(b:ai):ir Φ (.LI c b) ρ=fU (λρ=>bd (wJ Φ c ρ) λk=>if k then bd (bE Φ b ρ) λr=>match r with
   | (.nx,ρ')=>ok (.inl ρ')
   | (.rt d,ρ')=>ok (.inr (.rt d,ρ'))
  else ok (.inr (.nx,ρ))) ρ:=rfl
def SE(i j:Nat)(a b:CE):ir Φ (.par i j a b) ρ=bd (aZ Φ a ρ) λx=>bd (aZ Φ b ρ) λy=>if aW anyF x=false/\aW anyF y=false/\i<ρ.length/\j<ρ.length then ok (.nx,(ρ.set i ↥x).set j ↥y)else none:=rfl
nonrec def aeW(c:Nat):ir Φ (.rs c) ρ=↥(.error c):=rfl
nonrec def YI(e:CE):ir Φ (.ex e) ρ=exO ρ (aZ Φ e ρ):=rfl
nonrec def xG(c:CE)(a b:ai):ir Φ (.ifs c a b) ρ=J5 Φ a b ρ (xQ (aZ Φ c ρ)):=rfl
nonrec def SH(i:Nat)(e:CE):ir Φ (.app i e) ρ=WR i (kf Φ e ρ):=rfl
end
meta def mk(Φ:aV)(ar n:Nat)(b:ai):aE:=λds=>if ds.length=ar then qQ Φ n b ds else none
meta def iU(r:O (Fo×aS)):O D:=bd r λr=>match r.1 with
 |.nx=>ok .b0
 |.rt d=>ok d
nonrec def Yk(ρ:aS):iU (ok (.nx,ρ))=ok .b0:=rfl
nonrec def Yj(d:D)(ρ:aS):iU (ok (.rt d,ρ))=ok d:=rfl
nonrec def Wh(c:Nat):iU ↥(.error c)=↥(.error c):=rfl
variable {ar:Nat}{Φ:aV}
def mk_eq{n:Nat}{b:ai}(h:ds.length=ar):mk Φ ar n b ds=iU (bE Φ b (ds.map some++cj (n - ds.length) none)):=abi h
protected def yg{n:Nat}{b:ai}(ds:aa)(r:D)(h:mk Φ ar n b ds=ok r):ds.length=ar/\qQ Φ n b ds=ok r:=by
 unfold mk at h;split at h
 ·rename_i a;exact⟨a,h⟩
 ·cases h
def V2(i:Nat):gJ (.v i)=[i]:=adL rfl
end DI
end
section
namespace DI
open PySem PySem.Spec PyProof.Rows L2
def Df(K:av)(x:Str)(st:Stmt):Prop:=∃f a,CQ K x x st f a/\eO K cr x=↥↥(.ref f)
variable {C f:Addr}{K:av}{st Bu:Stmt}
def dmk{x:Str}{h:Value}{g j:Option Addr}{d:Array (Option Value)}{kV i e b ct:Value}(a:eO K cr x=↥↥(.ref f))(l:K.lookup f=↥⟨h,g,.func (hV x x (eK st) (bB st) (aD st) .none kV i e j b ct),d⟩)(c:rA K b x=true)(k:hP K (.ref f)=true):Df K x st:=⟨f,_,Qg l c k,a⟩
meta def V3(N P:ao)(sc:Scope):Bool:=decide (sc.kind=.function)&&(!sc.isCoroutine&&(!sc.isGenerator&&(decide N.Nodup&&(decide (N.take P.length=P)&&(P.all (λx=>decide (sc.names.lookup x=↥.local\/sc.names.lookup x=↥.cell))&&sc.names.all λy=>decide (y.2≠.free))))))
variable {N ps:ao}
def wB{P:ao}{sc:Scope}(h:V3 N P sc=true):e_ N P sc:=by
 ext(⟨k,h⟩:aC h)(⟨j,h⟩:aC h)(⟨i,h⟩:aC h)(⟨g,h⟩:aC h)(⟨e,h⟩:aC h)(⟨d,c⟩:aC h);exact⟨aag k,dZ j,dZ i,aag g,aag e,λx b=>aag (fu.mp d x b),λy a=>aag (fu.mp c y a)⟩
def K7(st:Stmt)(N ps:ao)(tb:List (Nat×Str))(bl:ao)(cs:List (Str×GK))(px:Px)(b:ai):Bool:=V3 N ps (aD st)&&jo ⟨aD st,N,λn=>Ch n tb,bl,cs,px⟩ b (bB st)
def u1{b:Type}{P:List b->Prop}(h:∀a,P [a])(c:List b)(e:c.length=1):P c:=by ext(⟨a,rfl⟩:UD e);exact h a
def u2{c:Type}{P:List c->Prop}(h:∀a b,P [a,b])(d:List c)(e:d.length=2):P d:=by ext(⟨a,b,rfl⟩:JS e);exact h a b
def u3{d:Type}{P:List d->Prop}(h:∀a b c,P [a,b,c])(g:List d)(e:g.length=3):P g:=by ext(⟨a,b,c,rfl⟩:OU e);exact h a b c
variable {P:aG}{base:Heap}{k':Nat}{mg:Str->Option Value}{w:World}
def Ent.u{k:Nat}{y:Str}{m:aE}(h:Ent P w K mg base k y m)(a:k<=k':=by decide):Ent P w K mg base k' y m:=h.up a
def en{h:Heap}(X:K.In h)(G:h.Ns cr mg)⦃x:Str⦄⦃st:Stmt⦄⦃N ps bl:ao⦄⦃tb:List (Nat×Str)⦄⦃cs:List (Str×GK)⦄⦃px:Px⦄⦃b:ai⦄(k:Nat)(Φ:aV)(m:aE)(d:Df K x st)(v:K7 st N ps tb bl cs px b=true)
  (l:og px Φ/\HE px Φ) (o:bM (λy=>mg y=none) bl) (s:bM (λp:Str×GK=>∃u,mg p.1=↥u/\xE K p.2 u) cs)
  (hf:bM (λp:Nat×Str=>Ent P w K mg base k p.2 (Φ p.1)) tb) (t:∀e r,m e=ok r->e.length=ps.length/\qQ Φ N.length b e=ok r) (z:∀(kV j q:Value) (E:Option Addr) (D ct:Value) (c:aw),c.length=ps.length->y2 (hV x x (eK st) (bB st) (aD st) .none kV j q E D ct) ⟨c,[]⟩=pure (ps.zip c):=by first|exact λ_ _ _ _ _ _=>u1 λ_=>rfl|exact λ_ _ _ _ _ _=>u2 λ_ _=>rfl|exact λ_ _ _ _ _ _=>u3 λ_ _ _=>rfl|exact λ_ _ _ _ _ _=>u4 λ_ _ _ _=>rfl|exact λ_ _ _ _ _ _=>u5 λ_ _ _ _ _=>rfl):Ent P w K mg base (k+1) x m:=by
 ext(⟨f,F,n,a⟩:d)(⟨B,A⟩:aC v);exact ent n (acA X G a) (n.binds z) (wB B) A l.1 l.2 (bM.mem o) (bM.two (P:=λy i=>∃u,mg y=↥u/\xE K i u) s) (bM.tab (P:=λg y=>Ent P w K mg base k y (Φ g)) hf) t
noncomputable abbrev xm(PT F:aV)(i:Nat)(m:aE):aV:=λn=>@Bool.rec (λ_=>aE) (@Bool.rec (λ_=>aE) (F n) m (Nat.beq n i)) (PT n) (Nat.ble 1000 n)
def ifK{d:Type}{Q:Nat->Prop}(p:Nat){k:Nat}{a b c:d}(h:(if p=k then a else b)=c)(i:a=c->Q k)(g:b=c->Q p):Q p:=by
 by_cases e:p=k
 ·subst e;rw[zac rfl]at h;exact i h
 ·rw[zab e]at h;exact g h
variable {F:Addr->Prop}{Z:Cx}{cs:aA}{Φ:aV}
def FN{d:Type}{e:Expr}{p k:Nat}{a b c:d}(h:(if p=k then a else b)=c)(i:a=c->PE Z e (tD Z F Φ (.cM k cs))/\L2.PT Z e (jW Z F Φ (.cM k cs)))(g:b=c->PE Z e (tD Z F Φ (.cM p cs))/\L2.PT Z e (jW Z F Φ (.cM p cs))):PE Z e (tD Z F Φ (.cM p cs))/\L2.PT Z e (jW Z F Φ (.cM p cs)):=ifK (Q:=λp=>PE Z e (tD Z F Φ (.cM p cs))/\L2.PT Z e (jW Z F Φ (.cM p cs))) p h i g
def ifM{d:Type}{i p k:Nat}{a b c:d}(h:(if p=k then a else b)=c)(g:a=c->PS Z st (mj Z F Φ (.mut k i cs)))(e:b=c->PS Z st (mj Z F Φ (.mut p i cs))):PS Z st (mj Z F Φ (.mut p i cs)):=ifK (Q:=λp=>PS Z st (mj Z F Φ (.mut p i cs))) p h g e
def aai{d:Type}{c1 c2:CE}{i p k:Nat}{a b c:d}(h:(if p=k then a else b)=c)(g:a=c->PS Z st (mj Z F Φ (.mu2 k i c1 c2)))(e:b=c->PS Z st (mj Z F Φ (.mu2 p i c1 c2))):PS Z st (mj Z F Φ (.mu2 p i c1 c2)):=ifK (Q:=λp=>PS Z st (mj Z F Φ (.mu2 p i c1 c2))) p h g e
def Ui{A:Prop}(h:∃_:aa,False):A:=h.elim λ_ z=>z.elim
def dS:True:=trivial
theorem bM.nn{K:av}{h:Heap}{mg:aT}(X:K.In h)(G:h.Ns cr mg):∀{l:ao},bM (λy=>eO K cr y=↥none) l->bM (λy=>mg y=none) l
 |[],_=>trivial
 |_::_,z=>⟨PySem.W.mg_none_of X G z.1,bM.nn X G z.2⟩
def en7{P:aG}{w:World}{K:av}{h base:Heap}{mg:aT}{bl:ao}{cs:List (Str×GK)}{px:Px}{PT:aV}(X:K.In h)(G:h.Ns cr mg)(A:∀F i m,og px (xm PT F i m)/\HE px (xm PT F i m))(t:bM (λy=>mg y=none) bl)(v:bM (λp:Str×GK=>∃u,mg p.1=↥u/\xE K p.2 u) cs)
  ⦃x:Str⦄ ⦃st:Stmt⦄ (k:Nat) (Φ:aV) (d:Df K x st) (N:ao) (a:Nat) (tb:List (Nat×Str)) (b:ai)
  (hf:bM (λp:Nat×Str=>Ent P w K mg base k p.2 (Φ p.1)) tb) (B:K7 st N (N.take a) tb bl cs px b=true:=by decide +kernel) (e:∃F i m,Φ=xm PT F i m:=by exact⟨_,_,_,rfl⟩) (o:(N.take a).length=a:=by rfl) (D:∀(kV c j:Value) (n:Option Addr) (l ct:Value) (g:aw),g.length=a->y2 (hV x x (eK st) (bB st) (aD st) .none kV c j n l ct) ⟨g,[]⟩=pure ((N.take a).zip g):=by first|exact λ_ _ _ _ _ _=>u1 λ_=>rfl|exact λ_ _ _ _ _ _=>u2 λ_ _=>rfl|exact λ_ _ _ _ _ _=>u3 λ_ _ _=>rfl|exact λ_ _ _ _ _ _=>u4 λ_ _ _ _=>rfl|exact λ_ _ _ _ _ _=>u5 λ_ _ _ _ _=>rfl):Ent P w K mg base (k+1) x (mk Φ a N.length b):=by
 ext(⟨F,i,m,e⟩:e);exact en X G k Φ _ d B (e▸A F i m) t v hf (λs r q=>⟨(yg s r q).1.trans o.symm,(yg s r q).2⟩) (λkV c j n l ct g z=>D kV c j n l ct g (z.trans o))
def enL{x:Str}{bl:ao}{tb:List (Nat×Str)}{cs:List (Str×GK)}{px:Px}{b:ai}{d:hD}(k:Nat)(Φ:aV)(m:aE)(s:CQ K x x st f d)(n:K7 st N ps tb bl cs px b=true)
  (c:og px Φ/\HE px Φ) (e:bM (λy=>mg y=none) bl) (j:bM (λp:Str×GK=>∃u,mg p.1=↥u/\xE K p.2 u) cs)
  (hf:bM (λp:Nat×Str=>Ent P w K mg base k p.2 (Φ p.1)) tb) (l:∀a r,m a=ok r->a.length=ps.length/\qQ Φ N.length b a=ok r):fP P w K mg base u_ (k+1) f d ps (HK K ps.length m):=by
 ext(⟨q,o⟩:aC n);exact wF s (wB q) o c.1 c.2 (bM.mem e) (bM.two (P:=λy i=>∃u,mg y=↥u/\xE K i u) j) (λg y h=>(bM.tab (P:=λg y=>Ent P w K mg base k y (Φ g)) hf g y h).ex) l
def jR.up{k:Nat}{y:Str}{a:aa->Prop}(h:jR P w K mg base k C y a)(b:k<=k'):jR P w K mg base k' C y a:=by
 ext(⟨f,e,ps,d,c⟩:h.ex);exact⟨f,e,ps,d.mono b,c⟩
def jR.u{k:Nat}{y:Str}{a:aa->Prop}(h:jR P w K mg base k C y a)(b:k<=k':=by decide):jR P w K mg base k' C y a:=h.up b
section
variable {P:aG}{w:World}{K:av}{h base:Heap}{mg:aT}(X:K.In h)(G:h.Ns cr mg){C:Addr}⦃x:Str⦄⦃st:Stmt⦄⦃N ps bl:ao⦄⦃tb:List (Nat×Str)⦄⦃cs:List (Str×GK)⦄⦃px:Px⦄
include X G
theorem QR{y:Str}(O:oh y C mg base)⦃b:ai⦄(n k:Nat)(Φ:aV)(Ψ:Nat->aa->Prop)(o:aa->Prop)(d:Df K x st)(A:K7 st N ps tb bl cs px b=true)(L:uV (gq (aD st) y&&!(y==⇑9)) n y b (bB st)=true)
  (r:og px Φ/\HE px Φ) (t:bM (λy=>mg y=none) bl) (z:bM (λp:Str×GK=>∃u,mg p.1=↥u/\xE K p.2 u) cs)
  (hf:bM (λp:Nat×Str=>Ent P w K mg base k p.2 (Φ p.1)) tb) (j:bM (λp:Nat×Str=>(∃c,Ψ p.1 c)->jR P w K mg base k C p.2 (Ψ p.1)) tb)
  (s:∀c,o c->c.length=ps.length/\Er Φ Ψ n b (c.map some++cj (N.length - c.length) none)) (B:∀(kV l v:Value) (J:Option Addr) (I ct:Value) (e:aw),e.length=ps.length->y2 (hV x x (eK st) (bB st) (aD st) .none kV l v J I ct) ⟨e,[]⟩=pure (ps.zip e):=by first|exact λ_ _ _ _ _ _=>u1 λ_=>rfl|exact λ_ _ _ _ _ _=>u2 λ_ _=>rfl|exact λ_ _ _ _ _ _=>u3 λ_ _ _=>rfl|exact λ_ _ _ _ _ _=>u4 λ_ _ _ _=>rfl|exact λ_ _ _ _ _ _=>u5 λ_ _ _ _ _=>rfl):jR P w K mg base (k+1) C x o:=by
 ext(⟨f,H,m,a⟩:d)(⟨E,D⟩:aC A);exact⟨f,H,ps,QM m (wB E) D L r.1 r.2 (bM.mem t) (bM.two (P:=λy i=>∃u,mg y=↥u/\xE K i u) z) (bM.tab (P:=λg y=>Ent P w K mg base k y (Φ g)) hf) (bM.tab (P:=λg y=>(∃c,Ψ g c)->jR P w K mg base k C y (Ψ g)) j) O s,acA X G a,m.kp,m.binds B,λc q=>(s c q).1⟩
end
meta def Tw(y z q w0 w1:Str)(Bu:Stmt)(hs:List eF)(d c b a:Nat)(a1 a2 a3 p o n pos c1 c2 m l k j i h g r s d1 e:Pos):aP :=
 [.Assign [.Name y a1] (.Constant (.str w0) d a2) a3,.Assign [.Name z p] (.Constant .none c o) n,.Try [Bu] hs [] [] pos,.If (.BoolOp .And [.Compare (.Name z c1) [.IsNot] [.Constant .none b c2] m,.UnaryOp .Not (.Call (.Name q l) [.Name z k] [] j) i] h) [.Return ↥(.Constant (.str w1) a g) r] [] s,.Return ↥(.Name y d1) e]
def XF(sc:Scope)(N:ao)(n y z a:Str)(i j l:Nat):Bool:=(gq sc a&&!(a==⇑9))&&(decide (N[i]?=↥n)&&(decide (N[j]?=↥y)&&(decide (N[l]?=↥z)&&(decide (y≠n/\z≠n/\y≠z)&&(decide (sc.names.lookup n=↥.local)&&(decide (sc.names.lookup y=↥.local)&&(decide (sc.names.lookup z=↥.local)&&(yI n&&(yI y&&yI z)))))))))
def Q9{x:Str}(h:yI x=true):(x==⇑9)=false/\(x==("__classdict__" : Str))=false:=by
 unfold yI at h;simpa only[XG,U3]using h
section
variable {X:Cx}{S:Sx}{k i j l:Nat}{Φ:aV}{C aal:Addr}{n y z al w:Str}{E1:XK}{V7:hD}{T4:ao}
def vf{tb:TS}{nrm:Prop}{good:St->Hp->Prop}{h0:eF}{hs:List eF}{w0 w1:Str}(L:Lk X S k Φ)(hk:X.stack=X.env::X.outer)(hf:X.env.frame=↥X.env.locals)(hn:XF S.sc S.N n y z al i j l=true)(Hs:zc X C n y z w (h0::hs))
  (Fal:fP X.prog X.w X.K X.mg X.base u_ k aal V7 T4 (sY C)) (abc:Binds X.K V7 T4 []) (aaX:hP X.K (.ref aal)=true) (A:X.mg al=↥(.ref aal))
  (hb:∀pn Ik,Passes (uU X.prog X.w C) (Cx.nQ X pn Ik) E1->gO (Cx.nQ X pn Ik) [Bu] tb)
  (M:∀D m H,good m H->(∀b a,b[j]?=↥↥(.str w0)->b[l]?=↥↥.b0->aL X.H₀ a->nrm->D.nx b a)->tb D m H) :
  ∀{J I G B:Nat} {a1 a2 a3 b1 b2 b3 pos c1 c2 c3 c4 Y V U v R Hh Hg d1 Q:Pos},gO X (Tw y z al w0 w1 Bu (h0::hs) J I G B a1 a2 a3 b1 b2 b3 pos c1 c2 c3 c4 Y V U v R Hh Hg d1 Q)
   (λD m H=>good ((m.set j ↥(.str w0)).set l ↥.b0) H/\(nrm->∀a,aL X.H₀ a->D.rt (.str w0) a)/\∀a,E1 (.ref C) none a->∀r,aL a r->D.rt (.str w) r):=by
 intro J I G B a1 a2 a3 b1 b2 b3 pos c1 c2 c3 c4 Y V U v R Hh Hg d1 Q;unfold Tw;ext(⟨O,hn⟩:aC hn)(⟨O,da⟩:aC O)(⟨s,hn⟩:aC hn)(⟨g,hn⟩:aC hn)(⟨e,hn⟩:aC hn)(⟨o,hn⟩:aC hn)(⟨q,hn⟩:aC hn)(⟨d,hn⟩:aC hn)(⟨c,hn⟩:aC hn)(⟨u,hn⟩:aC hn)(⟨t,h⟩:aC hn)(s:aag s)(g:aag g)(e:aag e)(o:aag o)(q:aag q)(d:aag d)(c:aag c);rw[<- L.N]at s g e;rw[<- L.sc]at q d c;ext(u:Q9 u)(t:Q9 t)(h:Q9 h)(S1:kO (X:=X) (pos:=a3) (pos':=a1) (i:=j) L.nd g (.inl d) (pz (x:=w0) (j:=J) (pos:=a2)) (hf:=.inr d))(S2:kO (X:=X) (pos:=b3) (pos':=b1) (i:=l) L.nd e (.inl c) (Ez (j:=I) (pos:=b2)) (hf:=.inr c))(S3:Jn (X:=X) (C:=C) (tb:=tb) (pos:=pos) (i:=i) (j:=j) (l:=l) (E1:=E1) hk hf Hs L.nd s g e o.1 o.2.1 o.2.2 q d c u.1 u.2 hb)(T:Ee (pos:=v) (rest:=[]) (Oe (pos:=c3) (Jz (j:=G) (pos':=c2) (iN (pos:=c1) e (.inl c) h.1 h.2))) (zP (pos:=v) (tH (pos:=U) (tG (tP (X:=X) (p:=c4) (pos:=V) (E:=E0) Fal L.room (L.gl O) A aaX abc .nil (Mr (X:=X)) (cc (iN (pos:=Y) e (.inl c) h.1 h.2) dt) (dZ da))))))(S4:vQ (X:=X) (pos:=Hg) T.pt (gz (mQ (X:=X) (pos:=Hh) (pz (x:=w1) (j:=B) (pos:=R)))) tI)(S5:mQ (X:=X) (pos:=Q) (iN (X:=X) (i:=j) (pos:=d1) g (.inl d) t.1 t.2));refine gO.imp (cG S1 (cG S2 (cG S3 (cG S4 (gz S5))))) λD m H hq=>?_;ext(⟨hg,q1,q2⟩:hq);refine⟨M _ _ _ hg λb a e1 e2 sm nr=>?_,λea a b he xy e1 e2=>?_⟩
 ·refine⟨.b0,e2,false,rfl,?_⟩;exact J6 ⟨_,e1,q1 nr a sm⟩
 ·refine⟨.ref ea,e2,true,rfl,?_⟩;show(if true=true then _ else _);rw[zac rfl];refine⟨_,e2,ea,rfl,aU,λr sm=>⟨true,rfl,?_⟩⟩;exact J6 ⟨_,e1,q2 a he r ((aL.upd xy).trans sm)⟩
end
structure xu(P:aG)(w:World)(K:av)(mg:aT)(base:Heap)(k:Nat)(C:Addr)(y:Str):Prop where
 ex:∃(f:Addr) (fd:hD) (ps:ao),fP P w K mg base u_ k f fd ps (sY C)/\mg y=↥(.ref f)/\hP K (.ref f)=true/\Binds K fd ps []
def xu.u{k:Nat}{y:Str}(h:xu P w K mg base k C y)(a:k<=k':=by decide):xu P w K mg base k' C y:=by
 ext(⟨f,d,ps,c,b⟩:h.ex);exact⟨f,d,ps,c.mono a,b⟩
meta def M1(l:List (Str×Bool)):Str->Option Bool:=λx=>if x = "ValueError" then ↥true else l.lookup x
theorem bM.look{P:Str->Bool->Prop}:∀{l:List (Str×Bool)},bM (λp=>P p.1 p.2) l->∀x b,l.lookup x=↥b->P x b/\(x,b)∈l
 |[],_,x,b,h=>nomatch h
 | (y,c)::l,a,x,b,h=>by
  rw[zam]at h;by_cases e:x=y
  ·subst e;rw[zbd]at h;cases h;exact⟨a.1,aam⟩
  ·rw[beq_eq_false_iff_ne.mpr e]at h;ext(⟨g,d⟩:bM.look a.2 x b h);exact⟨g,aap _ d⟩
def gB(sc:Scope)(x:Str):Bool:=gq sc x&&!(x==⇑9)
def Yx(sc:Scope)(err told:Str)(l:List (Str×Bool)):Bool:=V3 [err,told] [err] sc&&(decide (sc.names.lookup err=↥.local)&&(decide (sc.names.lookup told=↥.local)&&(yI err&&(yI told&&(gq sc "isinstance" && (gB sc "ValueError" && l.all λp=>gB sc p.1))))))
inductive Xb(st:Stmt)(err told:Str)(l:List (Str×Bool))(b1 b2 b3 b4 b5:List Bool):Prop
 |mk {a b r:Expr} {l1 l2 l3 l4 l5:aj} {pa pb po:Pos} {j:Nat} {pj pr Jt p1 Js Jp p2 Ma Mj Mq Me p3 L_ Mi HN Md p4 L9 Mh Mp Mc p5 L8 Mf Mo Mb Jo:Pos} (hs:bB st=oq told a b r l1 l2 l3 l4 l5 pa pb po j pj pr Jt p1 Js Jp p2 Ma Mj Mq Me p3 L_ Mi HN Md p4 L9 Mh Mp Mc p5 L8 Mf Mo Mb Jo)
  (h0:(decide (wk err (M1 l) a=↥true)&&(decide (wk err (M1 l) b=↥true)&&(decide (eI err (M1 l) l1=↥b1)&&(decide (eI err (M1 l) l2=↥b2)&&(decide (eI err (M1 l) l3=↥b3)&&(decide (eI err (M1 l) l4=↥b4)&&(decide (eI err (M1 l) l5=↥b5)&&cg ⟨aD st,[err,told],λ_=>none,["len"],[],Xv⟩ yU r)))))))=true):Xb st err told l b1 b2 b3 b4 b5
section
variable {P:aG}{w:World}{K:av}{h base:Heap}{mg:aT}(X:K.In h)(G:h.Ns cr mg){C:Addr}⦃x:Str⦄⦃st:Stmt⦄
include X G
theorem QS⦃err told:Str⦄⦃l:List (Str×Bool)⦄⦃z v u t s:List Bool⦄(E:XC K C)(k:Nat)(d:Df K x st)(hl:bM (λp:Str×Bool=>∃g,eO K cr p.1=↥↥(.ref g)/\bi K (.ref C) (.ref g)=↥p.2) l)(H:bi K (.ref C) (.type "ValueError")=↥true)(M:mg "isinstance" = none)(J:mg "ValueError" = none)(L:mg "len" = none)
  (c:Yx (aD st) err told l=true) (Kg:Xb st err told l z v u t s) (hlen:z.length+v.length+u.length+t.length+s.length<=100) (B:aZ (λ_ _=>none) yU [none,↥(.fz\((z++v++u++t++s).map DI.D.bl))]=ok (.bl true)) (hb:∀(kV n I:Value) (an:Option Addr) (fM ct:Value) (m:aw),m.length=[err].length->y2 (hV x x (eK st) (bB st) (aD st) .none kV n I an fM ct) ⟨m,[]⟩=pure ([err].zip m):=by exact λ_ _ _ _ _ _=>u1 λ_=>rfl):xu P w K mg base (k+1) C x:=by
 ext(⟨f,fd,A,a⟩:d);cases Kg with
 |mk hs i =>
 ext(⟨Y,i⟩:aC i)(⟨V,i⟩:aC i)(⟨U,i⟩:aC i)(⟨T,i⟩:aC i)(⟨S,i⟩:aC i)(⟨R,i⟩:aC i)(⟨Q,O⟩:aC i)(⟨c1,c⟩:aC c)(⟨c2,c⟩:aC c)(⟨c3,c⟩:aC c)(⟨r,c⟩:aC c)(⟨q,c⟩:aC c)(⟨c6,c⟩:aC c)(⟨o,c8⟩:aC c)(⟨r,WI⟩:aC r)(⟨q,Hf⟩:aC q)(⟨o,Rm⟩:aC o);refine⟨f,fd,[err],Hr (k:=k) A (wB c1) hs (aag Y) (aag V) (aag U) (aag T) (aag S) (aag R) (aag Q) O (aag c2) (aag c3) (dZ r) (dZ WI) (dZ q) (dZ Hf) (bM.mem (l:=[("len" : Str)]) ⟨L,trivial⟩) E c6 M (λy b j=>?_) ([kD]\aav hlen ⇑4) B,acA X G a,A.kp,A.binds hb⟩;unfold M1 at j;by_cases e:y = "ValueError"
 ·subst e;rw[zac rfl]at j;cases j;exact⟨⟨o,dZ Rm⟩,.inr ⟨"ValueError",J,by decide +kernel,by decide +kernel,H⟩⟩
 ·rw[zab e]at j;ext(⟨⟨g,h1,h2⟩,h3⟩:bM.look (P:=λy b=>∃g,eO K cr y=↥↥(.ref g)/\bi K (.ref C) (.ref g)=↥b) hl y b j)(⟨h4,h5⟩:aC (fu.mp c8 _ h3));exact⟨⟨h4,dZ h5⟩,.inl ⟨g,acA X G h1,h2⟩⟩
end
inductive C9(mg:aT)(base:Heap)(sc:Scope)(C:Addr)(n y z w:Str):List eF->Prop
 |here {h:eF} {hs:List eF} {x:Str} (v:LK n y z h=↥(x,w)) (O:oh x C mg base) (g:gB sc x=true):C9 mg base sc C n y z w (h::hs)
 |next {h:eF} {hs:List eF} {x w':Str} {B:Addr} (v:LK n y z h=↥(x,w')) (O:oh x B mg base) (OS:nu C B false base) (g:gB sc x=true) (r:C9 mg base sc C n y z w hs):C9 mg base sc C n y z w (h::hs)
theorem C9.ok{X:Cx}{S:Sx}{k:Nat}{Φ:aV}{C:Addr}{n y z w:Str}(L:Lk X S k Φ):∀{hs:List eF},C9 X.mg X.base S.sc C n y z w hs->zc X C n y z w hs
 |_,.here v O g=>.here v O (L.gl (aC g).1) (dZ (aC g).2)
 |_,.next v O a g r=>.next v O a (L.gl (aC g).1) (dZ (aC g).2) (r.ok L)
meta def x8(N:ao)(j l:Nat)(w0:Str)(ds:aa):aS:=((ds.map some++cj (N.length - ds.length) none).set j ↥(.str w0)).set l ↥.b0
def Bh{x qual:Str}{fd:hD}{k i j l:Nat}{bl:ao}{cs:List (Str×GK)}{px:Px}{O:Nat->Option Str}{m:aE}{c:CS}{n y z W w0 w1 YK:Str}{C0:Addr}{h0:eF}{hs:List eF}
  {j0 j1 j2 j3:Nat} {a1 a2 a3 b1 b2 b3 pos c1 c2 c3 c4 c5 c6 c7 c8 c9 Hh Hg d1 d2:Pos}
  (Fu:CQ K x qual st f fd) (Y:e_ N ps (aD st)) (Kg:bB st=Tw y z W w0 w1 Bu (h0::hs) j0 j1 j2 j3 a1 a2 a3 b1 b2 b3 pos c1 c2 c3 c4 c5 c6 c7 c8 c9 Hh Hg d1 d2) (hn:XF (aD st) N n y z W i j l=true)
  (FT:og px Φ) (Pu:HE px Φ) (uj:∀y∈bl,mg y=none) (pW:∀y i,(y,i)∈cs->∃u,mg y=↥u/\xE K i u) (qH:∀g y,O g=↥y->Ent P w K mg base k y (Φ g)) (ht:ID c=true) (hc:qt ⟨aD st,N,O,bl,cs,px⟩ c Bu=true)
  (H0:C9 mg base (aD st) C0 n y z YK (h0::hs)) (A0:xu P w K mg base k C0 W)
  (hm:∀q r,m q=ok r->q.length=ps.length/\((r=.str w0/\∃G,ir Φ c (x8 N j l w0 q)=ok (.nx,G)/\G[j]?=↥↥(.str w0)/\G[l]?=↥↥.b0) \/
   ∃M C T J,r=.str M/\C9 mg base (aD st) C n y z M (h0::hs)/\xu P w K mg base k C W/\(∀g y,O g=↥y->(∃q,J g q)->jR P w K mg base k C y (J g))/\oW Φ J T c (x8 N j l w0 q))) :
  fP P w K mg base u_ (k+1) f fd ps (HK K ps.length m):=by
 refine Fu.ok (N:=N) Y (λvs H Q E ⟨_,_,_,h,_⟩=>h) λfM A outer s H vs Q E hr uX=>?_;ext(⟨F,q,r,hl,rs,er,V⟩:uX)(⟨Vs,Vx⟩:hm q r er)
 let X:=(js u_ P w K mg base N qual (aD st) f fM A outer s H E).yd
 have L:Lk X ⟨aD st,N,O,bl,cs,px⟩ k Φ:=⟨rfl,rfl,Y.nd,rfl,hr,uj,λg y h=>⟨(qH g y h).ex⟩,pW,FT⟩
 have hpl:ps.length<=N.length:=by have:=aa2 mo Y.pre;rw[zar]at this;left
 ext(I:vA (X:=X) (F:=F) (N:=N) (vs:=vs) (ds:=q) (H:=H) rfl ⋯ rs);have hjl:j<N.length:=(bn.mp (aag (aC (aC (aC hn).2).2).1)).1;have hll:l<N.length:=(bn.mp (aag (aC (aC (aC (aC hn).2).2).2).1)).1;ext(⟨τ1,uR⟩:I.set (i:=j) (v:=.str w0) (d:=.str w0) ⟨λ_=>none,λ_ _ h=>by simp at h,.str w0⟩ (by simp;left))(⟨τ2,sO⟩:uR.set (i:=l) (v:=.b0) (d:=.b0) ⟨λ_=>none,λ_ _ h=>by simp at h,.b0⟩ (by simp;left));rw[Kg];ext((⟨rfl,G,e1,e2,e3⟩|⟨M,C,T,J,rfl,Hs,EA,fe,e1⟩):Vx)
 ·ext(⟨fa,fda,psa,Fa,ma,ka,ba⟩:A0.ex);refine⟨_,vf (X:=X) (nrm:=True) (E1:=λ_ _ _=>False) (good:=λB H=>∃R p b a,SI X F R p b B H/\ir Φ c b=ok (.nx,a)/\a[j]?=↥↥(.str w0)/\a[l]?=↥↥.b0)
   (tb:=λD B H=>∃R p b a,SI X F R p b B H/\ir Φ c b=ok (.nx,a)/\∀e o R' t,SI X F R' t a e o->D.nx e o) L rfl rfl hn (H0.ok L) Fa ba ka ma (λpn Ik _=>?_) (λD B o hg hd=>?_),⟨_,_,_,_,sO,e1,e2,e3⟩,λ_ o sm=>?_,λ_ z=>z.elim⟩
  ·have Lt:ny (Cx.nQ X pn Ik).yd ⟨aD st,N,O,bl,cs,px⟩ k Φ:=⟨⟨L.sc,L.N,L.nd,L.calm,L.room,L.bl,λf x h=>⟨(L.fn f x h).ex⟩,L.cs,L.pr⟩,λ_=>rfl,O3,Y.kind,Pu⟩
   refine gO.imp (gz (PS.yd (xW (F:=F) Lt c Bu hc))) λD B H ⟨R,p,b,a,I,ev,V⟩=>⟨R,p,b,_,I.nQ.yd,ev,λe o R' t U _=>V e o R' t (by have S:=U.SS;exact⟨S.len,S.rep,S.rt,S.rh,S.rf,S.th,S.t0,S.same⟩)⟩
  ·ext(⟨R,p,b,a,I,ev,f2,f3⟩:hg);refine⟨R,p,b,a,I,ev,λe o R' t U=>?_⟩;ext(⟨v1,g1,r1⟩:U.rep j _ f2)(⟨v2,g2,r2⟩:U.rep l _ f3);cases r1;cases r2;exact hd e o g1 g2 U.same trivial
  ·exact V (.str w0) o sm ⟨λ_=>none,λ_ _ h=>by simp at h,.str w0⟩
 ·ext(⟨fa,fda,psa,Fa,ma,ka,ba⟩:EA.ex);refine⟨_,vf (X:=X) (nrm:=False) (E1:=λc _ o=>c=.ref C/\aL X.H₀ o) (good:=λB H=>∃R p b,SI X F R p b B H/\oW Φ J T c b)
   (tb:=mG X F (oW Φ J T c)) L rfl rfl hn (Hs.ok L) Fa ba ka ma (λpn Ik hx=>?_) (λD B o hg hd=>hg),⟨_,_,_,sO,e1⟩,λz=>z.elim,λo hE kI sm=>?_⟩
  ·exact gO.imp (gz (Wc (X:=Cx.nQ X pn Ik) (F:=F) (n:=T) ⟨L.sc,L.N,L.nd,L.calm,L.room,L.bl,λf x h=>⟨(L.fn f x h).ex⟩,L.cs,L.pr⟩ hx fe ht hc)) λD B H ⟨R,p,b,I,hb⟩=>⟨R,p,b,I.nQ,hb⟩
  ·exact V (.str M) kI (hE.2.trans sm) ⟨λ_=>none,λ_ _ h=>by simp at h,.str M⟩
end DI
end
section
namespace DI
open PySem (Str)
def pT(i j:Int):(i==j)=decide (i=j):=rfl
section
variable (g:Fl->Fl)(p:Fl->Bool)
nonrec def JN(b:Bool):aI g (.bl b)=.bl b:=rfl
nonrec def Fh(b:Int):aI g ↑b=.int b:=rfl
nonrec def Uw:aI g .b0=.b0:=rfl
nonrec def Uv(s:Str):aI g (.str s)=.str s:=rfl
nonrec def Fe(ds:aa):aI g (.tup ds)=.tup (ak g ds):=rfl
nonrec def Ux(f:Fl)(ds:aa):aI g (.lst f ds)=.lst (g f) (ak g ds):=rfl
nonrec def Uy(f:Fl)(a:az)(vs:aa):aI g (.cF f a vs)=.cF (g f) a (ak g vs):=rfl
nonrec def RT:ak g []=[]:=rfl
nonrec def pJ(d:D)(ds:aa):ak g (d::ds)=aI g d::ak g ds:=rfl
nonrec def RV(a b:aa):ak g (a++b)=ak g a++ak g b:=by simp only[aN,zak]
nonrec def RU(ds:aa):(ak g ds).length=ds.length:=by rw[aN,zaa]
def fS{a:Type}{e:a->D}(h:∀x,aI g (e x)=e x)(xs:List a):ak g (xs.map e)=xs.map e:=by
 exact[aN,zag]\aaW λx _=>h x
theorem dC{b:Type}{e:b->D}(h:∀x,aW p (e x)=false):∀a:List b,aQ p (a.map e)=false
 |[]=>by rw[zbH,aQ]
 |x::a=>by rw[zal,aQ,h x,dC h a];rfl
nonrec def Kq(b:Bool):aW p (.bl b)=false:=adL rfl
nonrec def pY(b:Int):aW p ↑b=false:=adL rfl
nonrec def VE:aW p .b0=false:=adL rfl
nonrec def VD(s:Str):aW p (.str s)=false:=adL rfl
nonrec def F4(ds:aa):aW p (.tup ds)=aQ p ds:=adL rfl
nonrec def F5(f:Fl)(ds:aa):aW p (.lst f ds)=(p f||aQ p ds):=adL rfl
nonrec def VF(f:Fl)(a:az)(vs:aa):aW p (.cF f a vs)=(p f||aQ p vs):=adL rfl
nonrec def Sb:aQ p []=false:=adL rfl
nonrec def PR(d:D)(ds:aa):aQ p (d::ds)=(aW p d||aQ p ds):=adL rfl
nonrec def Cg:∀a b:aa,aQ p (a++b)=(aQ p a||aQ p b)
 |[],b=>by simp
 |d::a,b=>by simp[Cg a b,Bool.or_assoc]
nonrec def kS(ns:ae):ak g (ns.map D.int)=ns.map D.int:=fS g (Fh g) ns
nonrec def yw(ns:ae):aQ p (ns.map D.int)=false:=dC p (pY p) ns
nonrec def BN(ns:List Bool):ak g (ns.map D.bl)=ns.map D.bl:=fS g (JN g) ns
nonrec def Cf(ns:List Bool):aQ p (ns.map D.bl)=false:=dC p (Kq p) ns
nonrec def RX(t:Ty)(d:D):eC t (aI g d)=eC t d:=by cases d<;>cases t<;>rfl
end
nonrec def Qo:bp .ow=.al:=rfl
nonrec def Qp:bp .fz=.fz:=rfl
nonrec def Qq:bp .al=.al:=rfl
nonrec def Qn:bp .sc=.sc:=rfl
nonrec def Qk:aK .ow=.fz:=rfl
nonrec def Ql:aK .fz=.fz:=rfl
nonrec def Qm:aK .al=.fz:=rfl
nonrec def Qj:aK .sc=.sc:=rfl
nonrec def QD:fC .ow=.ow:=rfl
nonrec def QE:fC .fz=.al:=rfl
nonrec def QF:fC .al=.al:=rfl
nonrec def QC:fC .sc=.sc:=rfl
nonrec def Qz:bW .ow=false:=rfl
nonrec def QA:bW .fz=false:=rfl
nonrec def QB:bW .al=true:=rfl
nonrec def Qy:bW .sc=false:=rfl
nonrec def Qv:cy .ow=true:=rfl
nonrec def Qw:cy .fz=false:=rfl
nonrec def Qx:cy .al=false:=rfl
nonrec def Qu:cy .sc=false:=rfl
nonrec def Qr:ub .ow=false:=rfl
nonrec def Qs:ub .fz=false:=rfl
nonrec def Qt:ub .al=false:=rfl
meta def aq(ns:ae):aa:=ns.map D.int
meta def n_(ns:List Bool):aa:=ns.map D.bl
nonrec def rV(ns:ae):(aq ns).length=ns.length:=acx ..
nonrec def WJ(ns:List Bool):(n_ ns).length=ns.length:=acx ..
nonrec def B8:aq []=[]:=rfl
nonrec def yo(n:Int)(ns:ae):aq (n::ns)=.int n::aq ns:=rfl
nonrec def Ph(ns:ae)(n:Int):aq ns++[.int n]=aq (ns++[n]):=by simp[aq]
nonrec def B9(ns:ae)(i:Nat):(aq ns)[i]?=ns[i]?.map D.int:=bv ..
nonrec def gI(g:Fl->Fl)(ns:ae):ak g (aq ns)=aq ns:=kS g ns
nonrec def wx(p:Fl->Bool)(ns:ae):aQ p (aq ns)=false:=yw p ns
nonrec def ON(g:Fl->Fl)(ns:List Bool):ak g (n_ ns)=n_ ns:=BN g ns
nonrec def PU(p:Fl->Bool)(ns:List Bool):aQ p (n_ ns)=false:=Cf p ns
nonrec def aeA(i j:Int):dk .add ↑i ↑j=ok ↑(i+j):=rfl
nonrec def aez(i j:Int):dk .sub ↑i ↑j=ok ↑(i - j):=rfl
def kF{i j:Int}(h:gE i j=true):dk .mul ↑i ↑j=ok ↑(i*j):=abi h
def gh{i j:Int}(h:AO j=true):dk .fdiv ↑i ↑j=ok ↑(i.fdiv j):=abi h
nonrec def sM{i j:Int}(h:j≠0):dk .mod ↑i ↑j=ok ↑(i.fmod j):=abi (abg h)
def WL{i j:Int}(h:vR i j=true):dk .shl ↑i ↑j=ok ↑(i*2 ^ j.toNat):=abi h
def M7{i j:Int}(h:vR i j=true):dk .pow ↑i ↑j=ok ↑(i ^ j.toNat):=abi h
nonrec def ac_(i:Int):JL ↑i=ok ↑(-i):=rfl
def mulOk_of{i j:Int}(h:i.natAbs<2 ^ 9000)(h':j.natAbs<2 ^ 9000):gE i j=true:=by
 simp only[gE,big,h,h',decide_true,yau,zbs]
def pK{n:Nat}(h:n<2 ^ 64):n<2 ^ 9000:=aao h (abq ⇑4 ⇑4)
def tX{i:Int}(j:Int)(h:i.natAbs<2 ^ 64):gE i j=true:=by simp only[gE,h,decide_true,yaU]
def z5{j:Int}(i:Int)(h:j.natAbs<2 ^ 64):gE i j=true:=by simp only[gE,h,decide_true,yaU,zbs]
def gf{j:Int}(a:j≠0)(h:j.natAbs<2 ^ 9000):AO j=true:=by
 simp only[AO,big,h,decide_true,yat,decide_eq_true_eq];exact a
nonrec def Lh{i j:Int}(h:j.natAbs<2 ^ 64):dk .mul ↑i ↑j=ok ↑(i*j):=kF (z5 i h)
nonrec def Yu{i j:Int}(h:i.natAbs<2 ^ 64):dk .mul ↑i ↑j=ok ↑(i*j):=kF (tX j h)
nonrec def WM{i j:Int}(a:j≠0)(h:j.natAbs<2 ^ 64):dk .fdiv ↑i ↑j=ok ↑(i.fdiv j):=gh (gf a (pK h))
def Rl{a b:D}(d:cq 40 a=true)(c:cq 40 b=true):jH .eq a b=ok (.bl (lA a b)):=by
 show(if cq 40 a&&cq 40 b then _ else _)=_;rw[d,c];rfl
def Lb{a b:D}(d:cq 40 a=true)(c:cq 40 b=true):jH .ne a b=ok (.bl (!lA a b)):=by
 show(if cq 40 a&&cq 40 b then _ else _)=_;rw[d,c];rfl
nonrec def gC(n:Nat)(i:Int):cq n ↑i=true:=by cases n<;>rfl
nonrec def ZR(n:Nat)(i:Bool):cq n (.bl i)=true:=by cases n<;>rfl
nonrec def XE(n:Nat):cq n .b0=true:=by cases n<;>rfl
nonrec def XD(n:Nat)(i:Str):cq n (.str i)=true:=by cases n<;>rfl
nonrec def tT(n:Nat)(ds:aa):cq (n+1) (.tup ds)=ds.all (cq n):=rfl
nonrec def XB(n:Nat)(f:Fl)(ds:aa):cq (n+1) (.lst f ds)=ds.all (cq n):=rfl
nonrec def ZK(i j:Int):jH .eq ↑i ↑j=ok (.bl (decide (i=j))):=by rw[Rl (gC _ _) (gC _ _)];show ok (D.bl (i==j))=_;rw[pT]
nonrec def ZJ(i j:Int):jH .ne ↑i ↑j=ok (.bl (!decide (i=j))):=by rw[Lb (gC _ _) (gC _ _)];show ok (D.bl (!(i==j)))=_;rw[pT]
nonrec def afI(i j:Int):jH .lt ↑i ↑j=ok (.bl (decide (i<j))):=rfl
nonrec def afJ(i j:Int):jH .le ↑i ↑j=ok (.bl (decide (i<=j))):=rfl
nonrec def afK(i j:Int):jH .gt ↑i ↑j=ok (.bl (decide (j<i))):=rfl
nonrec def afL(i j:Int):jH .ge ↑i ↑j=ok (.bl (decide (j<=i))):=rfl
nonrec def adv(ds:aa)(i:Int):HQ (.tup ds) ↑i=xn ds i:=rfl
nonrec def adw(f:Fl)(ds:aa)(i:Int):HQ (.lst f ds) ↑i=xn ds i:=rfl
variable {ds xs:aa}
def uP{n:Nat}{d:D}(h:ds[n]?=↥d):xn ds (n:Int)=ok (aI bp d):=by
 have a:n<ds.length:=(bn.mp h).1;have e:FE ds.length (n:Int)=↥n:=by unfold FE;rw[zac ⋯,zac ⋯];rfl
 unfold xn;rw[e,Option.bind_some,h]
def at_of{i:Int}{d:D}(a:0<=i)(h:ds[i.toNat]?=↥d):xn ds i=ok (aI bp d):=by
 have:=uP h
 rwa [show((i.toNat:Nat):Int)=i by left]at this
nonrec def ace(d:D)(ds:aa):xn (d::ds) 0=ok (aI bp d):=uP (n:=0) rfl
nonrec def ahO(a d:D)(ds:aa):xn (a::d::ds) 1=ok (aI bp d):=uP (n:=1) rfl
nonrec def ahN(a b d:D)(ds:aa):xn (a::b::d::ds) 2=ok (aI bp d):=uP (n:=2) rfl
nonrec def Yf(ds:aa):rg .len [.tup ds]=ok ↑ds.length:=rfl
nonrec def Yg(f:Fl)(ds:aa):rg .len [.lst f ds]=ok ↑ds.length:=rfl
nonrec def ad8(i:Int):rg .abs [.int i]=ok ↑i.natAbs:=by
 show ok (D.int (if i<0 then -i else i))=_;congr 2;split<;>left
nonrec def V9(f:Fl)(ds:aa):rg .list1 [.lst f ds]=ok (.ow\(ak bp ds)):=rfl
nonrec def V8(ds:aa):rg .list1 [.tup ds]=ok (.ow\(ak bp ds)):=rfl
nonrec def Ye(f:Fl)(ds:aa):rg .tuple1 [.lst f ds]=ok (.tup (ak bp ds)):=rfl
nonrec def wH(f:Fl)(ns:ae):rg .ju [.lst f (aq ns)]=ok ↑ns.sum:=by
 show(match intsOf (ns.map D.int)with|↥ns=>_|none=>_)=_;rw[bX]
nonrec def ad7(f:Fl)(bs:List Bool):rg .all1 [.lst f (n_ bs)]=ok (.bl (bs.all id)):=by
 show(match jI (bs.map D.bl)with|↥ns=>_|none=>_)=_;rw[nj]
variable {ns:ae}
nonrec def Kx(h:ns.length<64):rg .iL [.tup (aq ns)]=ok (.ow\(aq (sortI ns))):=by
 show vz _=_;unfold vz aq;exact[bX]\abi h
nonrec def QH(h:ns.length<4000):z7 (.tup (aq ns))=ok ↑(uz ns).length:=by
 show(match intsOf (ns.map D.int)with|↥ns=>_|none=>_)=_;exact[bX]\abi h
nonrec def oJ(i j:Int):lA ↑i ↑j=decide (i=j):=by show(i==j)=_;rw[pT]
nonrec def abR(i j:Bool):lA (.bl i) (.bl j)=(i==j):=rfl
nonrec def Yi(a b:aa):lA (.tup a) (.tup b)=fL a b:=rfl
nonrec def KG(f g:Fl)(a b:aa):lA (.lst f a) (.lst g b)=fL a b:=rfl
nonrec def Wg:fL [] []=true:=rfl
nonrec def Cr(a b:D)(as bs:aa):fL (a::as) (b::bs)=(lA a b&&fL as bs):=rfl
theorem qf:∀{as bs:aa},fL as bs=true->as.length=bs.length
 |[],[],_=>rfl
 |[],_::_,h=>(aaj h).elim
 |_::_,[],h=>(aaj h).elim
 |a::as,b::bs,h=>by
  replace h:(_&&_)=true:=h;rw[zah]at h;rw[zae,zae,qf h.2]
theorem wL{b:Type}{e:b->D}[DecidableEq b](h:∀x y,lA (e x) (e y)=decide (x=y)):∀xs a:List b,fL (xs.map e) (a.map e)=decide (xs=a)
 |[],[]=>by simp
 |[],y::a=>by
  cases z:fL ([].map e) ((y::a).map e)with
  |true=>have:=qf z;simp at this
  |false=>simp
 |x::xs,[]=>by
  cases z:fL ((x::xs).map e) ([].map e)with
  |true=>have:=qf z;simp at this
  |false=>simp
 |x::xs,y::a=>by
  rw[zal,zal,Cr,h,wL h xs a];by_cases e1:x=y<;>by_cases e2:xs=a<;>simp[e1,e2]
def oz{a:Type}{e:a->D}{n:Nat}(h:∀x,cq n (e x)=true)(xs:List a):(xs.map e).all (cq n)=true:=by
 exact[zaU]\fu.mpr λx _=>h x
theorem bN{bind:D->O aS}{test:aS->O Bool}{el:aS->O D}{b:Type}{e:b->D}{g:b->D}:∀{xs:List b},(∀x∈xs,∃a,bind (e x)=ok a/\test a=ok true/\el a=ok (g x))->jk bind test el (xs.map e)=ok (xs.map g)
 |[],_=>rfl
 |x::xs,h=>by
  ext(⟨a,j,i,f⟩:h x (aam ..))(c:bN (xs:=xs) λy d=>h y (aap _ d));rw[zal,jk,j,cP,i,cP,zac rfl,f,cP,c];rfl
theorem nK{bind:D->O aS}{test:aS->O Bool}{el:aS->O D}{b:Type}{e:b->D}{g:b->D}{t:b->Bool}:∀{xs:List b},(∀x∈xs,∃a,bind (e x)=ok a/\test a=ok (t x)/\(t x=true->el a=ok (g x)))->jk bind test el (xs.map e)=ok ((xs.filter t).map g)
 |[],_=>rfl
 |x::xs,h=>by
  ext(⟨a,k,j,i⟩:h x (aam ..))(c:nK (xs:=xs) λy d=>h y (aap _ d));rw[zal,jk,k,cP,j,cP,W0];cases f:t x with
  |true=>rw[zac rfl,i f,cP,c,zac rfl];rfl
  |false=>rw[zab zaj,c,zab zaj]
section
variable {Φ:aV}{n:Nat}{t:Tg}{caps:aR}{ik:IK}{es bU:aA}{elt:CE}{ρ:aS}{xs items ds:aa}
def cV(f:bY Φ es ρ=ok xs)(e:eQ Φ ik xs=ok items)
  (c:jk (λd=>cw t d (bK n caps ρ)) (λa=>ji Φ bU a) (λa=>aZ Φ elt a) items=ok ds) (b:ds.length<=cU):aZ Φ (.comp n t caps ik es bU elt) ρ=ok (.ow\(ak fC ds)):=by
 show bd (bY Φ es ρ) _=_;rw[f,cP,e,cP,c,cP,zac b]
end
def ua(Φ:aV)(ds:aa):eQ Φ .seq [.tup ds]=ok (ak aK ds):=rfl
def dj(Φ:aV)(f:Fl)(ds:aa):eQ Φ .seq [.lst f ds]=ok (ak aK ds):=rfl
def Ac(Φ:aV){n:Int}(a:0<=n)(h:n<=1000000):eQ Φ .nC [.int n]=ok ((eg n.toNat).map λ(k:Nat)=>D.int (k:Int)):=by
 show(if n<=(cU:Int) /\ -(cU:Int)<=n then _ else _)=_;have:(cU:Int)=1000000:=rfl;rw[zac ⋯]
def cx{n:Nat}(h:n<=1000000):n<=cU:=h
variable {Φ:aV}{ρ ρ1 ρ2:aS}
def gv{t:Tg}{it:CI}{b:ai}{items:aa}{r:O (Fo×aS)}(h:cI Φ it ρ=ok (items,ρ1))(h':dD (λd ρ=>cw t d ρ) (λρ=>bE Φ b ρ) items ρ1=r):ir Φ (.fr t it b) ρ=r:=by
 show bd (cI Φ it ρ) _=_;exact[h]\h'
def oG(bind:D->aS->O aS)(body:aS->O (Fo×aS))(ρ:aS):dD bind body [] ρ=ok (.nx,ρ):=rfl
def eR{bind:D->aS->O aS}{body:aS->O (Fo×aS)}{x:D}{r:O (Fo×aS)}(c:bind x ρ=ok ρ1)(b:body ρ1=ok (.nx,ρ2))(a:dD bind body xs ρ2=r):dD bind body (x::xs) ρ=r:=by
 exact[dD,c,cP,b]\a
def Gq{bind:D->aS->O aS}{body:aS->O (Fo×aS)}{x y:D}(b:bind x ρ=ok ρ1)(a:body ρ1=ok (.rt y,ρ2)):dD bind body (x::xs) ρ=ok (.rt y,ρ2):=by
 rw[dD,b,cP,a];rfl
def UR{a:CE}{n:Int}(h:aZ Φ a ρ=ok ↑n)(c:0<=n)(b:n<=1000000):cI Φ (.nC a) ρ=ok ((eg n.toNat).map λ(k:Nat)=>D.int (k:Int),ρ):=by
 show bd (aZ Φ a ρ) _=_;rw[h];show(if n<=(cU:Int) /\ -(cU:Int)<=n then _ else _)=_;have:(cU:Int)=1000000:=rfl;rw[zac ⋯]
def aad{a:CE}(h:aZ Φ a ρ=ok (.tup ds)):cI Φ (.seq a) ρ=ok (ak aK ds,if aQ bW ds then qa (gJ a) 0 ρ else ρ):=by
 show bd (aZ Φ a ρ) _=_;rw[h,<- p_];show ok (_,if aW bW (.tup ds)then _ else _)=_;rw[F4]
def wj{a:CE}{f:Fl}(h:aZ Φ a ρ=ok (.lst f ds)):cI Φ (.seq a) ρ=ok (ak aK ds,if (bW f||aQ bW ds)then qa (gJ a) 0 ρ else ρ):=by
 show bd (aZ Φ a ρ) _=_;rw[h,<- p_];show ok (_,if aW bW (.lst f ds)then _ else _)=_;rw[F5]
meta def gd(t b:Int):Int:=if b<0 then -(f6 t b:Int)else(f6 t b:Int)
def OE(t b:Int):Int:=t.fdiv (gd t b)
def OF(t b:Int):Int:=b.fdiv (gd t b)
def Ap{t b:Int}(h:b≠0):0<f6 t b:=Int.gcd_pos_of_ne_zero_right t h
def kY{t b:Int}(h:b≠0):gd t b≠0:=by
 have:=Ap (t:=t) h;unfold gd;split<;>left
def Qb{t b:Int}(h:b≠0):f6 t b<=b.natAbs:=yaK ⋯ (Nat.gcd_dvd_right _ _)
def KO{t b:Int}(h:b≠0):(gd t b).natAbs<=b.natAbs:=by
 have:=Qb (t:=t) h;unfold gd;split<;>left
def pF{t b:Int}(h:b≠0):∃g f:Int,t=gd t b*g/\b=gd t b*f/\OE t b=g/\OF t b=f/\1<=f/\f6 g f=1:=by
 ext(m:Ap (t:=t) h);obtain⟨t1,i⟩:(f6 t b:Int)∣t:=Int.gcd_dvd_left ..;obtain⟨a,j⟩:(f6 t b:Int)∣b:=Int.gcd_dvd_right ..;have l:f6 t1 a=1:=by
  have e:f6 ((f6 t b:Int)*t1) ((f6 t b:Int)*a)=f6 t b*f6 t1 a:=by
   rw[Int.gcd_mul_left];simp
  rw[<- i,<- j]at e;have:f6 t b*1=f6 t b*f6 t1 a:=[Nat.mul_one]\e
  exact(Nat.eq_of_mul_eq_mul_left m this).symm
 by_cases k:b<0
 ·have d:gd t b = -(f6 t b:Int):=by simp[gd,k]
  have e1:t=gd t b*(-t1):=[d,yaf]\i
  have e2:b=gd t b*(-a):=[d,yaf]\j
  refine⟨-t1,-a,e1,e2,?_,?_,?_,[Int.gcd_neg,Int.neg_gcd]\l⟩
  ·unfold OE
   conv=>lhs;arg 1;rw[e1]
   exact acV _ (kY h)
  ·unfold OF
   conv=>lhs;arg 1;rw[e2]
   exact acV _ (kY h)
  ·have:a<0:=by
    by_cases c:a<0
    ·exact c
    ·have:0<=(f6 t b:Int)*a:=Int.mul_nonneg ⋯ ⋯;left
   left
 ·have d:gd t b=(f6 t b:Int):=by simp[gd,k]
  have e1:t=gd t b*t1:=[d]\i
  have e2:b=gd t b*a:=[d]\j
  refine⟨t1,a,e1,e2,?_,?_,?_,l⟩
  ·unfold OE
   conv=>lhs;arg 1;rw[e1]
   exact acV _ (kY h)
  ·unfold OF
   conv=>lhs;arg 1;rw[e2]
   exact acV _ (kY h)
  ·have:0<a:=by
    by_cases c:0<a
    ·exact c
    ·have:(f6 t b:Int)*a<=0:=Int.mul_nonpos_of_nonneg_of_nonpos ⋯ ⋯;left
   left
meta def qD(q:Rat):D:=.tup [.int q.num,.int q.den]
nonrec def Fg(g:Fl->Fl)(q:Rat):aI g (qD q)=qD q:=by unfold qD;simp
nonrec def PY(g:Fl->Bool)(q:Rat):aW g (qD q)=false:=by unfold qD;simp
meta def ff(a:bA):aa:=a.map qD
nonrec def Xt(a:bA):(ff a).length=a.length:=acx ..
nonrec def Xs:ff []=[]:=rfl
nonrec def TX(q:Rat)(a:bA):ff (q::a)=qD q::ff a:=rfl
nonrec def TV(a:bA)(q:Rat):ff a++[qD q]=ff (a++[q]):=by simp[ff]
nonrec def Xu(a:bA)(i:Nat):(ff a)[i]?=a[i]?.map qD:=bv ..
nonrec def Xr(a:bA)(i:Nat)(q:Rat):(ff a).set i (qD q)=ff (a.set i q):=by unfold ff;rw[List.map_set]
nonrec def Uu(g:Fl->Fl)(a:bA):ak g (ff a)=ff a:=fS g (Fg g) a
nonrec def VC(g:Fl->Bool)(a:bA):aQ g (ff a)=false:=dC g (PY g) a
def vV(n:Nat)(q:Rat):cq (n+1) (qD q)=true:=by
 unfold qD;rw[tT,zas,zas,gC,gC];rfl
nonrec def ads(q:Rat):HQ (qD q) ↑0=ok ↑q.num:=by unfold qD;simp
nonrec def adq(q:Rat):HQ (qD q) ↑1=ok ↑q.den:=by unfold qD;simp
theorem uv{t b:Int}(f:b≠0):t.fdiv (gd t b)=(ei t b).num/\b.fdiv (gd t b)=((ei t b).den:Int):=by
 ext(⟨a,c,e1,e2,k,j,l,i⟩:pF (t:=t) f)(hd:kY (t:=t) f);have e:ei t b=ei a c:=by
  generalize gd t b=d at *;exact[e1,e2]\Rat.divInt_mul_left hd
 obtain⟨n,rfl⟩:∃n:Nat,c=(n:Int):=⟨c.toNat,by left⟩
 have h:a.natAbs.Coprime n:=by
  have:j8 a.natAbs n=1:=by simpa [f6]using i
  exact this
 have g:n≠0:=by left
 have e3:ei a (n:Int)=⟨a,n,g,h⟩:=XV.symm;exact[e,e3]\⟨k,j⟩
def BF(q:Rat):(q.den:Int)≠0:=by have:=q.den_pos;left
def L5(q:Rat):(1:Int)<=q.den:=by have:=q.den_pos;left
def mP(q:Rat):ei q.num q.den=q:=Rat.num_divInt_den q
def zO{t b:Int}(a:b≠0):(ei t b).num.natAbs<=t.natAbs/\(ei t b).den<=b.natAbs:=by
 ext(⟨d,c,e1,e2,h,g,k,j⟩:pF (t:=t) a)(⟨e,i⟩:uv (t:=t) a);have hd:1<=(gd t b).natAbs:=by have:=kY (t:=t) a;left
 rw[show t.fdiv (gd t b)=d from h]at e;rw[show b.fdiv (gd t b)=c from g]at i;refine⟨?_,?_⟩
 ·rw[<- e];have:t.natAbs=(gd t b).natAbs*d.natAbs:=by rw[<- zbn,<- e1]
  exact[this]\MK _ hd
 ·have f:(ei t b).den=c.natAbs:=by left
  rw[f];have:b.natAbs=(gd t b).natAbs*c.natAbs:=by rw[<- zbn,<- e2]
  exact[this]\MK _ hd
def L6(p q:Rat):p*q=ei (p.num*q.num) (p.den*q.den):=by
 conv=>lhs;rw[<- mP p,<- mP q]
 exact Rat.divInt_mul_divInt _ _
def Sm(k:Nat)(q:Rat):Prop:=q.num.natAbs<2 ^ k/\q.den<2 ^ k
def Sm.mono{k l:Nat}{q:Rat}(h:Sm k q)(a:k<=l):Sm l q :=
 ⟨aao h.1 (abq ⇑4 a),aao h.2 (abq ⇑4 a)⟩
def gA{a b k l:Nat}(h:a<2 ^ k)(h':b<2 ^ l):a*b<2 ^ (k+l):=by
 exact[Nat.pow_add]\Nat.mul_lt_mul'' h h'
section
variable {k l:Nat}{p q:Rat}
theorem Sm.den(h:Sm k p)(h':Sm l q):((p.den:Int)*q.den).natAbs<2 ^ (k+l):=by
 exact[zbn]\gA ⇑h.2 ⇑h'.2
def Sm.mul(h:Sm k p)(h':Sm l q):Sm (k+l) (p*q):=by
 have a:(p.den:Int)*q.den≠0:=yag (BF p) (BF q);ext(⟨c,b⟩:zO (t:=p.num*q.num) a);rw[<- L6]at c b;have e:(p.num*q.num).natAbs<2 ^ (k+l):=[zbn]\gA h.1 h'.1
 ext(d:h.den h');exact⟨by left,by left⟩
def Sm.big(h:Sm k p)(a:k<=9000):p.num.natAbs<2 ^ 9000/\(p.den:Int).natAbs<2 ^ 9000:=by
 have:=h.mono a;exact⟨this.1,⇑this.2⟩
end
def Bx{t b:Int}{k:Nat}(a:b≠0)(d:t.natAbs<2 ^ k)(c:b.natAbs<2 ^ k):Sm k (ei t b):=by
 ext(⟨f,e⟩:zO (t:=t) a);exact⟨by left,by left⟩
def dT(d:D):Bool:=eC .int d&&!eC .bool d
def eV(m:aE):Prop:=∀d,m [d]=ok (.bl (dT d))
meta def iW:ai:=[.ret (.and [(.qV (.v 0) .int),(.not (.qV (.v 0) .bool))])]
def x5(Φ:aV):eV (mk Φ 1 1 iW):=by
 intro d;simp[mk_eq,iW,dT]
def qc(a:Int){b:Int}(h:b≠0):(a.fmod b).natAbs<b.natAbs:=by
 ext((c|c):Up h)
 ·ext(e:Int.neg_fmod_neg a b)(f:adX (-a) (show 0 < -b by left))(d:aej (-a) (show 0 < -b by left));left
 ·ext(f:adX a c)(d:aej a c);left
def Gi(a b:Int):f6 b (a.fmod b)=f6 a b:=by
 rw[Int.fmod_def,Int.gcd_sub_mul_left_right,Int.gcd_comm]
def bI(m:aE):Prop:=∀a b:Int,m [.int a,.int b]=ok ↑(f6 a b)
meta def Dl:CS:=.LI (.cmp .ne (.v 1) ↑0) [.asg (.nm 2) (.bin .mod (.v 0) (.v 1)),.asg (.nm 0) (.v 1),.asg (.nm 1) (.v 2)]
def dF:ai:=[Dl,.ret (.bf .abs [(.v 0)])]
def K9(Φ:aV):∀(n:Nat) (a b:Int) (r:aM),b.natAbs<=n->∃(g:Int) (d:aM),ir Φ Dl [↥↑a,↥↑b,r]=ok (.nx,[↥↑g,↥↑0,d])/\g.natAbs=f6 a b:=by
 intro n;induction n with
 |zero =>
  intro a b r h;have c:b=0:=by left
  subst c;refine⟨a,r,?_,by simp⟩;exact[Dl,ro]\iH ⇑5
 |succ n f =>
  intro a b r h;by_cases c:b=0
  ·subst c;refine⟨a,r,?_,by simp⟩;exact[Dl,ro]\iH ⇑5
  ·ext(j:qc a c)(⟨g,d,e,i⟩:f b (a.fmod b) ↥↑(a.fmod b) ⋯);refine⟨g,d,?_,by rw[i,Gi]⟩;rw[Dl,ro]at e ⊢;exact[-e]\o4 (by simp[c])
def mL(Φ:aV):bI (mk Φ 2 3 dF):=by
 intro a b;ext(⟨g,c,e,d⟩:K9 Φ b.natAbs a b none (aat _));have e1:(g.natAbs:Int)=(f6 a b:Int):=by left
 simp[mk_eq,dF,e,e1]
def oT(m:aE):Prop:=∀t b:Int,b≠0->b.natAbs<2 ^ 9000->m [.int t,.int b]=ok (qD (ei t b))
def kH(m:aE):Prop:=oT m/\∀t:Int,m [.int t,.int 0]=↥(.error 0)
meta def df:ai:=[.ifs (.cmp .eq (.v 1) ↑0) [.rs 0] [],.asg (.nm 2) (.call 1 [(.v 0),(.v 1)]),.ifs (.cmp .lt (.v 1) ↑0) [.asg (.nm 2) (.neg (.v 2))] [],.ret (.tup [(.bin .fdiv (.v 0) (.v 2)),(.bin .fdiv (.v 1) (.v 2))])]
def oM{t b:Int}(a:b≠0)(h:b.natAbs<2 ^ 9000)(x:Int):dk .fdiv ↑x ↑(gd t b)=ok ↑(x.fdiv (gd t b)) :=
 gh (gf (kY a) (aaZ (KO a) h))
def qP(Φ:aV)(d:bI (Φ 1)):kH (mk Φ 2 3 df):=by
 refine⟨λt b a h=>?_,λt=>by simp[mk_eq,df]⟩;ext(⟨e1,e2⟩:uv (t:=t) a);unfold bI at d;ext(g:oM (t:=t) a h t)(f:oM (t:=t) a h b);rw[qD,<- e1,<- e2];by_cases c:b<0
 ·have e:-(f6 t b:Int)=gd t b:=by simp[gd,c]
  simp[mk_eq,df,a,d,c,e,g,f]
 ·have e:(f6 t b:Int)=gd t b:=by simp[gd,c]
  simp[mk_eq,df,a,d,c,e,g,f]
meta def eA:D->Bool
 |.tup [.int a,.int b]=>decide (1<=b)&&decide (f6 a b=1)
 |_=>false
def Kv(q:Rat):eA (qD q)=true:=by
 ext(b:L5 q);have a:f6 q.num q.den=1:=by
  have:=q.reduced;simpa [f6]using this
 simp[qD,eA,b,a]
protected def wD{d:D}(h:eA d=true):∃q,d=qD q:=by
 unfold eA at h;split at h
 ·rename_i a b;simp only[zah,decide_eq_true_eq]at h;obtain⟨n,rfl⟩:∃n:Nat,b=(n:Int):=⟨b.toNat,by left⟩
  have c:a.natAbs.Coprime n:=by
   have:j8 a.natAbs n=1:=by simpa [f6]using h.2
   exact this
  exact⟨⟨a,n,by left,c⟩,rfl⟩
 ·cases h
def kG(m:aE):Prop:=∀d,m [d]=ok (.bl (eA d))
meta def b6:ai:=[.ifs (.or [(.not (.qV (.v 0) .tuple)),(.cmp .ne (.bf .len [(.v 0)]) ↑2)]) [.ret (.bl false)] [],.ifs (.or [(.not (.call 0 [(.ix (.v 0) ↑0)])),(.not (.call 0 [(.ix (.v 0) ↑1)]))]) [.ret (.bl false)] [],.ret (.and [(.cmp .ge (.ix (.v 0) ↑1) ↑1),(.cmp .eq (.call 1 [(.ix (.v 0) ↑0),(.ix (.v 0) ↑1)]) ↑1)])]
def jt(g:Fl->Fl)(d:D):dT (aI g d)=dT d:=by simp[dT]
def iG{d:D}(h:dT d=true):∃i,d=.int i:=by
 cases d<;>simp[dT,eC]at h ⊢
def si{x y:D}(h:dT x=false\/dT y=false):eA (.tup [x,y])=false:=by
 cases x<;>cases y<;>simp[dT,eC]at h<;>rfl
protected def Cm(h:ds.length≠2):eA (.tup ds)=false:=by
 unfold eA;split
 ·rename_i e;cases e;simp at h
 ·rfl
def qO(Φ:aV)(f:eV (Φ 0))(k:bI (Φ 1)):kG (mk Φ 1 1 b6):=by
 intro d;unfold eV at f;unfold bI at k;have g:eC .tuple d=false->mk Φ 1 1 b6 [d]=ok (.bl false):=λh=>by simp[mk_eq,b6,h]
 cases d with
 |tup ds =>
  clear g;by_cases i:ds.length=2
  ·match ds,i with
   |[x,y],_ =>
    by_cases c:dT x=true
    ·by_cases e:dT y=true
     ·ext(⟨a,rfl⟩:iG c)(⟨b,rfl⟩:iG e);simp[mk_eq,b6,f,k,c,e,eC,eA];by_cases j:a.gcd b=1
      ·simp[j]
      ·simp[j];left
     ·simp[mk_eq,b6,f,c,e,eC,jt,si (.inr ⇑e)]
    ·simp[mk_eq,b6,f,c,eC,jt,si (.inl ⇑c)]
  ·have l:¬ (ds.length:Int)=2:=by left
   simp[mk_eq,b6,eC,l,Cm i]
 |_=>exact g rfl
def mh(m:aE):Prop:=∀p q,Sm 4000 p->Sm 4000 q->m [qD p,qD q]=ok (qD (p*q))
meta def oQ(f:Nat):ai:=[.ret (.call f [(.bin .mul (.ix (.v 0) ↑0) (.ix (.v 1) ↑0)),(.bin .mul (.ix (.v 0) ↑1) (.ix (.v 1) ↑1))])]
section
variable (Φ:aV){f:Nat}(h2:oT (Φ f))
def ab6{p q:Rat}(b:Sm 4000 p)(a:Sm 4000 q):(p.den:Int)*q.den≠0/\((p.den:Int)*q.den).natAbs<2 ^ 9000 :=
 ⟨yag (BF p) (BF q),aao (b.den a) (abq ⇑4 ⇑4)⟩
def ZW{p q:Rat}(g:Sm 4000 p)(e:Sm 4000 q):dk .mul ↑p.num ↑q.den=ok ↑(p.num*q.den)/\dk .mul ↑p.num ↑q.num=ok ↑(p.num*q.num)/\dk .mul ↑p.den ↑q.den=ok ↑(p.den*q.den)/\dk .mul ↑p.den ↑q.num=ok ↑(p.den*q.num):=by
 ext(⟨a,b⟩:g.big ⇑4)(⟨c,d⟩:e.big ⇑4);exact⟨kF (mulOk_of a d),kF (mulOk_of a c),kF (mulOk_of b d),kF (mulOk_of b c)⟩
include h2
theorem Jb:mh (mk Φ 2 2 (oQ f)):=by
 intro p q h g;ext(⟨a,b,c,d⟩:ZW h g)(⟨n,k⟩:ab6 h g)(e:h2 (p.num*q.num) _ n k);rw[<- L6]at e;simp[mk_eq,oQ,b,c,e]
omit h2 in
end
def G5{bind:D->O aS}{test:aS->O Bool}{el:aS->O D}{g:D->D}(h:∀x∈xs,∃ρ,bind x=ok ρ/\test ρ=ok true/\el ρ=ok (g x)):jk bind test el xs=ok (xs.map g):=by
 have:=bN (bind:=bind) (test:=test) (el:=el) (e:=λd=>d) (g:=g) (xs:=xs) h
 rwa [List.map_id']at this
def kU(g:Fl->Fl)(d:D):eA (aI g d)=eA d:=by
 cases d with
 |tup ds =>
  match ds with
  |[]=>simp
  |[_]=>simp[eA]
  |[x,y]=>cases x<;>cases y<;>simp[eA]
  |_::_::_::_=>simp[eA]
 |_=>simp[eA]
def uG(d:D):Prop:=match d with
 |.lst _ ds=>ds.length<=1000000
 |.tup ds=>ds.length<64
 |_=>True
meta def ko(a:bA):Nat:=a.foldl (λb q=>mA b q.den) 1
def Ft(b:Nat)(q:Rat):(b:Int).fdiv (f6 b q.den)*q.den=(mA b q.den:Nat):=by
 have a:0<j8 b q.den:=H8 _ q.den_pos;have e:f6 (b:Int) (q.den:Int)=j8 b q.den:=by simp[f6]
 rw[e,zbf _ ⋯];have:((b:Int) / (j8 b q.den:Nat))=((b / j8 b q.den:Nat):Int):=(An ..).symm;rw[this,mA];have hd:j8 b q.den∣b:=X1 ..;exact[zca b,Nat.mul_div_assoc _ hd,zca]\(Db ..).symm
theorem lcm_pos{b:Nat}(a:0<b)(q:Rat):0<mA b q.den:=Nat.lcm_pos a q.den_pos
theorem z_:∀(a:bA) (b k j:Nat),0<b->b<2 ^ j->(∀q∈a,Sm k q)->0<a.foldl (λb q=>mA b q.den) b/\a.foldl (λb q=>mA b q.den) b<2 ^ (j+k*a.length)/\b∣a.foldl (λb q=>mA b q.den) b/\∀q∈a,q.den∣a.foldl (λb q=>mA b q.den) b
 |[],b,k,j,h0,h1,_=>⟨h0,⇑h1,Nat.dvd_refl _,λq d=>nomatch d⟩
 |q::a,b,k,j,h0,h1,hs=>by
  ext(d:hs q aam);have g:mA b q.den<2 ^ (j+k):=aaZ (yao h0 q.den_pos) (gA h1 d.2);ext(⟨l,i,f,h⟩:z_ a (mA b q.den) k (j+k) (lcm_pos h0 q) g λp c=>hs p (aap _ c));have e:j+k*(q::a).length=j+k+k*a.length:=by rw[zae,ybM];left
  refine⟨l,[e]\i,yaL (Nat.dvd_lcm_left ..) f,λp c=>?_⟩;ext((rfl|c):ci.mp c)
  ·exact yaL (Nat.dvd_lcm_right ..) f
  ·exact h p c
structure xC(k:Nat)(qs:bA):Prop where
 sm:∀q∈qs,Sm k q
 Gr:k*qs.length<=3000
 len:qs.length<=1000
variable {qs:bA}
def xC.lcm{k:Nat}(h:xC k qs):0<ko qs/\ko qs<2 ^ (1+k*qs.length)/\∀q∈qs,q.den∣ko qs:=by
 ext(⟨c,b,_,a⟩:z_ qs 1 k 1 ⇑4 ⇑4 h.sm);exact⟨c,b,a⟩
def yh{n j:Nat}(h:n<2 ^ j)(a:j<=9000):n<2 ^ 9000:=aao h (abq ⇑4 a)
def fF(m:aE):Prop:=∀f qs k,xC k qs->m [.lst f (ff qs)]=ok ↑(ko qs)
meta def cE:ai:=[.asg (.nm 1) (.bin .mul (.bin .fdiv (.v 1) (.call 1 [(.v 1),(.ix (.v 2) ↑1)])) (.ix (.v 2) ↑1))]
def c_:ai:=[.asg (.nm 1) ↑1,.fr (.nm 2) (.seq (.v 0)) cE,.ret (.v 1)]
theorem AX(Φ:aV)(g:bI (Φ 1))(x:aM):∀(qs:bA) (b k j:Nat) (z:aM),0<b->b<2 ^ j->j+k*qs.length<=8000->(∀q∈qs,Sm k q) ->
  ∃c,dD (λd ρ=>cw (.nm 2) d ρ) (λρ=>bE Φ cE ρ) (ff qs) [x,↥↑b,z]=ok (.nx,[x,↥↑(qs.foldl (λb q=>mA b q.den) b:Nat),c])
 |[],b,k,j,z,_,_,_,_=>⟨z,rfl⟩
 |q::qs,b,k,j,z,h0,hb,hj,hs=>by
  ext(h:hs q aam);have n:mA b q.den<2 ^ (j+k):=aaZ (yao h0 q.den_pos) (gA hb h.2);have e:j+k*(q::qs).length=j+k+k*qs.length:=by rw[zae,ybM];left
  ext(⟨c,i⟩:AX Φ g x qs (mA b q.den) k (j+k) ↥(qD q) (lcm_pos h0 q) n ⋯ λp l=>hs p (aap _ l));have t:0<j8 b q.den:=H8 _ q.den_pos;have o:f6 (b:Int) (q.den:Int)=j8 b q.den:=by simp[f6]
  have f:j8 b q.den<=b:=yaK h0 (X1 ..);have a:b<2 ^ 9000:=yh hb ⋯;have s:dk .fdiv ↑b ↑(j8 b q.den:Nat)=ok ↑((b:Int).fdiv (j8 b q.den:Nat)):=gh (gf ⋯ ⇑(wp f a));have m:((b:Int).fdiv (j8 b q.den:Nat)).natAbs<=b:=by
   rw[zbf _ ⋯,<- An];simp;exact yac ..
  have r:dk .mul ↑((b:Int).fdiv (j8 b q.den:Nat)) ↑q.den=ok ↑(mA b q.den:Nat):=by
   have:=Ft b q;rw[o]at this;rw[kF (mulOk_of (zaZ m a) (h.big (by
    rw[e]at hj;have:k<=j+k+k*qs.length:=by left
    left)).2),this]
  unfold bI at g;refine⟨c,eR (ρ1:=[x,↥↑b,↥(qD q)]) ⇑5 (ρ2:=[x,↥↑(mA b q.den:Nat),↥(qD q)]) ?_ i⟩;simp[cE,g,s,r]
def nW(Φ:aV)(i:bI (Φ 1)):fF (mk Φ 1 3 c_):=by
 intro f qs k h;have a:cI Φ (.seq (.v 0)) [↥(.lst f (ff qs)),↥↑1,none]=ok (ff qs,if (bW (bp f)||false)then[↥(.lst (aK f) (ff qs)),↥↑1,none]else[↥(.lst f (ff qs)),↥↑1,none]):=by
  rw[wj (f:=bp f) (ds:=ff qs) ⇑5];simp[show gJ (.v 0)=[0] from rfl]
 have j:=h.Gr;have g:∀x:aM,∃c,dD (λd ρ=>cw (.nm 2) d ρ) (λρ=>bE Φ cE ρ) (ff qs) [x,↥↑(1:Nat),none]=ok (.nx,[x,↥↑(ko qs),c]):=λx=>AX Φ i x qs 1 k 1 none ⇑4 ⇑4 ⋯ h.sm;cases hf:(bW (bp f)||false)with
 |true =>
  rw[hf]at a;ext(⟨c,e⟩:g ↥(.lst (aK f) (ff qs)));have:=gv (t:=.nm 2) (b:=cE) a e;simp[mk_eq,c_,this]
 |false =>
  rw[hf]at a;ext(⟨c,e⟩:g ↥(.lst f (ff qs)));have:=gv (t:=.nm 2) (b:=cE) a e;simp[mk_eq,c_,this]
meta def fK(b:Nat)(q:Rat):Int:=q.num*(b:Int).fdiv q.den
def T1(q:Rat):(q.num:Rat)=q*(q.den:Rat):=by
 have h:(q.den:Rat)≠0:=by
  have:=q.den_pos;intro z;have:((q.den:Int):Rat)=0:=[zaF]\z
  rw[zaW]at this;left
 have e:q=(q.num:Rat) / (q.den:Rat):=by
  conv=>lhs;rw[<- mP q,zaE,zaF]
 grind
def DD{b:Nat}{q:Rat}(h:q.den∣b):((fK b q:Int):Rat)=q*(b:Rat):=by
 ext(⟨c,rfl⟩:h);have hd:(q.den:Int)≠0:=BF q;unfold fK;rw[Db,J2 _ hd,Rat.intCast_mul,T1,Rat.natCast_mul,zaF];grind
theorem lK{b:Nat}:∀{qs:bA},(∀q∈qs,q.den∣b)->(((qs.map (fK b)).sum:Int):Rat)=qs.sum*(b:Rat)
 |[],_=>by simp
 |q::qs,h=>by
  rw[zal,zaz,zaz,Zw,DD (h q zbm),lK λp a=>h p (zaS _ a)];grind
def jM(m:aE):Prop:=∀f qs k (b:Nat),xC k qs->b<2 ^ 8000->m [.lst f (ff qs),.int b]=ok (.ow\(aq (qs.map (fK b))))
meta def gL:ai:=[.ret (.comp 1 (.nm 0) [1] .seq [(.v 0)] [] (.bin .mul (.ix (.v 0) ↑0) (.bin .fdiv (.v 1) (.ix (.v 0) ↑1))))]
def IW{k:Nat}(h:xC k qs){q:Rat}(a:q∈qs):Sm 3000 q:=by
 refine(h.sm q a).mono ?_;have c:=h.Gr;have b:0<qs.length:=List.length_pos_of_mem a;have:k*1<=k*qs.length:=Nat.mul_le_mul_left _ b;left
def vI(Φ:aV):jM (mk Φ 2 2 gL):=by
 intro f qs k b a d;have m:aZ Φ (.comp 1 (.nm 0) [1] .seq [(.v 0)] [] (.bin .mul (.ix (.v 0) ↑0) (.bin .fdiv (.v 1) (.ix (.v 0) ↑1)))) [↥(.lst f (ff qs)),↥↑b]=ok (.ow\(aq (qs.map (fK b)))):=by
  rw[cV (xs:=[.lst (bp f) (ff qs)]) (items:=ff qs) (ds:=qs.map λq=>.int (fK b q)) ⇑5 (by rw[dj];simp) (bN λq c=>?_) (by have:=a.len;simp;exact cx ⋯)]
  ·have:(qs.map λq=>D.int (fK b q))=aq (qs.map (fK b)):=by simp[aq]
   rw[this,gI]
  ·refine⟨[↥(qD q),↥↑b],by simp[bK],by simp,?_⟩;ext(g:IW a c)(⟨i,h⟩:g.big ⇑4);have l:dk .fdiv ↑b ↑q.den=ok ↑((b:Int).fdiv q.den):=gh (gf (BF q) h);have j:dk .mul ↑q.num ↑((b:Int).fdiv q.den)=ok ↑(q.num*(b:Int).fdiv q.den):=by
    refine kF (mulOk_of i ?_);rw[zbf _ ⋯,<- An];have:=yac b q.den;ext(e:yh d ⇑4);exact[zby]\aaZ this e
   simp[l,j,fK]
 simp[mk_eq,gL,m]
def qA(m:aE):Prop:=∀f qs k,xC k qs->m [.lst f (ff qs)]=ok (.tup [.int (ko qs),.ow\(aq (qs.map (fK (ko qs))))])
meta def iV:ai:=[.asg (.nm 1) (.call 9 [(.v 0)]),.ret (.tup [(.v 1),(.call 10 [(.v 0),(.v 1)])])]
def xC.OW{k:Nat}(h:xC k qs):ko qs<2 ^ 8000:=aao h.lcm.2.1 (abq ⇑4 (by have:=h.Gr;left))
def x4(Φ:aV)(b:fF (Φ 9))(c:jM (Φ 10)):qA (mk Φ 1 2 iV):=by
 intro f qs k a;ext(e1:λf=>b f qs k a)(e2:λf=>c f qs k (ko qs) a a.OW);simp[mk_eq,iV,e1,e2]
def iX(m:aE):Prop:=∀f qs k,xC k qs->m [.lst f (ff qs)]=ok (qD qs.sum)
meta def fN:ai:=[.asg (.nm 1) (.call 41 [(.v 0)]),.ret (.call 2 [(.bf .ju [(.ix (.v 1) ↑1)]),(.ix (.v 1) ↑0)])]
def IE{b:Nat}(c:0<b)(h:∀q∈qs,q.den∣b):ei (qs.map (fK b)).sum b=qs.sum:=by
 have a:((b:Nat):Rat)≠0:=by
  intro z;have:((b:Int):Rat)=0:=[zaF]\z
  rw[zaW]at this;left
 rw[zaE,lK h,zaF];grind
def tx(Φ:aV)(c:kH (Φ 2))(b:qA (Φ 41)):iX (mk Φ 1 2 fN):=by
 intro f qs k a;ext(e1:λf=>b f qs k a)(⟨e,g,d⟩:a.lcm)(e2:c.1 (qs.map (fK (ko qs))).sum (ko qs) ⋯ (by have:=yh a.OW ⇑4;simpa using this));rw[IE e d]at e2;simp[mk_eq,fN,e1,e2]
meta def cC(n:Int):D->Bool
 |.int i=>decide (0<=i)&&decide (i<n)
 |_=>false
def nG(g:Fl->Fl)(n:Int)(d:D):cC n (aI g d)=cC n d:=by
 cases d<;>simp[cC]
theorem fj{n:Int}:∀{ds:aa},ds.all (cC n)=true->∃ns:ae,ds=aq ns
 |[],_=>⟨[],rfl⟩
 |d::ds,h=>by
  simp only[zas,zah]at h;ext(⟨ns,rfl⟩:fj h.2);cases d with
  |int i=>exact⟨i::ns,rfl⟩
  |_=>simp[cC]at h
def numsOf(ds:aa):ae:=(intsOf ds).getD []
def fg(ns:ae):numsOf (aq ns)=ns:=by unfold numsOf aq;rw[bX];rfl
def bH(d:D)(n:Int):Bool:=match d with
 |.tup ds=>ds.all (cC n)&&decide ((uz (numsOf ds)).length=ds.length)
 |_=>false
def t7(d:D)(n:Int):Bool:=bH d n&&(match d with
 |.tup ds=>decide (numsOf ds=sortI (numsOf ds))
 |_=>false)
def iY(m:aE):Prop:=∀d n,uG d->m [d,.int n]=ok (.bl (bH d n))
meta def cX:ai:=[.ifs (.not (.qV (.v 0) .tuple)) [.ret (.bl false)] [],.ifs (.not (.bf .all1 [(.comp 1 (.nm 0) [1] .seq [(.v 0)] [] (.and [(.call 0 [(.v 0)]),(.cmp .ge (.v 0) ↑0),(.cmp .lt (.v 0) (.v 1))]))])) [.ret (.bl false)] [],.ret (.cmp .eq (.mW (.v 0)) (.bf .len [(.v 0)]))]
def tE(Φ:aV)(b:eV (Φ 0)):iY (mk Φ 2 2 cX):=by
 intro d n l;unfold eV at b;have c:eC .tuple d=false->mk Φ 2 2 cX [d,.int n]=ok (.bl false):=λh=>by simp[mk_eq,cX,h]
 cases d with
 |tup ds =>
  clear c;have k:ds.length<64:=l;have f:aZ Φ (.comp 1 (.nm 0) [1] .seq [(.v 0)] [] (.and [(.call 0 [(.v 0)]),(.cmp .ge (.v 0) ↑0),(.cmp .lt (.v 0) (.v 1))])) [↥(.tup ds),↥↑n]=ok (.ow\(n_ (ds.map (cC n)))):=by
   rw[cV (xs:=[.tup (ak bp ds)]) ⇑5 (ua ..) (G5 (g:=λd=>.bl (cC n d)) λx _=>⟨[↥x,↥↑n],by simp[bK],by simp,?_⟩) (by simp;exact cx ⋯)]
   ·simp[aN,M2,nG,n_]
   ·cases hw:dT x with
    |true =>
     ext(⟨i,rfl⟩:iG hw);simp[b,hw,cC]
    |false =>
     have e:cC n x=false:=by cases x<;>first|rfl|exact iv (show true=false from hw)
     simp[b,hw,e,jt]
  cases a:ds.all (cC n)with
  |true =>
   ext(⟨ns,rfl⟩:fj a);have j:ns.length<4000:=by simp at k;left
   have e:(JJ (Al (cC n) (aq ns)) id)=true:=[zaU]\a
   simp[mk_eq,cX,eC,f,e,QH j,bH,a,fg];simp[Int.natCast_inj]
  |false =>
   have e:(JJ (Al (cC n) ds) id)=false:=[zaU]\a
   simp only[mk_eq,cX,zae,zaX];simp[eC,f,e,bH,a]
 |_=>exact c rfl
def xq(m:aE):Prop:=∀d n,uG d->m [d,.int n]=ok (.bl (t7 d n))
meta def iE:ai:=[.ret (.and [(.call 43 [(.v 0),(.v 1)]),(.cmp .eq (.bf .list1 [(.v 0)]) (.bf .iL [(.v 0)]))])]
def vW(n:Nat)(f:Fl)(ns:ae):cq (n+1) (.lst f (aq ns))=true:=oz (gC n) ns
def Cq(ns a:ae):fL (aq ns) (aq a)=decide (ns=a):=wL (λx y=>oJ x y) ns a
def eJ(g:Fl->Fl)(d:D)(n:Int):bH (aI g d) n=bH d n:=by
 cases d with
 |tup ds =>
  cases h:ds.all (cC n)with
  |true =>
   ext(⟨ns,rfl⟩:fj h);simp
  |false =>
   have a:(ak g ds).all (cC n)=false:=by
    rw[aN,zaU,show(cC n∘aI g)=cC n from funext λd=>nG g n d];exact h
   simp[bH,h,a]
 |_=>simp[bH]
def iD{g:Fl->Fl}{d:D}(h:uG d):uG (aI g d):=by
 cases d<;>simp_all [uG]
def DZ(Φ:aV)(b:iY (Φ 43)):xq (mk Φ 2 2 iE):=by
 intro d n c;ext(e1:b (aI aK (aI bp d)) n (iD (iD c)));rw[eJ,eJ]at e1;cases d with
 |tup ds =>
  have g:ds.length<64:=c;simp only[Fe]at e1;cases a:bH (.tup ds) n with
  |true =>
   have e:=a;simp only[bH,zah]at e;ext(⟨ns,rfl⟩:fj e.1);have f:ns.length<64:=⇑g
   have e2:jH .eq (.ow\(aq ns)) (.ow\(aq (sortI ns)))=ok (.bl (decide (ns=sortI ns))):=by
    rw[Rl (vW 39 _ _) (vW 39 _ _),KG,Cq]
   rw[a]at e1;simp at e1;simp[mk_eq,iE,e1,Kx f,e2,t7,a,fg]
  |false =>
   rw[a]at e1;simp[mk_eq,iE,e1,t7,a]
 |_=>(simp at e1;simp[mk_eq,iE,e1,t7,bH])
def xD(n:Nat)(l:ae):Prop:=l.Pairwise (· < ·)/\∀h∈l,0<=h/\h<(n:Int)
theorem AR:∀(l m:ae),(∀x∈l,x∉m)->l.Nodup->l.foldl (λ(m:ae) (k:Int)=>if m.any (· == k)then m else m++[k]) m=m++l
 |[],m,_,_=>by simp
 |x::l,m,h,hn=>by
  have b:m.any (· == x)=false:=by
   rw[List.any_eq_false];intro y a z;have:y=x:=⇑z
   exact h x aam (this▸a)
  rw[X3,b,zab zaj,AR l (m++[x])]
  ·simp
  ·intro y a z;ext((z|z):c0.mp z)
   ·exact h y (aap _ a) z
   ·have:y=x:=⇑z
    subst this;exact(gc.mp hn).1 a
  ·exact(gc.mp hn).2
def xD.nodup{n:Nat}{l:ae}(h:xD n l):l.Nodup:=h.1.imp λz=>by left
def DP{l:ae}(h:l.Pairwise (· < ·)):sortI l=l:=by
 unfold sortI;apply List.mergeSort_of_pairwise;exact h.imp λz=>by simp;left
theorem xD.t7{n:Nat}{l:ae}(h:xD n l):t7 (.tup (aq l)) n=true:=by
 have c:(aq l).all (cC n)=true:=by
  unfold aq;rw[zaU,zaL];intro x a;have:=h.2 x a;simp[cC,this.1,this.2]
 have b:uz l=l:=by
  have:=AR l [] ⇑5 h.nodup;rw[zay]at this;exact this
 simp[DI.t7,bH,c,fg,b,DP h.1]
meta def iC(ns:ae)(k:Int):Int :=
 let c:=if k<ns.length then ns.getD k.toNat 0 else 0
 if (10:Int) ^ 18<=c then(c - 10 ^ 18).fmod (10 ^ 60)else
  let n:=(c*48271+k*69621+11).fmod 2147483629
  let n:=(n*n).fmod 2147483587
  n*2147483563+(n*n).fmod 2147483563
def Hz(m:aE):Prop:=∀(ns:ae) (k:Int),0<=k->m [.sc\(aq ns),.int k]=ok ↑(iC ns k)
meta def fE:ai:=[.asg (.nm 2) ↑0,.ifs (.cmp .lt (.v 1) (.bf .len [(.v 0)])) [.asg (.nm 2) (.ix (.v 0) (.v 1))] [],.ifs (.cmp .ge (.v 2) (.bin .pow ↑10 ↑18)) [.ret (.bin .mod (.bin .sub (.v 2) (.bin .pow ↑10 ↑18)) (.bin .pow ↑10 ↑60))] [],.asg (.nm 3) (.bin .mod (.bin .add (.bin .add (.bin .mul (.v 2) ↑48271) (.bin .mul (.v 1) ↑69621)) ↑11) ↑2147483629),.asg (.nm 3) (.bin .mod (.bin .mul (.v 3) (.v 3)) ↑2147483587),.ret (.bin .add (.bin .mul (.v 3) ↑2147483563) (.bin .mod (.bin .mul (.v 3) (.v 3)) ↑2147483563))]
def iT(a:Int){b:Int}(h:0<b):0<=a.fmod b/\a.fmod b<b:=⟨adX a h,aej a h⟩
theorem CB(Φ:aV)(x:D)(k c:Int)(l:eC .list x=true)(o:aM):iU (bE Φ (fE.drop 2) [↥x,↥↑k,↥↑c,o])=ok (.int (if (10:Int) ^ 18<=c then(c - 10 ^ 18).fmod (10 ^ 60)else
  let n:=(c*48271+k*69621+11).fmod 2147483629
  let n:=(n*n).fmod 2147483587
  n*2147483563+(n*n).fmod 2147483563)):=by
 have d:dk .pow ↑10 ↑18=ok ↑(10 ^ 18):=M7 ⇑4;have e:dk .pow ↑10 ↑60=ok ↑(10 ^ 60):=M7 ⇑4;by_cases h:(10:Int) ^ 18<=c
 ·have a:(1000000000000000000:Int)<=c:=h;simp[fE,d,e,a]
 ·have a:¬ (1000000000000000000:Int)<=c:=h;ext(⟨a1,a2⟩:iT (c*48271+k*69621+11) (b:=2147483629) ⇑4);generalize i:(c*48271+k*69621+11).fmod 2147483629=n at *;ext(⟨a3,a4⟩:iT (n*n) (b:=2147483587) ⇑4);have g:dk .mul ↑n ↑n=ok ↑(n*n):=kF (tX _ ⋯);generalize j:(n*n).fmod 2147483587=m at *;have f:dk .mul ↑m ↑m=ok ↑(m*m):=kF (tX _ ⋯);simp[fE,d,a,i,g,j,f]
def N6(Φ:aV):Hz (mk Φ 2 4 fE):=by
 intro ns k b;have:=λc=>CB Φ (.sc\(aq ns)) k c rfl none;by_cases h:k<ns.length
 ·have f:xn (aq ns) k=ok ↑(ns.getD k.toNat 0):=by
   have a:k.toNat<ns.length:=by left
   rw[at_of b (d:=.int (ns.getD k.toNat 0)) (by rw[B9,cb a,zbT,zbg,cb a];rfl)];simp
  have e:iU (bE Φ fE ([↥(D.lst Fl.sc (aq ns)),↥(D.int k)]++[none,none]))=iU (bE Φ (fE.drop 2) [↥(.sc\(aq ns)),↥↑k,↥↑(ns.getD k.toNat 0),none]):=by
   rw[fE,bD,ze];simp only[Mz,MX,fi,pY];simp only[zbp,zay,oR,zae,zaX,yaJ,ybJ,dq,Sd,zbx];rw[bD,xG];simp[h,f]
  rw[mk_eq (ar:=2) (ds:=[_,_]) rfl];refine(show _=_ from e).trans ?_;rw[this,iC,zac h]
 ·have e:iU (bE Φ fE ([↥(D.lst Fl.sc (aq ns)),↥(D.int k)]++[none,none]))=iU (bE Φ (fE.drop 2) [↥(.sc\(aq ns)),↥↑k,↥↑0,none]):=by
   rw[fE,bD,ze];simp only[Mz,MX,fi,pY];simp only[zbp,zay,oR,zae,zaX,yaJ,ybJ,dq,Sd,zbx];rw[bD,xG];simp[h]
  rw[mk_eq (ar:=2) (ds:=[_,_]) rfl];refine(show _=_ from e).trans ?_;rw[this,iC,zab h]
meta def lG:CS:=.LI (.cmp .gt (.v 3) ↑0) [.par 2 3 (.v 3) (.bin .mod (.v 2) (.v 3))]
def me:ai:=[.asg (.nm 2) (.bf .abs [(.v 0)]),.asg (.nm 3) (.bf .abs [(.v 1)]),lG,.ifs (.cmp .lt (.v 1) ↑0) [.asg (.nm 2) (.bin .sub ↑0 (.v 2))] [],.ret (.tup [(.bin .fdiv (.v 0) (.v 2)),(.bin .fdiv (.v 1) (.v 2))])]
def yj(Φ:aV)(x y:aM):∀(n:Nat) (a b:Nat),b<=n->ir Φ lG [x,y,↥↑a,↥↑b]=ok (.nx,[x,y,↥↑(j8 a b),↥↑0]):=by
 intro n;induction n with
 |zero =>
  intro a b h;have c:b=0:=by left
  subst c;exact[lG,ro]\iH ⇑5
 |succ n d =>
  intro a b h;by_cases c:b=0
  ·subst c;exact[lG,ro]\iH ⇑5
  ·ext(k:Nat.mod_lt a (show 0<b by left))(e:d b (a % b) ⋯);have i:j8 b (a % b)=j8 a b:=by rw[ybS a b,Nat.gcd_rec b a,ybS]
   rw[i]at e;rw[lG,ro]at e ⊢;rw[<- e];have j:0<b:=by left
   have g:((a:Int)).fmod (b:Int)=((a % b:Nat):Int):=by
    exact[Int.fmod_eq_emod_of_nonneg _ ⋯]\(Int.natCast_emod a b).symm
   have f:ir Φ (.par 2 3 (.v 3) (.bin .mod (.v 2) (.v 3))) [x,y,↥↑a,↥↑b]=ok (.nx,[x,y,↥↑b,↥↑((a % b:Nat):Int)]):=by
    rw[SE];simp[c,g]
   exact o4 (by simp[j,f])
def Je(Φ:aV):oT (mk Φ 2 4 me):=by
 intro t b c h;ext(⟨e1,e2⟩:uv (t:=t) c)(i:oM (t:=t) c h t)(g:oM (t:=t) c h b)(e:yj Φ ↥↑t ↥↑b b.natAbs t.natAbs b.natAbs (aat _));rw[qD,<- e1,<- e2];by_cases a:b<0
 ·have f:0 - (j8 t.natAbs b.natAbs:Int)=gd t b:=by simp[gd,a,f6]
  have d:-(j8 t.natAbs b.natAbs:Int)=gd t b:=by simp[gd,a,f6]
  simp[mk_eq,me,e,a,d,i,g]
 ·have f:(j8 t.natAbs b.natAbs:Int)=gd t b:=by simp[gd,a,f6]
  simp[mk_eq,me,e,a,f,i,g]
def BE{q:Rat}(h:0<q):0<q.num:=by
 have:=(Rat.lt_iff 0 q).mp h;simpa using this
def xD.len{n:Nat}{l:ae}(h:xD n l):l.length<=n:=by
 have d:(l.map Int.toNat).Nodup:=by
  unfold List.Nodup;rw[T0];refine h.1.imp_of_mem λg f z e=>?_;have:=h.2 _ g;have:=h.2 _ f;left
 have c:(l.map Int.toNat) ⊆ eg n:=λx b=>by
  ext(⟨y,a,rfl⟩:dz.mp b);have:=h.2 y a;rw[zbW];left
 have:=d.length_le_of_subset c;simpa using this
def xD.cU{n:Nat}{l:ae}(h:xD n l)(hn:n<=12):uG (.tup (aq l)):=by
 have:=h.len;show(aq l).length<64;simp;left
abbrev Row:=Rat×ae
abbrev af:=List Row
def rD(r:Row):D:=.tup [qD r.1,.tup (aq r.2)]
nonrec def Ff(g:Fl->Fl)(r:Row):aI g (rD r)=rD r:=by unfold rD;simp
nonrec def PV(g:Fl->Bool)(r:Row):aW g (rD r)=false:=by unfold rD;simp
meta def bg(rs:af):aa:=rs.map rD
nonrec def di(rs:af):(bg rs).length=rs.length:=acx ..
nonrec def dQ(g:Fl->Fl)(rs:af):ak g (bg rs)=bg rs:=fS g (Ff g) rs
nonrec def jF(g:Fl->Bool)(rs:af):aQ g (bg rs)=false:=dC g (PV g) rs
def Ud(n:Nat)(r:Row):cq (n+2) (rD r)=true:=by
 unfold rD;rw[tT,zas,zas,vV n];have:cq (n+1) (.tup (aq r.2))=true:=by
  exact[tT]\oz (λ_=>by cases n<;>rfl) r.2
 rw[this];rfl
def cB(n:Nat)(rs:af):D:=.tup [.int n,.fz\(bg rs)]
def acy(rs:af):Prop:=∃W:Nat,0<W/\W<2 ^ 250/\∀r∈rs,r.1.den∣W
meta def gg(rs:af):bA:=rs.map (·.1)
structure Dp(P:ae->Prop)(k n:Nat)(rs:af):Prop where
 n1:1<=n
 n2:n<=12
 fin:acy rs
 len:rs.length<=1000
 lot:∀r∈rs,P r.2
 pos:∀r∈rs,0<r.1
 sm:∀r∈rs,Sm k r.1
 one:(rs.map (·.1)).sum=1
 rise:y9 (rs.map (·.2))
 sl:∃j,xC j (gg rs)
abbrev Dr(k n:Nat)(rs:af):Prop:=Dp (xD n) k n rs
meta def eL:ai:=[.ifs (.or [(.not (.qV (.v 0) .tuple)),(.cmp .ne (.bf .len [(.v 0)]) ↑2)]) [.ret (.bl false)] [],.ifs (.not (.call 43 [(.ix (.v 0) ↑1),(.v 1)])) [.ret (.bl false)] [],.ret (.and [(.call 3 [(.ix (.v 0) ↑0)]),(.cmp .gt (.ix (.ix (.v 0) ↑0) ↑0) ↑0)])]
meta def Bo:ai:=[.ifs (.cM 1022 [(.ix (.v 1) ↑1),(.ix (.v 2) ↑1)]) [.ret (.bl false)] []]
def fm:ai:=[.fr (.tp [1,2]) (.Ml 1000 [(.v 0),(.cM 1020 [(.v 0),↑1])]) Bo,.ret (.bl true)]
def pL(rs:af):aa:=rs.map λr=>.tup (aq r.2)
nonrec def pI(g:Fl->Fl)(rs:af):ak g (pL rs)=pL rs:=fS g (λr=>by simp) rs
nonrec def PQ(g:Fl->Bool)(rs:af):aQ g (pL rs)=false:=dC g (λr=>by simp) rs
def Il(b:Nat)(rs:af):aa:=rs.map λr=>.tup [.int (fK b r.1),.tup (aq r.2)]
nonrec def Ut(g:Fl->Fl)(b:Nat)(rs:af):ak g (Il b rs)=Il b rs:=fS g (λr=>by simp) rs
nonrec def VB(g:Fl->Bool)(b:Nat)(rs:af):aQ g (Il b rs)=false:=dC g (λr=>by simp) rs
meta def KJ:CE:=.comp 2 (.tp [0,1]) [] .seq [(.v 0)] [] (.v 0)
meta def KI:CE:=.comp 2 (.tp [0,1]) [] .seq [(.v 0)] [] (.v 1)
def WC(Φ:aV){rs:af}(h:rs.length<=1000)(r:aS):aZ Φ KJ (↥(.fz\(bg rs))::r)=ok (.ow\(ff (gg rs))):=by
 unfold KJ;rw[cV (xs:=[.fz\(bg rs)]) (items:=bg rs) (ds:=rs.map λr=>qD r.1) ⇑5 (by rw[dj];simp) (bN λr a=>?_) (by simp;exact cx ⋯)]
 ·simp[ff,gg,aN]
 ·exact⟨[↥(qD r.1),↥(.tup (aq r.2))],by simp[bK,rD],by simp,by simp⟩
def UC(Φ:aV){rs:af}(h:rs.length<=1000)(r:aS):aZ Φ KI (↥(.fz\(bg rs))::r)=ok (.ow\(pL rs)):=by
 unfold KI;rw[cV (xs:=[.fz\(bg rs)]) (items:=bg rs) (ds:=rs.map λr=>.tup (aq r.2)) ⇑5 (by rw[dj];simp) (bN λr a=>?_) (by simp;exact cx ⋯)]
 ·exact aa2 (λx=>ok (D.lst .ow x)) (pI fC rs)
 ·exact⟨[↥(qD r.1),↥(.tup (aq r.2))],by simp[bK,rD],by simp,by simp⟩
def sP(m:aE):Prop:=∀(rs:af) k,xC k (gg rs)->m [.fz\(bg rs)]=ok (.tup [.int (ko (gg rs)),.ow\(Il (ko (gg rs)) rs)])
def kh:ai:=[.asg (.nm 1) KJ,.asg (.nm 2) KI,.asg (.nm 3) (.call 9 [(.v 1)]),.ret (.tup [(.v 3),(.cM 1040 [(.call 10 [(.v 1),(.v 3)]),(.v 2)])])]
theorem BA(Φ:aV)(e:fF (Φ 9))(h:jM (Φ 10))(g:Φ 1040=UA):sP (mk Φ 1 4 kh):=by
 intro a k c;have d:a.length<=1000:=by have:=c.len;simpa [gg]using this
 ext(e1:WC Φ d)(e2:UC Φ d)(e3:λf=>e f (gg a) k c)(e4:λf=>h f (gg a) k (ko (gg a)) c c.OW);generalize ko (gg a)=b at *;have e5:Φ 1040 [.ow\(aq ((gg a).map (fK b))),.al\(pL a)]=ok (.ow\(Il b a)):=by
  rw[g];show ok (D.lst .ow (ak bp (f8 pairD (aq ((gg a).map (fK b))) (pL a))))=_;rw[gG,gI,pI];unfold gg aq pL Il;rw[zag,zag,List.zipWith_map,List.zipWith_self];rfl
 simp[mk_eq,kh,JW Φ KJ _ rfl,JW Φ KI _ rfl,e1,e2,e3,e4,e5]
meta def QV:CE:=.comp 2 (.tp [0,1]) [] .seq [(.ix (.v 1) ↑1)] [] (.v 0)
def eZ:ai:=[.asg (.nm 1) (.call 14 [(.v 0)]),.ret (.cmp .eq (.bf .ju [QV]) (.ix (.v 1) ↑0))]
def DB{b:Nat}(h:∀q∈qs,q.den∣b)(a:qs.sum=1):(qs.map (fK b)).sum=(b:Int):=by
 have:=lK h;rw[a,Rat.one_mul,<- zaF]at this;exact Zi.mp this
meta def gw:ai:=[.ifs (.not (.call 12 [(.v 3),(.v 1)])) [.ret (.bl false)] []]
def eU:ai:=[.ifs (.or [(.not (.qV (.v 0) .tuple)),(.cmp .ne (.bf .len [(.v 0)]) ↑2)]) [.ret (.bl false)] [],.asg (.nm 1) (.ix (.v 0) ↑0),.asg (.nm 2) (.ix (.v 0) ↑1),.ifs (.or [(.not (.call 0 [(.v 1)])),(.cmp .lt (.v 1) ↑1),(.cmp .gt (.v 1) (.glo "MOST_HOUSES" 12))]) [.ret (.bl false)] [],.ifs (.not (.qV (.v 2) .list)) [.ret (.bl false)] [],.fr (.nm 3) (.seq (.v 2)) gw,.ret (.and [(.call 44 [(.v 2)]),(.call 15 [(.v 2)])])]
def Rz(m:aE):Prop:=∀k n a,Dr k n a->m [cB n a]=ok (.bl true)
meta def QW:CE:=.comp 2 (.tp [0,1]) [0] .seq [(.ix (.v 0) ↑1)] [] (.call 11 [(.v 1),(.ix (.v 2) ↑0)])
def dE:ai:=[.ret (.and [(.call 45 [(.v 0)]),(.bf .all1 [QW])])]
def tw(Φ:aV)(b:xq (Φ 11))(h:Rz (Φ 45)):Rz (mk Φ 1 1 dE):=by
 intro k n a I;ext(e1:h k n a I);have e2:aZ Φ QW [↥(cB n a)]=ok (.ow\(n_ (a.map λ_=>true))):=by
  unfold QW;rw[cV (xs:=[.fz\(bg a)]) (items:=bg a) (ds:=a.map λ_=>.bl true) (by simp[cB]) (by rw[dj];simp) (bN λr g=>?_) (by simp;exact cx (by have:=I.len;left))]
  ·simp[n_,aN]
  ·ext(c:I.lot r g)(e:b (.tup (aq r.2)) n (c.cU I.n2));rw[c.t7]at e;exact⟨[↥(qD r.1),↥(.tup (aq r.2)),↥(cB n a)],by simp[bK,rD,cB],by simp,by simp[cB,e]⟩
 have e3:rg .all1 [.ow\(n_ (a.map λ_=>true))]=ok (.bl true):=by
  show(match jI (n_ (a.map λ_=>true))with|↥bs=>ok (D.bl (bs.all id))|none=>none)=_;unfold n_;rw[nj];show ok (D.bl ((a.map λ_=>true).all id))=_;congr 2;simp
 have f:aI aK (cB n a)=cB n a:=by simp[cB]
 have d:aI bp (cB n a)=cB n a:=by simp[cB]
 simp[mk_eq,dE,f,d,e1,e2,e3]
def cK(m:aE):Prop:=∀k n a,Dr k n a->m [cB n a]=ok .b0
meta def bR:ai:=[.ifs (.not (.call 16 [(.v 0)])) [.rs 1] []]
def nX(Φ:aV)(d:Rz (Φ 16)):cK (mk Φ 1 1 bR):=by
 intro k n a I;ext(e1:d k n a I);have c:aI aK (cB n a)=cB n a:=by simp[cB]
 have b:aI bp (cB n a)=cB n a:=by simp[cB]
 simp[mk_eq,bR,c,b,e1]
def LY{t b:Int}{k:Nat}(d:b≠0)(c:t.natAbs<2 ^ k)(a:b.natAbs<2 ^ k):Sm k (ei t b):=Bx d c a
def k7{t b:Int}(c:0<t)(d:0<b):0<ei t b:=by
 rw[zaE];have f:(0:Rat)<(t:Rat):=by
  have:=Lx (a:=0) (b:=t);simpa using this.mpr c
 have e:(0:Rat)<(b:Rat):=by
  have:=Lx (a:=0) (b:=b);simpa using this.mpr d
 exact[Rat.div_def]\Rat.mul_pos f (Rat.inv_pos.mpr e)
variable {d':D}
def xF{p i:Nat}{es:aA}{d:D}(e:bY Φ es ρ=ok xs)(c:aQ bW xs=false)(b:ρ[i]?=↥↥d)(a:Φ p (d::xs)=ok d'):ir Φ (.mut p i es) ρ=ok (.nx,ρ.set i ↥d'):=by
 show bd (bY Φ es ρ) (λxs=>tW Φ p i (lX es xs ρ))=_;rw[e,cP];unfold lX;rw[c,zab zaj];unfold tW;rw[b];show bd (Φ p (d::xs)) _=_;rw[a];rfl
theorem sf(c:ae):∀(cs:az) (ws:ae),cA cs (aq ws) c=(cA cs ws c).map D.int
 |[],_=>by cases ‹ae› <;> rfl
 |_::_,[]=>rfl
 |c'::cs,w::ws=>by
  show(if c'=c then ↥(D.int w) else cA cs (aq ws) c)=Option.map D.int (if c'=c then ↥w else cA cs ws c);by_cases e:c'=c
  ·rw[zac e,zac e];rfl
  ·exact[zab e,zab e]\sf c cs ws
theorem rJ(c:ae)(v:Int):∀(cs:az) (ws:ae),setC cs (aq ws) c ↑v=aq (setC cs ws c v)
 |[],_=>by cases ‹ae› <;> rfl
 |_::_,[]=>rfl
 |c'::cs,w::ws=>by
  show(if c'=c then D.int v else D.int w)::setC cs (aq ws) c ↑v=D.int (if c'=c then v else w)::aq (setC cs ws c v);rw[rJ c v cs ws];by_cases e:c'=c
  ·rw[zac e,zac e]
  ·rw[zab e,zab e]
def xJ(cs:az)(ws:ae)(c:ae)(v:Int):bQ cs (aq ws) c ↑v=aq (bQ cs ws c v):=by
 unfold bQ;by_cases e:c∈cs
 ·exact[zac e,zac e]\rJ c v cs ws
 ·rw[zab e,zab e];simp
def kr(cs:az)(ws:ae)(c:ae):Int:=(cA cs ws c).getD 0
theorem uq{a:Type}{c:ae}:∀{cs:az} {ws:List a},cs.length=ws.length->c∈cs->∃w,cA cs ws c=↥w/\w∈ws
 |[],_,_,h=>nomatch h
 |_::_,[],hl,_=>by simp at hl
 |c'::cs,w::ws,hl,h=>by
  by_cases e:c'=c
  ·exact⟨w,abi e,aam⟩
  ·have d:c∈cs:=(ci.mp h).resolve_left λz=>e z.symm;ext(⟨b,e1,e2⟩:uq (cs:=cs) (ws:=ws) ⇑hl d);exact⟨b,(aec e).trans e1,aap _ e2⟩
theorem wa:∀{cs:az} {ws:ae},cs.Nodup->cs.length=ws.length->cs.map (kr cs ws)=ws
 |[],[],_,_=>rfl
 |[],_::_,_,h=>by simp at h
 |_::_,[],_,h=>by simp at h
 |c::cs,w::ws,hn,hl=>by
  ext(a:gc.mp hn)(b:wa (cs:=cs) (ws:=ws) a.2 ⇑hl);rw[zal];have e1:kr (c::cs) (w::ws) c=w:=by
   show(if c=c then ↥w else cA cs ws c).getD 0=w;rw[zac rfl];rfl
  have e2:cs.map (kr (c::cs) (w::ws))=cs.map (kr cs ws):=aaW λx d=>by
   show(if c=x then ↥w else cA cs ws x).getD 0=_;rw[zab (show ¬ c=x from λz=>a.1 ([z]\d))];rfl
  rw[e1,e2,b]
theorem vF{c:ae}{v:Int}:∀{cs:az} {ws:ae} {x:Int},x∈setC cs ws c v->x∈ws\/x=v
 |[],_,_,h=>by cases ‹ae› <;> exact nomatch h
 |_::_,[],_,h=>nomatch h
 |c'::cs,w::ws,x,h=>by
  have h:x∈(if c'=c then v else w)::setC cs ws c v:=h;ext((e|h):ci.mp h)
  ·by_cases q:c'=c
   ·rw[zac q]at e;exact .inr e
   ·rw[zab q]at e;exact[e]\.inl aam
  ·ext((h|h):vF h)
   ·exact .inl (aap _ h)
   ·exact .inr h
def km(cs:az)(ws:ae):af:=(a_ cs).map λc=>(ei (kr cs ws c) ws.sum,c)
theorem sX(W:Int)(b:W≠0):∀a:ae,(a.map λx=>ei x W).sum=ei a.sum W
 |[]=>by simp
 |x::a=>by
  rw[zal,zaz,sX W b a,zaz,zaE,zaE,zaE,Zw];grind
def Ew{a b:bA}(h:a.Perm b):a.sum=b.sum:=by
 induction h with
 |nil=>rfl
 |cons x _ c=>rw[zaz,zaz,c]
 |swap x y l=>rw[zaz,zaz,zaz,zaz];grind
 |trans _ _ e d=>rw[e,d]
def Z0(n:Nat)(t:Nat->Bool):xD n (((eg n).filter t).map λ(k:Nat)=>(k:Int)):=by
 refine⟨?_,λh b=>?_⟩
 ·rw[T0];refine(yaN _ List.pairwise_lt_range).imp λz=>?_;left
 ·ext(⟨k,a,rfl⟩:dz.mp b);have:=hA.mp (rZ.mp a).1;left
def qm{t b:Int}(c:b≠0):(ei t b).den∣b.natAbs:=by
 ext(⟨g,a,e1,e2,j,e,i,h⟩:pF (t:=t) c)(⟨k,f⟩:uv (t:=t) c);rw[show b.fdiv (gd t b)=a from e]at f;have d:(ei t b).den=a.natAbs:=by left
 have:b.natAbs=(gd t b).natAbs*a.natAbs:=by rw[<- zbn,<- e2]
 exact[d,this]\Nat.dvd_mul_left ..
theorem wz{b:Type}(f:ae->b)(k:ae):∀a:az,cA a (a.map f) k=if k∈a then ↥(f k) else none
 |[]=>rfl
 |j::a=>by
  show(if j=k then ↥(f j) else cA a (a.map f) k)=_;rw[wz f k a];by_cases e:j=k
  ·subst e;simp
  ·rw[zab e];have:k∈j::a ↔ k∈a:=[zau]\⟨λh=>h.resolve_left λz=>e z.symm,.inr⟩
   simp only[this]
variable {cs ks:az}
protected def BR{c k:ae}:k∈bo ks c ↔ k∈ks\/k=c:=by
 unfold bo;split
 ·rename_i h;exact⟨.inl,λz=>z.elim id λe=>e▸h⟩
 ·simp
protected def FA(h:ks.Nodup)(c:ae):(bo ks c).Nodup:=by
 unfold bo;split
 ·exact h
 ·rename_i d;exact[zbD]\⟨h,by simp,λa f b e=>[am.mp e]\λz=>d (z▸f)⟩
def BS(ks:az)(c:ae):(bo ks c).length<=ks.length+1:=by
 unfold bo;split<;>simp
structure RH(Φ:aV):Prop where
 MO:Φ 1030=GW
 VT:Φ 1032=GY
 VS:Φ 1033=wU
 VR:Φ 1035=qh
def Q5(P:RH Φ)(a:cs.length<1000)(ws:ae)(c:ae)(v:Int):Φ 1033 [.cF .ow cs (aq ws),.int v,.tup (aq c)]=ok (.cF .ow (bo cs c) (aq (bQ cs ws c v))):=by
 rw[P.VS];show(match intsOf (c.map D.int)with|↥c=>if cy .ow=true/\aW anyF ↑v=false/\cs.length<cU then ok (D.cF .ow (bo cs c) (bQ cs (aq ws) c ↑v))else none|none=>none)=_;rw[bX];show(if cy .ow=true/\aW anyF ↑v=false/\cs.length<cU then ok (D.cF .ow (bo cs c) (bQ cs (aq ws) c ↑v))else none)=_;rw[zac ⟨rfl,rfl,by show _<1000000;left⟩,xJ]
def Wt(P:RH Φ)(f:Fl){ws:ae}(a:cs.length=ws.length){c:ae}(h:c∈cs):Φ 1032 [.cF f cs (aq ws),.tup (aq c)]=ok ↑(kr cs ws c):=by
 ext(⟨w,e,_⟩:uq a h);rw[P.VT];show(match intsOf (c.map D.int)with|↥c=>(match cA cs (aq ws) c with|↥v=>if aW anyF v=false then ok v else none|none=>none)|none=>none)=_;rw[bX];show(match cA cs (aq ws) c with|↥v=>if aW anyF v=false then ok v else none|none=>none)=_;rw[sf,e];unfold kr;rw[e];rfl
def LN(P:RH Φ)(f:Fl)(vs:aa)(h:ks.length<1000):Φ 1035 [.cF f ks vs]=ok (.ow\((a_ ks).map cH)):=by
 rw[P.VR];show(if ks.length<1000 then ok (D.lst .ow ((a_ ks).map cH))else none)=_;rw[zac h]
abbrev Dw:=Nat×af
meta def qN(a:Int)(l:ae):ae:=l.map λh=>a+h
def cO:Int->List Dw->List (af)
 |_,[]=>[]
 |a,d::Ds=>(d.2.map λr=>(r.1,qN a r.2))::cO (a+d.1) Ds
meta def cW(c rows:af):af:=c.flatMap λm=>rows.map λr=>(m.1*r.1,m.2++r.2)
def xd:af->List (af)->af
 |c,[]=>c
 |c,rs::LL=>xd (cW c rs) LL
def m9{c rows:af}{z:Row}:z∈cW c rows ↔ ∃m∈c,∃r∈rows,z=(m.1*r.1,m.2++r.2):=by
 unfold cW;rw[List.mem_flatMap];constructor
 ·rintro ⟨m,b,h⟩;ext(⟨r,a,rfl⟩:dz.mp h);exact⟨m,b,r,a,rfl⟩
 ·rintro ⟨m,b,r,a,rfl⟩;exact⟨m,b,abD a⟩
def sA(c rows:af):(cW c rows).length=c.length*rows.length:=by
 unfold cW;induction c with
 |nil=>simp
 |cons m c a=>rw[zaR,zaf,zaa,a,zae,zbh];left
def RI(a:Int)(l:ae):Prop:=∀h∈l,0<=h/\h<a
def YE(a b:Int)(l:ae):Prop:=∀h∈l,a<=h/\h<b
theorem vw{a b:Int}:∀{l d r c:ae},RI a l->RI a d->YE a b r->YE a b c->l++r=d++c->l=d/\r=c
 |[],[],_,_,_,_,_,_,e=>⟨rfl,e⟩
 |[],y::d,r,c,_,h2,h3,_,e=>by
  exfalso;have f:y∈r:=by rw[show r=y::d++c from e];simp
  have:=h3 y f;have:=h2 y aam;left
 |x::l,[],r,c,h1,_,_,h4,e=>by
  exfalso;have f:x∈c:=by rw[<- show x::l++r=c from e];simp
  have:=h4 x f;have:=h1 x aam;left
 |x::l,y::d,r,c,h1,h2,h3,h4,e=>by
  ext(⟨e1,e2⟩:acX (show x::(l++r)=y::(d++c) from e))(⟨e3,e4⟩:vw (λh g=>h1 h (aap _ g)) (λh g=>h2 h (aap _ g)) h3 h4 e2);exact⟨by rw[e1,e3],e4⟩
def G4{a b:Int}{c rows:af}(w:(c.map (·.2)).Nodup)(v:(rows.map (·.2)).Nodup)(j:∀m∈c,RI a m.2)(l:∀r∈rows,YE a b r.2):((cW c rows).map (·.2)).Nodup:=by
 induction c with
 |nil=>exact acG
 |cons m c d =>
  ext(⟨q,p⟩:gc.mp w)(d:d p λx g=>j x (aap _ g));have e:(cW (m::c) rows).map (·.2)=(rows.map λr=>m.2++r.2)++(cW c rows).map (·.2):=by
   unfold cW;rw[zaR,zak,zag];rfl
  rw[e,zbD];refine⟨?_,d,λx g y u=>?_⟩
  ·have:(rows.map λr=>m.2++r.2)=(rows.map (·.2)).map (m.2 ++ ·):=by rw[zag];rfl
   exact[this]\v.map (f:=(m.2 ++ ·)) λx y (h:x≠y) e=>h (List.append_cancel_left e)
  ·rintro rfl;ext(⟨r,A,rfl⟩:dz.mp g)(⟨z,t,B⟩:dz.mp u)(⟨s,n,o,k,rfl⟩:m9.mp t)(i:j m aam)(⟨e1,_⟩:vw i (j s (aap _ n)) (l r A) (l o k) B.symm);exact q (by show m.2∈c.map (·.2);rw[e1];exact abD n)
inductive Lay:Int->Int->List (af)->Prop
 |nil (a:Int):Lay a a []
 |cons {a b c:Int} {rs:af} {LL:List (af)} (yx:a<=b) (nd:(rs.map (·.2)).Nodup) (ab:∀r∈rs,YE a b r.2) (t:Lay b c LL):Lay a c (rs::LL)
def Rj{a b:Int}{LL:List (af)}(L:Lay a b LL):∀{c:af},0<=a->(c.map (·.2)).Nodup->(∀m∈c,RI a m.2)->((xd c LL).map (·.2)).Nodup/\∀m∈xd c LL,RI b m.2:=by
 induction L with
 |nil a=>intro c _ g f;exact⟨g,f⟩
 | @cons a b d p LL o nd i t j =>
  intro c q g f;refine j ⋯ (G4 g nd f i) λm n=>?_;ext(⟨x,k,r,l,rfl⟩:m9.mp n);intro h e;ext((e|e):c0.mp e)
  ·have:=f x k h e;left
  ·have:=i r l h e;left
def OD:Nat->List (af)->Prop
 |_,[]=>True
 |c,rs::LL=>c*rs.length<=1000/\OD (c*rs.length) LL
def y7(k l:Nat)(rs:af):Prop:=∀r∈rs,Sm k r.1/\r.2.length<=l
def wW{k l i j:Nat}{c rows:af}(d:y7 k l c)(a:y7 i j rows):y7 (k+i) (l+j) (cW c rows):=λz f=>by
 ext(⟨m,b,r,e,rfl⟩:m9.mp f);exact⟨(d m b).1.mul (a r e).1,by have:=(d m b).2;have:=(a r e).2;simp;left⟩
def Ri{i j:Nat}{LL:List (af)}:∀{k l:Nat} {c:af},y7 k l c->(∀a∈LL,y7 i j a)->y7 (k+LL.length*i) (l+LL.length*j) (xd c LL):=by
 induction LL with
 |nil=>intro k l c h _;simpa [xd]using h
 |cons a LL d =>
  intro k l c h b;have:=d (wW h (b a aam)) λx e=>b x (aap _ e);rw[zae,show k+(LL.length+1)*i=k+i+LL.length*i by rw[zbh];left,show l+(LL.length+1)*j=l+j+LL.length*j by rw[zbh];left];exact this
theorem jJ:∀(a:Int) (Ds:List Dw),(cO a Ds).length=Ds.length
 |_,[]=>rfl
 |a,d::Ds=>by rw[cO,zae,jJ,zae]
def Hk{a:Int}{Ds:List Dw}{rs:af}(h:rs∈cO a Ds):∃d∈Ds,∃b,rs=d.2.map λr=>(r.1,qN b r.2):=by
 induction Ds generalizing a with
 |nil=>cases h
 |cons d Ds c =>
  ext((rfl|h):ci.mp h)
  ·exact⟨d,aam,a,rfl⟩
  ·ext(⟨e,f,b,g⟩:c h);exact⟨e,aap _ f,b,g⟩
meta def fV(Ds:List Dw):Int:=(Ds.map λd=>(d.1:Int)).sum
def IY{a:Int}{l m:ae}(h:qN a l=qN a m):l=m:=by
 unfold qN at h;exact List.map_inj_right (λx y e=>by left) |>.mp h
theorem A3:∀{a:Int} {Ds:List Dw},(∀d∈Ds,(d.2.map (·.2)).Nodup/\∀r∈d.2,RI d.1 r.2)->Lay a (a+fV Ds) (cO a Ds)
 |a,[],_=>by rw[show a+fV []=a by simp[fV]];exact Lay.nil a
 |a,d::Ds,h=>by
  ext(⟨n,m⟩:h d aam)(g:A3 (a:=a+d.1) (Ds:=Ds) λe l=>h e (aap _ l));have e:a+fV (d::Ds)=a+d.1+fV Ds:=by simp[fV];left
  rw[e];refine .cons (b:=a+d.1) ⋯ ?_ (λr k=>?_) g
  ·rw[zag];have:((λx:Row=>x.2)∘λr:Row=>(r.1,qN a r.2))=qN a∘(·.2):=rfl;exact[this,-zag]\n.map (f:=qN a) λx y (c:x≠y) e=>c (IY e)
  ·ext(⟨s,j,rfl⟩:dz.mp k);intro x c;ext(⟨y,i,rfl⟩:dz.mp c);have:=m s j y i;left
def SG{i:Nat}{op:Bool}{e:CE}{a b:Int}(h:aZ Φ e ρ=ok ↑b)(c:ρ[i]?=↥↥↑a):ir Φ (.aug i op e) ρ=ok (.nx,ρ.set i ↥↑(if op then a+b else a - b)):=by
 show bd (bd (aZ Φ e ρ) intD) _=_;rw[h];show(match ρ[i]? with|↥↥↑a=>_|_=>none)=_;rw[c]
def eY(f:Fl)(d:Dw):D:=.tup [.int d.1,.lst f (bg d.2)]
def bh(f:Fl)(Ds:List Dw):aa:=Ds.map (eY f)
def dA(g:Fl->Fl)(f:Fl)(d:Dw):aI g (eY f d)=eY (g f) d:=by
 show D.tup [.int d.1,.lst (g f) (ak g (bg d.2))]=_;rw[dQ];rfl
theorem cf(g:Fl->Fl)(f:Fl):∀a:List Dw,ak g (bh f a)=bh (g f) a
 |[]=>rfl
 |d::a=>by
  show aI g (eY f d)::ak g (bh f a)=_;rw[dA,cf g f a];rfl
def l9(f:Fl)(Ds:List Dw):(bh f Ds).length=Ds.length:=acx ..
def Am(p:Fl->Bool)(f:Fl)(d:Dw):aW p (eY f d)=p f:=by
 show(false||((p f||aQ p (bg d.2))||false))=_;rw[jF];simp
theorem m4{p:Fl->Bool}{f:Fl}(h:p f=false):∀a:List Dw,aQ p (bh f a)=false
 |[]=>rfl
 |d::a=>by
  show(aW p (eY f d)||aQ p (bh f a))=false;rw[Am,h,m4 h a];rfl
meta def md(Ds:List Dw):Int->ae->Int
 |c,[]=>c
 |c,g::gs=>md Ds (c*((Ds.getD g.toNat (0,[])).2.length:Int)) gs
meta def IJ:ai:=[.mut 1010 2 [(.bf .len [(.ix (.ix (.v 0) (.v 3)) ↑1)])]]
def Lm:ai:=[.asg (.nm 2) ↑1,.fr (.nm 3) (.seq (.v 1)) IJ,.ret (.v 2)]
def HA(m:aE):Prop:=∀(Ds:List Dw) (gs:ae),(∀d∈Ds,d.2.length<=1000)->(∀g∈gs,0<=g/\g<(Ds.length:Int))->m [.fz\(bh .fz Ds),.tup (aq gs)]=ok ↑(md Ds 1 gs)
def QY{Ds:List Dw}{g:Int}(b:0<=g)(c:g<(Ds.length:Int)):xn (bh .fz Ds) g=ok (eY .fz (Ds.getD g.toNat (0,[]))):=by
 have a:g.toNat<Ds.length:=by left
 have:=at_of (ds:=bh .fz Ds) (i:=g) (d:=eY .fz (Ds.getD g.toNat (0,[]))) b (by
  unfold bh;rw[bv,cb a];simp[a])
 rw[this,dA];rfl
def getD_mem{Ds:List Dw}{g:Int}(c:0<=g)(b:g<(Ds.length:Int)):Ds.getD g.toNat (0,[])∈Ds:=by
 have a:g.toNat<Ds.length:=by left
 have:Ds.getD g.toNat (0,[])=Ds[g.toNat]:=by simp[a]
 exact[this]\aa5 a
theorem AW(Φ:aV)(f:Φ 1010=rW){Ds:List Dw}(j:∀d∈Ds,d.2.length<=1000)(c1:aM):∀(gs:ae) (c:Int) (a:aM),(∀g∈gs,0<=g/\g<(Ds.length:Int)) ->
  ∃b,dD (λd ρ=>cw (.nm 3) d ρ) (λρ=>bE Φ IJ ρ) (aq gs) [↥(.fz\(bh .fz Ds)),c1,↥↑c,a]=ok (.nx,[↥(.fz\(bh .fz Ds)),c1,↥↑(md Ds c gs),b])
 |[],c,a,_=>⟨a,rfl⟩
 |g::gs,c,a,h=>by
  ext(⟨l,k⟩:h g aam)(q:QY l k)(r:j _ (getD_mem l k))(⟨b,m⟩:AW Φ f j c1 gs (c*((Ds.getD g.toNat (0,[])).2.length:Int)) ↥↑g λx n=>h x (aap _ n));have en:md Ds c (g::gs)=md Ds (c*((Ds.getD g.toNat (0,[])).2.length:Int)) gs:=rfl;rw[en,yo];generalize Ds.getD g.toNat (0,[])=d at *;have e1:rW [.int c,.int (d.2.length:Int)]=ok ↑(c*(d.2.length:Int)):=abi (z5 c (by rw[zby];left));have o:eY .fz d=.tup [.int d.1,.fz\(bg d.2)]:=rfl;ext(e:xF (Φ:=Φ) (p:=1010) (i:=2) (es:=[(.bf .len [(.ix (.ix (.v 0) (.v 3)) ↑1)])]) (ρ:=[↥(.fz\(bh .fz Ds)),c1,↥↑c,↥↑g]) (xs:=[.int d.2.length]) (by simp[cf,q,o]) ⇑5 rfl ([f]\e1));simp only[Is]at e;refine⟨b,eR (ρ1:=[↥(.fz\(bh .fz Ds)),c1,↥↑c,↥↑g]) ⇑5 (ρ2:=[↥(.fz\(bh .fz Ds)),c1,↥↑(c*(d.2.length:Int)),↥↑g]) ?_ m⟩;rw[IJ,bD,e];rfl
theorem Zr(Φ:aV)(e:Φ 1010=rW):HA (mk Φ 2 4 Lm):=by
 intro d a g f;ext(⟨i,h⟩:AW Φ e g ↥(.tup (aq a)) a 1 none f);have c:cI Φ (.seq (.v 1)) [↥(.fz\(bh .fz d)),↥(.tup (aq a)),↥↑1,none]=ok (aq a,[↥(.fz\(bh .fz d)),↥(.tup (aq a)),↥↑1,none]):=by
  rw[aad (ds:=aq a) ⇑5];simp
 ext(hf:gv (Φ:=Φ) (t:=.nm 3) (b:=IJ) c h);generalize bh .fz d=X at *;simp[mk_eq,Lm,hf]
meta def AJ:CE:=.comp 1 (.nm 0) [] .seq [(.v 1)] [] (.ix (.v 0) ↑0)
meta def GL:CE:=.comp 2 (.tp [0,1]) [1] .seq [(.ix (.v 0) ↑1)] [] (.call 99 [(.v 2),(.v 1)])
def uO:ai:=[.ifs (.cmp .gt (.bf .ju [AJ]) (.glo "MOST_HOUSES" 12)) [.rs 10] [],.ifs (.cmp .gt (.bf .ju [GL]) (.glo "MOST_CHOICES" 500)) [.rs 10] []]
def q_(Ds:List Dw)(gs:af):Int:=(gs.map λr=>md Ds 1 r.2).sum
def W9(Ds:List Dw)(gs:af):Prop:=∀r∈gs,∀g∈r.2,0<=g/\g<(Ds.length:Int)
def yR(Φ:aV){Ds:List Dw}(b:Ds.length<=1000)(f:Fl)(a:aM)(r:aS):aZ Φ AJ (a::↥(.lst f (bh f Ds))::r)=ok (.ow\(aq (Ds.map λd=>(d.1:Int)))):=by
 unfold AJ;rw[cV (xs:=[.lst (bp f) (bh (bp f) Ds)]) (items:=Ds.map (eY (aK (bp f)))) (ds:=Ds.map λd=>.int d.1) (by simp[cf]) (by rw[dj,cf];rfl) (bN λd hd=>⟨[↥(eY (aK (bp f)) d)],by simp[bK],by simp,?_⟩) (by simp;exact cx ⋯)]
 ·simp[aN,aq]
 ·rw[show eY (aK (bp f)) d=.tup [.int d.1,.lst (aK (bp f)) (bg d.2)] from rfl];simp
variable {gs:af}
def Hd(Φ:aV)(c:HA (Φ 99)){n:Nat}{Ds:List Dw}(g:gs.length<=1000)(f:∀d∈Ds,d.2.length<=1000)(G:W9 Ds gs):aZ Φ GL [↥(cB n gs),↥(.fz\(bh .fz Ds))]=ok (.ow\(aq (gs.map λr=>md Ds 1 r.2))):=by
 unfold GL;have a:bY Φ [(.ix (.v 0) ↑1)] [↥(cB n gs),↥(.fz\(bh .fz Ds))]=ok [.fz\(bg gs)]:=by
  rw[show cB n gs=.tup [.int n,.fz\(bg gs)] from rfl];simp
 rw[cV (xs:=[.fz\(bg gs)]) (items:=bg gs) (ds:=gs.map λr=>.int (md Ds 1 r.2)) a (by rw[dj];simp) (bN λr b=>⟨[↥(qD r.1),↥(.tup (aq r.2)),↥(.fz\(bh .fz Ds))],by simp[bK,rD,cf],by simp,?_⟩) (by simp;exact cx ⋯)]
 ·simp[aN,aq]
 ·ext(e:c Ds r.2 f (G r b));simp[cf,e]
def W6(m:aE):Prop:=∀(n:Nat) (gs:af) (Ds:List Dw),gs.length<=1000->Ds.length<=1000->(∀d∈Ds,d.2.length<=1000)->W9 Ds gs->fV Ds<=12->q_ Ds gs<=500->m [cB n gs,.fz\(bh .fz Ds)]=ok .b0
theorem Zt(Φ:aV)(h:HA (Φ 99)):W6 (mk Φ 2 2 uO):=by
 intro n gs a e f i G j g;ext(e1:yR Φ f .fz ↥(cB n gs) [])(e2:Hd Φ h (n:=n) e i G);have c:rg .ju [.ow\(aq (a.map λd=>(d.1:Int)))]=ok ↑(fV a):=wH _ _;have b:rg .ju [.ow\(aq (gs.map λr=>md a 1 r.2))]=ok ↑(q_ a gs):=wH _ _;have c1:¬ (12:Int)<fV a:=by left
 have c2:¬ (500:Int)<q_ a gs:=by left
 generalize cB n gs=Y at *;generalize bh .fz a=X at *;simp[mk_eq,uO,e1,e2,c,b,c1,c2]
meta def Cs:CE:=.comp 2 (.tp [0,1]) [1] .seq [(.ix (.v 3) ↑1)] [] (.tup [(.v 0),(.bf .tuple1 [(.comp 1 (.nm 0) [2] .seq [(.v 1)] [] (.bin .add (.v 1) (.v 0)))])])
def IH:ai:=[.app 2 Cs,.aug 1 true (.ix (.v 3) ↑0)]
def Lg:ai:=[.asg (.nm 1) ↑0,.asg (.nm 2) (.lst []),.fr (.nm 3) (.seq (.v 0)) IH,.ret (.v 2)]
def bJ(f:Fl)(LL:List (af)):aa:=LL.map λa=>.lst f (bg a)
theorem d_(g:Fl->Fl)(f:Fl):∀a:List (af),ak g (bJ f a)=bJ (g f) a
 |[]=>rfl
 |rs::a=>by
  show D.lst (g f) (ak g (bg rs))::ak g (bJ f a)=_;rw[dQ,d_ g f a];rfl
theorem mZ{p:Fl->Bool}{f:Fl}(h:p f=false):∀a:List (af),aQ p (bJ f a)=false
 |[]=>rfl
 |rs::a=>by
  show((p f||aQ p (bg rs))||aQ p (bJ f a))=false;rw[h,jF,mZ h a];rfl
def zJ(f:Fl)(LL:List (af)):(bJ f LL).length=LL.length:=acx ..
def TK(Φ:aV){d:Dw}(i:d.2.length<=1000)(f:∀r∈d.2,r.2.length<=1000)(a:Int)(b c2:aM):aZ Φ Cs [b,↥↑a,c2,↥(eY .fz d)]=ok (.ow\(bg (d.2.map λr=>(r.1,qN a r.2)))):=by
 unfold Cs;have c:bY Φ [(.ix (.v 3) ↑1)] [b,↥↑a,c2,↥(eY .fz d)]=ok [.fz\(bg d.2)]:=by
  rw[show eY .fz d=.tup [.int d.1,.fz\(bg d.2)] from rfl];simp
 rw[cV (xs:=[.fz\(bg d.2)]) (items:=bg d.2) (ds:=bg (d.2.map λr=>(r.1,qN a r.2))) c (by rw[dj];simp) ?_ ([di,zaa]\cx ⋯)]
 ·rw[dQ]
 ·unfold bg;rw[zag];refine bN λr e=>⟨[↥(qD r.1),↥(.tup (aq r.2)),↥↑a],by simp[bK,rD],by simp,?_⟩
  have g:aZ Φ (.comp 1 (.nm 0) [2] .seq [(.v 1)] [] (.bin .add (.v 1) (.v 0))) [↥(qD r.1),↥(.tup (aq r.2)),↥↑a]=ok (.ow\(aq (qN a r.2))):=by
   rw[cV (xs:=[.tup (aq r.2)]) (items:=r.2.map D.int) (ds:=r.2.map λh=>.int (a+h)) ⇑5 (by rw[ua];simp;rfl) (bN λh _=>⟨[↥↑h,↥↑a],by simp[bK],by simp,by simp⟩) (by simp;exact cx (by have:=f r e;left))];simp[aN,aq,qN]
  simp[g];rfl
theorem zM(Φ:aV)(c:aM):∀(Ds:List Dw) (a:Int) (LL:List (af)) (f:aM),LL.length+Ds.length<=1000->(∀d∈Ds,d.2.length<=1000/\∀r∈d.2,r.2.length<=1000) ->
  ∃h g,dD (λd ρ=>cw (.nm 3) d ρ) (λρ=>bE Φ IH ρ) (bh .fz Ds) [c,↥↑a,↥(.ow\(bJ .ow LL)),f]=ok (.nx,[c,h,↥(.ow\(bJ .ow (LL++cO a Ds))),g])
 |[],a,LL,f,_,_=>⟨↥↑a,f,by simp[cO,bh,oG]⟩
 |d::Ds,a,LL,f,hl,hd=>by
  rw[zae]at hl;ext(⟨p,o⟩:hd d aam)(e1:TK Φ p o a c ↥(.ow\(bJ .ow LL)))(⟨h,g,l⟩:zM Φ c Ds (a+d.1) (LL++[d.2.map λr=>(r.1,qN a r.2)]) ↥(eY .fz d) (by simp;left) λx m=>hd x (aap _ m));have t:bJ .ow (LL++[d.2.map λr=>(r.1,qN a r.2)])=bJ .ow LL++[.ow\(bg (d.2.map λr=>(r.1,qN a r.2)))]:=by unfold bJ;rw[zak];rfl
  have s:LL++cO a (d::Ds)=LL++[d.2.map λr=>(r.1,qN a r.2)]++cO (a+d.1) Ds:=by simp[cO]
  have n:(bJ .ow LL).length<cU:=by rw[zJ];show _<1000000;left
  rw[s];refine⟨h,g,eR (ρ1:=[c,↥↑a,↥(.ow\(bJ .ow LL)),↥(eY .fz d)]) ⇑5 (ρ2:=[c,↥↑(a+d.1),↥(.ow\(bJ .ow (LL++[d.2.map λr=>(r.1,qN a r.2)]))),↥(eY .fz d)]) ?_ l⟩;rw[t];have q:HQ (eY .fz d) ↑0=ok ↑d.1:=by rw[show eY .fz d=.tup [.int d.1,.fz\(bg d.2)] from rfl];simp
  have hR:aQ bW (bg (d.2.map λr=>(r.1,qN a r.2)))=false:=jF _ _;generalize bg (d.2.map λr=>(r.1,qN a r.2))=R at *;generalize bJ .ow LL=Y at *;ext(j:SG (Φ:=Φ) (i:=1) (op:=true) (e:=(.ix (.v 3) ↑0)) (ρ:=[c,↥↑a,↥(.ow\(Y++[.ow\R])),↥(eY .fz d)]) (a:=a) (b:=d.1) (by simp[dA,q]) rfl);simp only[Is,if_true]at j;rw[IH,bD];have k:ir Φ (.app 2 Cs) [c,↥↑a,↥(.ow\Y),↥(eY .fz d)]=ok (.nx,[c,↥↑a,↥(.ow\(Y++[.ow\R])),↥(eY .fz d)]):=by
   rw[SH,JW Φ Cs _ rfl,e1];have:cS Cs [c,↥↑a,↥(.ow\Y),↥(eY .fz d)] (ok (.ow\R))=ok (.ow\R,[c,↥↑a,↥(.ow\Y),↥(eY .fz d)]):=by simp[hR]
   rw[this,Ln rfl n];rfl
  rw[k,dq,bD,j];rfl
def W4(m:aE):Prop:=∀a:List Dw,a.length<=1000->(∀d∈a,d.2.length<=1000/\∀r∈d.2,r.2.length<=1000)->m [.fz\(bh .fz a)]=ok (.ow\(bJ .ow (cO 0 a)))
theorem Zm(Φ:aV):W4 (mk Φ 1 4 Lg):=by
 intro a e hd;ext(⟨h,g,d⟩:zM Φ ↥(.fz\(bh .fz a)) a 0 [] none ⇑e hd);rw[zay]at d;have c:cI Φ (.seq (.v 0)) [↥(.fz\(bh .fz a)),↥↑0,↥(.ow\(bJ .ow [])),none]=ok (bh .fz a,[↥(.fz\(bh .fz a)),↥↑0,↥(.ow\(bJ .ow [])),none]):=by
  rw[wj (f:=.fz) (ds:=bh .fz a) (by simp[cf]),cf,m4 (by rfl)];rfl
 ext(hf:gv (Φ:=Φ) (t:=.nm 3) (b:=IH) c d);have e0:bJ .ow []=[]:=rfl;rw[e0]at hf;generalize bh .fz a=X at *;generalize bJ .ow (cO 0 a)=Y at *;simp[mk_eq,Lg,hf,cy]
def B_(a b:ae):aq a++aq b=aq (a++b):=by simp[aq]
def Hn{a b:ae}(h:a.length+b.length<=1000000):dk .add (.tup (aq a)) (.tup (aq b))=ok (.tup (aq (a++b))):=by
 show(if (aq a).length+(aq b).length<=cU then ok (D.tup (ak bp (aq a++aq b)))else none)=_;rw[zac ([rV,rV]\h),B_,gI]
def UN(r:Row):HQ (rD r) ↑0=ok (qD r.1):=by unfold rD;simp
def UM(r:Row):HQ (rD r) ↑1=ok (.tup (aq r.2)):=by unfold rD;simp
meta def wN:CE:=.comp 1 (.nm 0) [5] .seq [(.v 3)] [] (.tup [(.call 6 [(.ix (.v 1) ↑0),(.ix (.v 0) ↑0)]),(.bin .add (.ix (.v 1) ↑1) (.ix (.v 0) ↑1))])
def zE:ai:=[.mut 1013 4 [wN]]
def zD:ai:=[.asg (.nm 4) (.lst []),.fr (.nm 5) (.seq (.v 2)) zE,.asg (.nm 2) (.v 4)]
def Ll:ai:=[.asg (.nm 2) (.lst [(.tup [(.v 0),(.tup [])])]),.fr (.nm 3) (.seq (.v 1)) zD,.ret (.v 2)]
meta def yK(m:Row)(rows:af):af:=rows.map λr=>(m.1*r.1,m.2++r.2)
def Rk(Φ:aV)(n:mh (Φ 6)){k i l j:Nat}{m:Row}{rows:af}(e:Sm k m.1/\m.2.length<=l)(d:y7 i j rows)(g:k<=4000)(h:i<=4000)(f:l+j<=1000)(t:rows.length<=1000)(p c1 c2 o:aM):aZ Φ wN [p,c1,c2,↥(.fz\(bg rows)),o,↥(rD m)]=ok (.ow\(bg (yK m rows))):=by
 unfold wN;rw[cV (xs:=[.fz\(bg rows)]) (items:=bg rows) (ds:=bg (yK m rows)) ⇑5 (by rw[dj];simp) ?_ (by unfold yK;rw[di,zaa];exact cx ⋯)]
 ·rw[dQ]
 ·unfold bg yK;rw[zag];refine bN λr q=>⟨[↥(rD r),↥(rD m)],by simp[bK],by simp,?_⟩
  ext(⟨c,s⟩:d r q)(e1:n m.1 r.1 (e.1.mono g) (c.mono h))(e2:Hn (a:=m.2) (b:=r.2) ⋯);simp[UN,UM,e1,e2];rfl
theorem xf(Φ:aV)(t:mh (Φ 6))(h:Φ 1013=Co){k i l j:Nat}{rows:af}(o:y7 i j rows)(r:k<=4000)(s:i<=4000)(c:l+j<=1000)(q:rows.length<=1000)(b c1 c2:aM):∀(C a:af) (e:aM),y7 k l C->a.length+C.length*rows.length<=1000000 ->
  ∃f,dD (λd ρ=>cw (.nm 5) d ρ) (λρ=>bE Φ zE ρ) (bg C) [b,c1,c2,↥(.fz\(bg rows)),↥(.ow\(bg a)),e]=ok (.nx,[b,c1,c2,↥(.fz\(bg rows)),↥(.ow\(bg (a++cW C rows))),f])
 |[],a,e,_,_=>⟨e,by simp[cW,bg,oG]⟩
 |m::C,a,e,hC,hn=>by
  rw[zae,zbh]at hn;ext(e1:Rk Φ t (hC m aam) o r s c q b c1 c2 ↥(.ow\(bg a)));have n:(yK m rows).length=rows.length:=acx ..;ext(⟨f,u⟩:xf Φ t h o r s c q b c1 c2 C (a++yK m rows) ↥(rD m) (λx v=>hC x (aap _ v)) (by rw[zaf,n];left));have e2:a++cW (m::C) rows=a++yK m rows++cW C rows:=by unfold cW yK;rw[zaR,zai]
  have e3:Φ 1013 [.ow\(bg a),.ow\(bg (yK m rows))]=ok (.ow\(bg (a++yK m rows))):=by
   rw[h];show(if aQ anyF (bg (yK m rows))=false/\(bg a).length+(bg (yK m rows)).length<=cU then ok (D.lst .ow (bg a++bg (yK m rows)))else none)=_;rw[zac ⟨jF _ _,by rw[di,di,n];show _<=1000000;left⟩];unfold bg;rw[zak]
  have g:=xF (Φ:=Φ) (p:=1013) (i:=4) (es:=[wN]) (ρ:=[b,c1,c2,↥(.fz\(bg rows)),↥(.ow\(bg a)),↥(rD m)]) (xs:=[.ow\(bg (yK m rows))]) (by
   show bd (aZ Φ wN _) _=_;rw[e1];rfl) ⇑5 rfl e3
  simp only[Is]at g;rw[e2];refine⟨f,eR (ρ1:=[b,c1,c2,↥(.fz\(bg rows)),↥(.ow\(bg a)),↥(rD m)]) ⇑5 (ρ2:=[b,c1,c2,↥(.fz\(bg rows)),↥(.ow\(bg (a++yK m rows))),↥(rD m)]) ?_ u⟩;rw[zE,bD,g];rfl
theorem w9(Φ:aV)(o:mh (Φ 6))(m:Φ 1013=Co){i j:Nat}(n:i<=4000)(c c1:aM):∀(LL:List (af)) (k l:Nat) (C:af) (g e a:aM),y7 k l C->(∀rs∈LL,y7 i j rs/\rs.length<=1000)->k+LL.length*i<=4000->l+LL.length*j<=1000->OD C.length LL ->
  ∃r E F,dD (λd ρ=>cw (.nm 3) d ρ) (λρ=>bE Φ zD ρ) (bJ .fz LL) [c,c1,↥(.ow\(bg C)),g,e,a]=ok (.nx,[c,c1,↥(.ow\(bg (xd C LL))),r,E,F])
 |[],k,l,C,g,e,a,_,_,_,_,_=>⟨g,e,a,rfl⟩
 |rows::LL,k,l,C,g,e,a,hC,hL,hk,hl,ho=>by
  rw[zae,zbh,R8]at hk hl;ext(⟨p,y⟩:hL rows aam)(⟨G,s⟩:ho)(⟨q,e1⟩:xf Φ o m (k:=k) (l:=l) p ⋯ n ⋯ y c c1 ↥(.fz\(bg C)) C [] a hC (by simp;left));rw[zay]at e1;ext(⟨B,A,z,u⟩:w9 Φ o m n c c1 LL (k+i) (l+j) (cW C rows) ↥(.fz\(bg rows)) none q (wW hC p) (λx w=>hL x (aap _ w)) ⋯ ⋯ ([sA]\s));have h:cI Φ (.seq (.v 2)) [c,c1,↥(.ow\(bg C)),↥(.fz\(bg rows)),↥(.ow\(bg [])),a]=ok (bg C,[c,c1,↥(.fz\(bg C)),↥(.fz\(bg rows)),↥(.ow\(bg [])),a]):=by
   rw[wj (f:=.al) (ds:=bg C) ⇑5];simp[qa,V2]
  ext(hf:gv (Φ:=Φ) (t:=.nm 5) (b:=zE) h e1);refine⟨B,A,z,?_⟩;show dD _ _ (.fz\(bg rows)::bJ .fz LL) _=_;refine eR (ρ1:=[c,c1,↥(.ow\(bg C)),↥(.fz\(bg rows)),e,a]) ⇑5 (ρ2:=[c,c1,↥(.ow\(bg (cW C rows))),↥(.fz\(bg rows)),none,q]) ?_ u;have e0:bg []=[]:=rfl;rw[e0]at hf;generalize bg (cW C rows)=X at *;simp[zD,hf,cy]
def RA(m:aE):Prop:=∀(q:Rat) (LL:List (af)) (k i j:Nat),Sm k q->(∀rs∈LL,y7 i j rs/\rs.length<=1000)->i<=4000->k+LL.length*i<=4000->LL.length*j<=1000->OD 1 LL->m [qD q,.fz\(bJ .fz LL)]=ok (.ow\(bg (xd [(q,[])] LL)))
theorem Zp(Φ:aV)(o:mh (Φ 6))(d:Φ 1013=Co):RA (mk Φ 2 6 Ll):=by
 intro q a k i j g n m l s h;ext(⟨x,w,u,p⟩:w9 Φ o d m ↥(qD q) ↥(.fz\(bJ .fz a)) a k 0 [(q,[])] none none none (λr e=>[am.mp e]\⟨g,aat _⟩) n l ⋯ h);have c:cI Φ (.seq (.v 1)) [↥(qD q),↥(.fz\(bJ .fz a)),↥(.ow\(bg [(q,[])])),none,none,none]=ok (bJ .fz a,[↥(qD q),↥(.fz\(bJ .fz a)),↥(.ow\(bg [(q,[])])),none,none,none]):=by
  rw[wj (f:=.fz) (ds:=bJ .fz a) (by simp[d_]),d_,mZ (by rfl)];rfl
 ext(hf:gv (Φ:=Φ) (t:=.nm 3) (b:=zD) c p);have e0:bg [(q,[])]=[.tup [qD q,.tup []]]:=rfl;rw[e0]at hf;generalize bJ .fz a=X at *;generalize bg (xd [(q,[])] a)=Y at *;simp[mk_eq,Ll,hf,cy]
def SF{p i:Nat}{k e:CE}{kd d x:D}(h:aZ Φ k ρ=ok kd)(g:aZ Φ e (ρ.set i none)=ok d)(f:ρ[i]?=↥↥x)(c:aW anyF kd=false)(b:aW anyF d=false)(a:Φ p [x,kd,d]=ok d'):ir Φ (.mu2 p i k e) ρ=ok (.nx,ρ.set i ↥d'):=by
 show bd (aZ Φ k ρ) (λkd=>bd (aZ Φ e (ρ.set i none)) λd=>EZ Φ p i ρ kd d)=_;rw[h,cP,g,cP];unfold EZ;rw[f];show(if aW anyF kd=false/\aW anyF d=false then bd (Φ p [x,kd,d]) λd'=>ok (Fo.nx,ρ.set i ↥d')else none)=_;rw[zac ⟨c,b⟩,a];rfl
meta def kv(g:ae->bA)(c:ae)(q:Rat):ae->bA:=λk=>if k=c then g k++[q]else g k
theorem vH(g:ae->bA)(c:ae)(q:Rat)(b:(g c).length<cU):∀ks:az,ks.Nodup->(c∉ks->g c=[])->mK ks (ks.map λk=>.ow\(ff (g k))) c (qD q)=↥((bo ks c).map λk=>.ow\(ff (kv g c q k)))
 |[],_,h0=>by
  have e:bo [] c=[c]:=by unfold bo;rw[zab ⇑5];rfl
  have e2:kv g c q c=[q]:=by unfold kv;rw[zac rfl,h0 ⇑5];rfl
  rw[e,zal,e2];rfl
 |k::ks,hn,h0=>by
  ext(⟨h,f⟩:gc.mp hn);show(if k=c then(match EF (.ow\(ff (g k)))with|↥gs=>if gs.length<cU then ↥(.ow\(gs++[qD q])::ks.map λk=>.ow\(ff (g k))) else none|none=>none)else(mK ks (ks.map λk=>.ow\(ff (g k))) c (qD q)).map (D.lst .ow (ff (g k)) :: ·))=_;by_cases e:k=c
  ·subst e;rw[zac rfl];show(if (ff (g k)).length<cU then ↥(D.lst .ow (ff (g k)++[qD q])::ks.map λk=>.ow\(ff (g k))) else none)=_;rw[zac ⇑b];have a:bo (k::ks) k=k::ks:=by unfold bo;rw[zac zbm]
   rw[a,zal];congr 2
   ·unfold kv;rw[zac rfl];simp[ff]
   ·refine aaW λj d=>?_;unfold kv;rw[zab λz:j=k=>h (z▸d)]
  ·rw[zab e,vH g c q b ks f λz=>h0 λm=>(ci.mp m).elim (λw=>e w.symm) z];have a:bo (k::ks) c=k::bo ks c:=by
    unfold bo;by_cases m:c∈ks
    ·rw[zac m,zac (zaS _ m)]
    ·rw[zab m,zab λz=>(ci.mp z).elim (λw=>e w.symm) m];rfl
   rw[a,zal];have e2:kv g c q k=g k:=by unfold kv;rw[zab e]
   rw[e2];rfl
def Nk(f:Fl)(ks:az)(g:ae->bA):D:=.cF f ks (ks.map λk=>.lst f (ff (g k)))
def tZ(m:Fl->Fl)(f:Fl)(ks:az)(g:ae->bA):aI m (Nk f ks g)=Nk (m f) ks g:=by
 show D.cF (m f) ks (ak m (ks.map λk=>.lst f (ff (g k))))=_;rw[aN,zag];congr 1;exact aaW λk _=>by show aI m (.lst f (ff (g k)))=_;simp
def Ko(m:Fl->Bool)(f:Fl)(ks:az)(g:ae->bA)(h:m f=false):aW m (Nk f ks g)=false:=by
 show(m f||aQ m (ks.map λk=>.lst f (ff (g k))))=_;rw[h,dC m (λk=>by simp[h])];rfl
def Ab(a:ae):keyOf (.tup (aq a))=↥a:=bX a
def SV(a:Φ 1201=xP)(hn:ks.Nodup)(d:ks.length<1000)(g:ae->bA)(c:ae)(q:Rat)(e:(g c).length<1000)(b:c∉ks->g c=[]):Φ 1201 [Nk .ow ks g,.tup (aq c),qD q]=ok (Nk .ow (bo ks c) (kv g c q)):=by
 rw[a];show(match keyOf (.tup (aq c))with|↥c=>(match mK ks (ks.map λk=>.ow\(ff (g k))) c (qD q)with|↥ws=>if cy .ow=true/\ks.length<cU then ok (D.cF .ow (bo ks c) ws)else none|none=>none)|none=>none)=_;rw[Ab];show(match mK ks (ks.map λk=>.ow\(ff (g k))) c (qD q)with|↥ws=>if cy .ow=true/\ks.length<cU then ok (D.cF .ow (bo ks c) ws)else none|none=>none)=_;rw[vH g _ q (by show _<1000000;left) ks hn b];exact abi ⟨rfl,by show _<1000000;left⟩
def Ws(a:Φ 1039=yE)(g:ae->bA)(c:ae)(b:c∈ks):Φ 1039 [Nk .fz ks g,.tup (aq c)]=ok (.fz\(ff (g c))):=by
 rw[a];show(match keyOf (.tup (aq c))with|↥c=>(match cA ks (ks.map λk=>D.lst .fz (ff (g k))) c with|↥v=>if aW pE v=false then ok v else none|none=>none)|none=>none)=_;rw[Ab];show(match cA ks (ks.map λk=>D.lst .fz (ff (g k))) c with|↥v=>if aW pE v=false then ok v else none|none=>none)=_;exact[wz (λk=>D.lst .fz (ff (g k))),zac b]\abi (by simp[pE])
def jA(rows:af):az:=rows.foldl (λks r=>bo ks r.2) []
meta def jr(rows:af)(l:ae):bA:=(rows.filter λr=>decide (r.2=l)).map (·.1)
def BU(rows:af)(r:Row):jA (rows++[r])=bo (jA rows) r.2:=by unfold jA;rw[List.foldl_append];rfl
def BG(rows:af)(r:Row):jr (rows++[r])=kv (jr rows) r.2 r.1:=by
 funext l;unfold jr kv;rw[List.filter_append,zak];by_cases h:r.2=l
 ·rw[zac h.symm,List.filter_cons_of_pos ⇑h];rfl
 ·rw[zab λz=>h z.symm,List.filter_cons_of_neg ⇑h];simp
theorem oB:∀(rows:af) (ks:az),ks.Nodup->(rows.foldl (λks r=>bo ks r.2) ks).Nodup/\(∀l,l∈rows.foldl (λks r=>bo ks r.2) ks ↔ l∈ks\/l∈rows.map (·.2))/\(rows.foldl (λks r=>bo ks r.2) ks).length<=ks.length+rows.length
 |[],ks,h=>⟨h,by simp,by simp⟩
 |r::rows,ks,h=>by
  ext(⟨c,b,a⟩:oB rows (bo ks r.2) (FA h r.2));refine⟨c,λl=>?_,?_⟩
  ·show l∈rows.foldl _ (bo ks r.2) ↔ _;rw[b l,BR,zal,zau,or_assoc]
  ·have:=BS ks r.2;exact[zae]\aav a ⋯
def JU(rows:af):(jA rows).Nodup:=(oB rows [] acG).1
def FC(rows:af)(l:ae):l∈jA rows ↔ l∈rows.map (·.2):=by
 have:=(oB rows [] acG).2.1 l;simpa [jA]using this
def wd(rows:af):(jA rows).length<=rows.length:=by simpa [jA]using (oB rows [] yae).2.2
def Ek{rows:af}{l:ae}(h:l∉jA rows):jr rows l=[]:=by
 unfold jr;rw[P5,zbV];intro r a e;exact h ((FC rows l).mpr ([-of_decide_eq_true e]\abD a))
def Em(rows:af)(l:ae):(jr rows l).length<=rows.length:=by unfold jr;exact[zaa]\MN ..
meta def zB:ai:=[.mu2 1201 3 (.v 7) (.v 6)]
def kl(f:Fl)(rows:af):D:=Nk f (jA rows) (jr rows)
theorem wO(Φ:aV)(n:Φ 1201=xP)(c c1 c2 b a:aM):∀(rs pr:af) (g f:aM),pr.length+rs.length<1000 ->
  ∃j l,dD (λd ρ=>cw (.tp [6,7]) d ρ) (λρ=>bE Φ zB ρ) (bg rs) [c,c1,c2,↥(kl .ow pr),b,a,g,f]=ok (.nx,[c,c1,c2,↥(kl .ow (pr++rs)),b,a,j,l])
 |[],pr,g,f,_=>⟨g,f,by simp[bg,oG]⟩
 |r::rs,pr,g,f,hl=>by
  rw[zae]at hl;ext(⟨j,l,o⟩:wO Φ n c c1 c2 b a rs (pr++[r]) ↥(qD r.1) ↥(.tup (aq r.2)) (by simp;left));rw[zai,zbY]at o;ext(e1:SV n (JU pr) (by have:=wd pr;left) (jr pr) r.2 r.1 (by have:=Em pr r.2;left) λh=>Ek h);rw[<- BU,<- BG]at e1;ext(m:SF (Φ:=Φ) (p:=1201) (i:=3) (k:=.v 7) (e:=.v 6) (ρ:=[c,c1,c2,↥(kl .ow pr),b,a,↥(qD r.1),↥(.tup (aq r.2))]) (kd:=.tup (aq r.2)) (d:=qD r.1) ⇑5 ⇑5 rfl ⇑5 ⇑5 e1);simp only[Is]at m;refine⟨j,l,eR (ρ1:=[c,c1,c2,↥(kl .ow pr),b,a,↥(qD r.1),↥(.tup (aq r.2))]) (by simp[rD]) (ρ2:=[c,c1,c2,↥(kl .ow (pr++[r])),b,a,↥(qD r.1),↥(.tup (aq r.2))]) ?_ o⟩;rw[zB,bD,m];rfl
meta def nI:CE:=.comp 1 (.nm 0) [2] .seq [(.v 5)] [] (.ix (.v 1) (.v 0))
def zC:ai:=[.fr (.tp [6,7]) (.seq (.call 101 [(.v 4),nI])) zB]
meta def dJ(LL:List (af))(gs:ae):List (af):=gs.map λg=>LL.getD g.toNat []
theorem QZ(Φ:aV){LL:List (af)}{gs:ae}(c:∀g∈gs,0<=g/\g<(LL.length:Int))(a:gs.length<=1000)(m c1 l k:aM)(r:aS):aZ Φ nI (m::c1::↥(.ow\(bJ .ow LL))::l::k::↥(.tup (aq gs))::r)=ok (.ow\(bJ .al (dJ LL gs))):=by
 unfold nI;have h:bJ .fz (dJ LL gs)=gs.map λg=>D.lst .fz (bg (LL.getD g.toNat [])):=by unfold bJ dJ;rw[zag];rfl
 rw[cV (xs:=[.tup (aq gs)]) (items:=gs.map D.int) (ds:=bJ .fz (dJ LL gs)) ⇑5 (by rw[ua];simp;rfl) ?_ (by unfold dJ;rw[zJ,zaa];exact cx ⋯)]
 ·rw[d_];rfl
 ·rw[h];refine bN λg n=>⟨[↥↑g,↥(.fz\(bJ .fz LL))],by simp[bK,d_],by simp,?_⟩
  ext(⟨f,o⟩:c g n);have a:g.toNat<LL.length:=by left
  have j:=at_of (ds:=bJ .fz LL) (i:=g) (d:=.fz\(bg (LL.getD g.toNat []))) f (by unfold bJ;rw[bv,cb a];simp[a]);generalize e:bJ .fz LL=X at *;have b:ak bp X=X:=by rw[<- e,d_];rfl
  simp[b,j]
def allR(LL:List (af))(gs:af):af:=gs.flatMap λr=>xd [(r.1,[])] (dJ LL r.2)
structure W2(LL:List (af))(gs:af):Prop where
 ix:∀r∈gs,∀g∈r.2,0<=g/\g<(LL.length:Int)
 sm:∀r∈gs,Sm 6 r.1/\r.2.length<=12
 oc:∀r∈gs,OD 1 (dJ LL r.2)
 ly:∀rs∈LL,y7 6 12 rs/\rs.length<=1000
 ln:(allR LL gs).length<900
def W2.tail{LL:List (af)}{r:Row}(W:W2 LL (r::gs)):W2 LL gs:=⟨λx a=>W.ix x (aap _ a),λx a=>W.sm x (aap _ a),λx a=>W.oc x (aap _ a),W.ly,by
 have:=W.ln;unfold allR at *;rw[zaR,zaf]at this;left⟩
def Es{LL:List (af)}{gs:ae}(b:∀g∈gs,0<=g/\g<(LL.length:Int)){rs:af}(h:rs∈dJ LL gs):rs∈LL:=by
 ext(⟨g,c,rfl⟩:dz.mp h)(⟨e,d⟩:b g c);have a:g.toNat<LL.length:=by left
 have:LL.getD g.toNat []=LL[g.toNat]:=by simp[a]
 exact[this]\aa5 a
theorem wQ(Φ:aV)(o:RA (Φ 101))(j:Φ 1201=xP){LL:List (af)}(e c1:aM):∀(gs pr:af) (g f c a:aM),W2 LL gs->pr.length+(allR LL gs).length<1000 ->
  ∃B G E F,dD (λd ρ=>cw (.tp [4,5]) d ρ) (λρ=>bE Φ zC ρ) (bg gs) [e,c1,↥(.ow\(bJ .ow LL)),↥(kl .ow pr),g,f,c,a]=ok (.nx,[e,c1,↥(.ow\(bJ .ow LL)),↥(kl .ow (pr++allR LL gs)),B,G,E,F])
 |[],pr,g,f,c,a,_,_=>⟨g,f,c,a,by simp[bg,oG,allR]⟩
 |r::gs,pr,g,f,c,a,W,hl=>by
  have k:allR LL (r::gs)=xd [(r.1,[])] (dJ LL r.2)++allR LL gs:=by unfold allR;rw[zaR]
  rw[k,zaf]at hl;ext(n:W.ix r aam)(⟨p,I⟩:W.sm r aam)(e3:QZ Φ n ⋯ e c1 ↥(kl .ow pr) ↥(qD r.1) [c,a]);have i:(dJ LL r.2).length=r.2.length:=acx ..;ext(e4:o r.1 (dJ LL r.2) 6 6 12 p (λq H=>W.ly q (Es n H)) ⇑4 (by rw[i];left) (by rw[i];left) (W.oc r aam))(⟨m,l,e5⟩:wO Φ j e c1 ↥(.ow\(bJ .ow LL)) ↥(qD r.1) ↥(.tup (aq r.2)) (xd [(r.1,[])] (dJ LL r.2)) pr c a ⋯)(⟨A,z,y,w,u⟩:wQ Φ o j e c1 gs (pr++xd [(r.1,[])] (dJ LL r.2)) ↥(qD r.1) ↥(.tup (aq r.2)) m l W.tail (by rw[zaf];left));rw[k,<- zai];generalize xd [(r.1,[])] (dJ LL r.2)=Z at *;have C:aZ Φ (.call 101 [(.v 4),nI]) [e,c1,↥(.ow\(bJ .ow LL)),↥(kl .ow pr),↥(qD r.1),↥(.tup (aq r.2)),c,a]=ok (.ow\(bg Z)):=by
   show bd (bY Φ [(.v 4),nI] _) _=_;have:bY Φ [(.v 4),nI] [e,c1,↥(.ow\(bJ .ow LL)),↥(kl .ow pr),↥(qD r.1),↥(.tup (aq r.2)),c,a]=ok [qD r.1,.ow\(bJ .al (dJ LL r.2))]:=by
    show bd (aZ Φ (.v 4) _) (λx=>bd (bd (aZ Φ nI _) λx=>bd (ok []) λxs=>ok (x::xs)) λxs=>ok (x::xs))=_;rw[e3];simp
   rw[this,cP];have s:ak aK [qD r.1,.ow\(bJ .al (dJ LL r.2))]=[qD r.1,.fz\(bJ .fz (dJ LL r.2))]:=by
    rw[pJ,pJ,Fg];show[qD r.1,D.lst .fz (ak aK (bJ .al (dJ LL r.2)))]=_;rw[d_];rfl
   rw[s,e4]
   first|rfl|simp
  have h:cI Φ (.seq (.call 101 [(.v 4),nI])) [e,c1,↥(.ow\(bJ .ow LL)),↥(kl .ow pr),↥(qD r.1),↥(.tup (aq r.2)),c,a]=ok (bg Z,[e,c1,↥(.ow\(bJ .ow LL)),↥(kl .ow pr),↥(qD r.1),↥(.tup (aq r.2)),c,a]):=by
   rw[wj C];simp
  ext(hf:gv (Φ:=Φ) (t:=.tp [6,7]) (b:=zB) h e5);refine⟨A,z,y,w,eR (ρ1:=[e,c1,↥(.ow\(bJ .ow LL)),↥(kl .ow pr),↥(qD r.1),↥(.tup (aq r.2)),c,a]) (by simp[rD]) (ρ2:=[e,c1,↥(.ow\(bJ .ow LL)),↥(kl .ow (pr++Z)),↥(qD r.1),↥(.tup (aq r.2)),m,l]) ?_ u⟩;rw[zC,bD,hf];rfl
end DI
end
section
set_option maxHeartbeats 1000000
namespace DI
open PySem (Str)
meta def BI(d:D):Bool:=match d with
 |.tup (.int a::_)=>decide (0<a)
 |_=>false
def eM(n:Int)(d:D):Bool:=match d with
 |.tup [c,l]=>bH l n&&(eA c&&BI c)
 |_=>false
def CD(d:D):Prop:=match d with
 |.tup [_,l]=>uG l
 |_=>True
def uS(m:aE):Prop:=∀d (n:Int),CD d->m [d,.int n]=ok (.bl (eM n d))
variable {ds:aa}
def zp(h:ds.length=2):∃x y,ds=[x,y]:=by
 match ds,h with
 |[x,y],_=>exact⟨x,y,rfl⟩
def D5{n:Int}(h:ds.length≠2):eM n (.tup ds)=false:=by
 unfold eM
 match ds,h with
 |[],_=>rfl
 |[_],_=>rfl
 |[_,_],h=>exact absurd rfl h
 |_::_::_::_,_=>rfl
def N5(Φ:aV)(k:kG (Φ 3))(e:iY (Φ 43)):uS (mk Φ 2 2 eL):=by
 intro d n j;have b:∀ds,eC .tuple (.tup ds)=true:=λ_=>rfl;have f:eC .tuple d=false->mk Φ 2 2 eL [d,.int n]=ok (.bl false):=λh=>by simp[mk_eq,eL,h]
 cases d with
 |tup ds =>
  clear f;by_cases g:ds.length=2
  ·ext(⟨c,l,rfl⟩:zp g)(e1:e (aI aK (aI bp (aI bp l))) n (iD (iD (iD (show uG l from j)))));rw[eJ,eJ,eJ]at e1;ext(e2:k (aI aK (aI bp (aI bp c))));rw[kU,kU,kU]at e2;cases a:bH l n with
   |false=>rw[a]at e1;simp[mk_eq,eL,b,e1,eM,a]
   |true =>
    rw[a]at e1;cases hf:eA c with
    |false=>rw[hf]at e2;simp[mk_eq,eL,b,e1,e2,eM,a,hf]
    |true =>
     ext(⟨q,rfl⟩:wD hf);rw[hf]at e2;have e4:qD q=.tup [.int q.num,.int q.den]:=rfl;simp at e2;simp[mk_eq,eL,b,e1,e2,eM,a,hf];simp[e4,BI]
  ·have i:¬ (ds.length:Int)=2:=by left
   simp[mk_eq,eL,b,i,D5 g,aN]
 |_=>exact f rfl
def dG(d:D):Row:=match d with
 |.tup [.tup [.int a,.int b],.tup ds]=>(ei a b,numsOf ds)
 |_=>(0,[])
protected def Jh{n:Nat}{d:D}(h:eM n d=true):d=rD (dG d)/\0<(dG d).1/\bH (.tup (aq (dG d).2)) n=true:=by
 unfold eM at h;split at h
 ·rename_i c l;rw[zah,zah]at h;ext(⟨a,i,g⟩:h)(⟨q,rfl⟩:wD i);cases l with
  |tup ds =>
   have j:=a;unfold bH at a;rw[zah]at a;ext(⟨f,rfl⟩:fj a.1);have e:dG (.tup [qD q,.tup (aq f)])=(q,f):=by
    show(ei q.num q.den,numsOf (aq f))=_;rw[mP,fg]
   rw[e];refine⟨rfl,?_,j⟩;have:0<q.num:=aag g;have:=k7 (t:=q.num) (b:=q.den) this (by have:=L5 q;left)
   rwa [mP]at this
  |_=>simp[bH]at a
 ·cases h
def Jg{n:Nat}{rows:aa}(h:rows.all (eM n)=true):rows=bg (rows.map dG):=by
 unfold bg;rw[zag]
 conv=>lhs;rw[<- B1 rows]
 refine aaW λd hd=>?_;exact(Jh (fu.mp h d hd)).1
def fI:az->Bool
 |a::b::l=>HT.lexLt a b&&fI (b::l)
 |_=>true
def uT(m:aE):Prop:=∀a:af,m [.fz\(bg a)]=ok (.bl (fI (a.map (·.2))))
def VZ{Φ:aV}(c:Φ 1022=Sh)(a b:ae):Φ 1022 [.tup (aq a),.tup (aq b)]=ok (.bl (!HT.lexLt a b)):=by
 rw[c];show(match intsOf (aq a)with|↥ns=>(match intsOf (aq b)with|↥ms=>ok (D.bl (!HT.lexLt ns ms))|none=>none)|none=>none)=_;unfold aq;rw[bX,bX]
theorem vJ(Φ:aV)(f:Φ 1022=Sh)(b:aM):∀(rs:af) (r:Row) (c1 c2:aM),
  ∃a,dD (λd c=>cw (.tp [1,2]) d c) (λc=>bE Φ Bo c) (f8 (λx y=>D.tup [x,y]) (bg (r::rs)) (bg rs)) [b,c1,c2]=ok (if fI ((r::rs).map (·.2))then .nx else .rt (.bl false),a)
 |[],r,c1,c2=>⟨_,rfl⟩
 |s::rs,r,c1,c2=>by
  ext(e:VZ f r.2 s.2);have e1:∀r:Row,rD r=.tup [qD r.1,.tup (aq r.2)]:=λ_=>rfl;have g:fI ((r::s::rs).map (·.2))=(HT.lexLt r.2 s.2&&fI ((s::rs).map (·.2))):=rfl;cases h:HT.lexLt r.2 s.2 with
  |true =>
   ext(⟨a,i⟩:vJ Φ f b rs s ↥(rD r) ↥(rD s));refine⟨a,?_⟩;rw[g,h,zbz,<- i];rw[h]at e;exact eR (ρ1:=[b,↥(rD r),↥(rD s)]) ⇑5 (ρ2:=[b,↥(rD r),↥(rD s)]) (by simp[Bo,e1,e]) rfl
  |false =>
   refine⟨[b,↥(rD r),↥(rD s)],?_⟩;rw[g,h,zaJ];rw[h]at e;exact Gq (ρ1:=[b,↥(rD r),↥(rD s)]) ⇑5 (by simp[Bo,e1,e])
def Jc(Φ:aV)(k:Φ 1000=Ii)(j:Φ 1020=cutD true)(i:Φ 1022=Sh):uT (mk Φ 1 3 fm):=by
 intro a;have e1:Φ 1020 [.fz\(bg a),.int 1]=ok (.ow\(bg (a.drop 1))):=by
  rw[j];show(if (0:Int)<=1 then ok (D.lst .ow (ak bp (iy true (1:Int).toNat (bg a))))else none)=_;rw[zac ⇑4];show ok (D.lst .ow (ak bp ((bg a).drop 1)))=_;rw[show(bg a).drop 1=bg (a.drop 1) by simp[bg,zbB]];simp
 have e2:Φ 1000 [.fz\(bg a),.ow\(bg (a.drop 1))]=ok (.ow\(f8 (λx y=>D.tup [x,y]) (bg a) (bg (a.drop 1)))):=by rw[k];rfl
 have e3:ak aK (f8 (λx y=>D.tup [x,y]) (bg a) (bg (a.drop 1)))=f8 (λx y=>D.tup [x,y]) (bg a) (bg (a.drop 1)):=by
  have:=gG aK (bg a) (bg (a.drop 1));rw[dQ,dQ]at this;exact this
 have g:cI Φ (.Ml 1000 [(.v 0),(.cM 1020 [(.v 0),↑1])]) [↥(.fz\(bg a)),none,none]=ok (f8 (λx y=>D.tup [x,y]) (bg a) (bg (a.drop 1)),[↥(.fz\(bg a)),none,none]):=by
  show bd (bY Φ [(.v 0),(.cM 1020 [(.v 0),↑1])] [↥(.fz\(bg a)),none,none]) _=_;have:bY Φ [(.v 0),(.cM 1020 [(.v 0),↑1])] [↥(.fz\(bg a)),none,none]=ok [.fz\(bg a),.ow\(bg (a.drop 1))]:=by simp[e1]
  rw[this,cP,e2,cP];show ok (ak aK (f8 (λx y=>D.tup [x,y]) (bg a) (bg (a.drop 1))),if aQ bW [D.lst .fz (bg a),.ow\(bg (a.drop 1))]then _ else _)=_;rw[e3];simp
 obtain⟨c,e⟩:∃c,dD (λd f=>cw (.tp [1,2]) d f) (λf=>bE Φ Bo f) (f8 (λx y=>D.tup [x,y]) (bg a) (bg (a.drop 1))) [↥(.fz\(bg a)),none,none]=ok (if fI (a.map (·.2))then .nx else .rt (.bl false),c):=by
  cases a with
  |nil=>exact⟨_,rfl⟩
  |cons r a=>exact vJ Φ i _ a r none none
 ext(hf:gv (Φ:=Φ) (t:=.tp [1,2]) (b:=Bo) g e);cases h:fI (a.map (·.2))with
 |true=>rw[h]at hf;simp at hf;simp[mk_eq,fm,hf]
 |false=>rw[h]at hf;simp at hf;simp[mk_eq,fm,hf]
def y8(m:aE):Prop:=∀(rs:af) k,xC k (gg rs)->m [.fz\(bg rs)]=ok (.bl (decide ((gg rs).sum=1)))
theorem DC{b:Nat}{a:bA}(d:0<b)(h:∀q∈a,q.den∣b):(a.map (fK b)).sum=(b:Int) ↔ a.sum=1:=by
 refine⟨λe=>?_,DB h⟩;have:=lK h;rw[e]at this;have c:((b:Int):Rat)≠0:=by
  intro z;have:=Zi.mp (z.trans Rat.intCast_zero.symm);left
 rw[zaF]at this c;generalize (b:Rat)=x at *;grind
theorem N4(Φ:aV)(d:sP (Φ 14)):y8 (mk Φ 1 2 eZ):=by
 intro a k c;have h:a.length<=1000:=by have:=c.len;simpa [gg]using this
 ext(e1:d a k c);have e:=c.lcm;ext(e2:DC e.1 e.2.2);generalize ko (gg a)=b at *;have e3:∀f,aZ Φ QV [f,↥(.tup [.int b,.ow\(Il b a)])]=ok (.ow\(aq ((gg a).map (fK b)))):=λf=>by
  unfold QV;rw[cV (xs:=[.al\(Il b a)]) (items:=Il b a) (ds:=a.map λr=>.int (fK b r.1)) ⇑5 (by rw[dj];simp) (bN λr g=>?_) (by simp;exact cx ⋯)]
  ·simp[aq,gg,aN]
  ·exact⟨[↥↑(fK b r.1),↥(.tup (aq r.2))],by simp[bK],by simp,by simp⟩
 have e4:rg .ju [.ow\(aq ((gg a).map (fK b)))]=ok ↑((gg a).map (fK b)).sum:=by
  show(match intsOf (aq ((gg a).map (fK b)))with|↥ns=>ok (D.int ns.sum)|none=>none)=_;unfold aq;rw[bX]
 have e5:∀x y:Int,jH .eq ↑x ↑y=ok (.bl (x==y)):=λx y=>rfl;have e6:(((gg a).map (fK b)).sum==(b:Int))=decide ((gg a).sum=1):=by
  exact[zbR,beq_iff_eq,decide_eq_true_iff]\e2
 simp[mk_eq,eZ,e1,e3,e4,e5,e6]
structure Fz(d:D):Prop where
 fz:aI aK d=d
 al:aI bp d=d
 ow:aW cy d=false
mutual
theorem fT(g h:Fl->Fl):∀d:D,aI g (aI h d)=aI (λf=>g (h f)) d
 |.tup ds=>by rw[aI,aI,aI,gH g h ds]
 |.lst f ds=>by rw[aI,aI,aI,gH g h ds]
 |.cF f a ds=>by rw[aI,aI,aI,gH g h ds]
 |.b0=>rfl
 |.bl _=>rfl
 |.int _=>rfl
 |.str _=>rfl
theorem gH(g h:Fl->Fl):∀ds:aa,ak g (ak h ds)=ak (λf=>g (h f)) ds
 |[]=>rfl
 |d::ds=>by rw[ak,ak,ak,fT g h d,gH g h ds]
end
def Gn(d:D):aI aK (aI bp d)=aI aK d:=by
 rw[fT];congr 1;funext f;cases f<;>rfl
def At(ρ:aS)(i:Nat)(Y:D):Prop:=∃y,ρ[i]?=↥↥y/\aI aK y=Y
def b_(Φ:aV)(e:CE)(ρ:aS)(Y:D):Prop:=∃d,aZ Φ e ρ=ok d/\aI aK d=Y
def bP(Φ:aV)(es:aA)(ρ:aS)(Ys:aa):Prop:=∃ds,bY Φ es ρ=ok ds/\ak aK ds=Ys
def p8(d:D):aI aK (aI aK d)=aI aK d:=by
 rw[fT];congr 1;funext f;cases f<;>rfl
def ur(d:D):aI aK (aI fC d)=aI aK d:=by
 rw[fT];congr 1;funext f;cases f<;>rfl
def WT(d:D):aI bp (aI aK d)=aI aK d:=by
 rw[fT];congr 1;funext f;cases f<;>rfl
mutual
theorem Ms:∀d:D,aW cy (aI aK d)=false
 |.tup ds=>tR ds
 |.lst f ds=>by
  show(cy (aK f)||aQ cy (ak aK ds))=false;rw[tR ds];cases f<;>rfl
 |.cF f a ds=>by
  show(cy (aK f)||aQ cy (ak aK ds))=false;rw[tR ds];cases f<;>rfl
 |.b0=>rfl
 |.bl _=>rfl
 |.int _=>rfl
 |.str _=>rfl
theorem tR:∀ds:aa,aQ cy (ak aK ds)=false
 |[]=>rfl
 |d::ds=>by
  show(aW cy (aI aK d)||aQ cy (ak aK ds))=false;rw[Ms d,tR ds];rfl
end
def Ar(d:D):Fz (aI aK d):=⟨p8 d,WT d,Ms d⟩
def At.fz{ρ:aS}{i:Nat}{Y:D}(h:At ρ i Y):Fz Y:=by
 ext(⟨y,_,rfl⟩:h);exact Ar y
variable {f:Fl}
section
variable {Φ:aV}{ρ:aS}{e a b:CE}{es:aA}{Y:D}{Ys:aa}
theorem At.v{i:Nat}(h:At ρ i Y):b_ Φ (.v i) ρ Y:=by
 ext(⟨y,d,c⟩:h);exact⟨aI bp y,by rw[e_v,d];rfl,by rw[Gn,c]⟩
def b_.i{z:Int}(h:b_ Φ e ρ ↑z):aZ Φ e ρ=ok ↑z:=by
 ext(⟨d,g,c⟩:h);cases d<;>first | (cases c;exact g)|cases c
def b_.s{z:Str}(h:b_ Φ e ρ (.str z)):aZ Φ e ρ=ok (.str z):=by
 ext(⟨d,g,c⟩:h);cases d<;>first | (cases c;exact g)|cases c
def bP.nil:bP Φ [] ρ []:=⟨[],rfl,rfl⟩
def bP.cons(h:b_ Φ e ρ Y)(t:bP Φ es ρ Ys):bP Φ (e::es) ρ (Y::Ys):=by
 ext(⟨d,g,rfl⟩:h)(⟨ds,c,rfl⟩:t);exact⟨d::ds,by rw[bL,g,c];rfl,rfl⟩
theorem bP.tup(h:bP Φ es ρ Ys):b_ Φ (.tup es) ρ (.tup Ys):=by
 ext(⟨ds,c,rfl⟩:h);exact⟨.tup ds,by rw[MV,c];rfl,rfl⟩
theorem bP.lst(h:bP Φ es ρ Ys):b_ Φ (.lst es) ρ (.fz\Ys):=by
 ext(⟨ds,c,rfl⟩:h);exact⟨.ow\ds,by rw[Wi,c];rfl,rfl⟩
theorem bP.call{f:Nat}{r:D}(h:bP Φ es ρ Ys)(hf:Φ f Ys=ok r):b_ Φ (.call f es) ρ (aI aK r):=by
 ext(⟨ds,c,rfl⟩:h);refine⟨aI fC r,?_,ur r⟩;rw[m7,c];show bd (Φ f (ak aK ds)) _=_;rw[hf];rfl
def b_.tupI(h:b_ Φ e ρ (.tup Ys)):∃ds,aZ Φ e ρ=ok (.tup ds)/\ak aK ds=Ys:=by
 ext(⟨d,g,c⟩:h);cases d<;>first | (cases c;exact⟨_,g,rfl⟩)|cases c
def b_.t5(h:b_ Φ e ρ (.lst f Ys)):∃g ds,aZ Φ e ρ=ok (.lst g ds)/\ak aK ds=Ys/\aK g=f:=by
 ext(⟨d,i,c⟩:h);cases d<;>first | (cases c;exact⟨_,_,i,rfl,rfl⟩)|cases c
def M9{j:Nat}(c:(ak aK ds)[j]?=↥Y):∃d,xn ds (j:Int)=ok d/\aI aK d=Y:=by
 rw[aN,bv]at c;cases hd:ds[j]? with
 |none=>rw[hd]at c;cases c
 |some x =>
  rw[hd]at c;cases c;exact⟨aI bp x,at_of ⋯ ([zao]\hd),Gn x⟩
def b_.Z7{j:Nat}(h:b_ Φ a ρ (.tup Ys))(g:aZ Φ b ρ=ok ↑j)(c:Ys[j]?=↥Y):b_ Φ (.ix a b) ρ Y:=by
 ext(⟨ds,l,rfl⟩:h.tupI)(⟨d,k,i⟩:M9 c);exact⟨d,[Wj,l,g]\k,i⟩
def b_.Z9{j:Nat}(h:b_ Φ a ρ (.lst f Ys))(i:aZ Φ b ρ=ok ↑j)(c:Ys[j]?=↥Y):b_ Φ (.ix a b) ρ Y:=by
 ext(⟨g,ds,m,rfl,_⟩:h.t5)(⟨d,l,k⟩:M9 c);exact⟨d,[Wj,m,i]\l,k⟩
theorem b_.len{f:Fl}(h:b_ Φ a ρ (.lst f Ys)):aZ Φ (.bf .len [a]) ρ=ok ↑Ys.length:=by
 ext(⟨g,ds,c,rfl,_⟩:h.t5);rw[Ct,bL,c];show ok (D.int (ds.length:Int))=_;rw[aN,zaa]
def iq(ds:aa):ak aK (ak bp ds)=ak aK ds:=by
 exact[aN,aN,aN,zag]\aaW λd _=>Gn d
def b_.cat{g:Fl}{Zs:aa}(i:b_ Φ a ρ (.lst f Ys))(h:b_ Φ b ρ (.lst g Zs))(hf:ub f=false)(d:ub g=false)(c:Ys.length+Zs.length<=1000):b_ Φ (.bin .add a b) ρ (.fz\(Ys++Zs)):=by
 ext(⟨k,ds,e1,rfl,rfl⟩:i.t5)(⟨j,es,e2,rfl,rfl⟩:h.t5);rw[aN,aN,zaa,zaa]at c;refine⟨.ow\(ak bp (ds++es)),?_,?_⟩
 ·exact[GN,e1,e2]\abi ⟨by cases k<;>first|rfl|exact hf,by cases j<;>first|rfl|exact d,by show _<=1000000;left⟩
 ·show D.lst .fz (ak aK (ak bp (ds++es)))=_;rw[iq,aN,aN,aN,zak]
def b_.SU(h:b_ Φ a ρ (.lst f Ys)):b_ Φ (.bf .tuple1 [a]) ρ (.tup Ys):=by
 ext(⟨g,ds,c,rfl,_⟩:h.t5);exact⟨.tup (ak bp ds),by rw[Ct,bL,c];rfl,aa2 D.tup (iq ds)⟩
def b_.ZY(h:b_ Φ a ρ (.tup Ys)):b_ Φ (.bf .list1 [a]) ρ (.fz\Ys):=by
 ext(⟨ds,c,rfl⟩:h.tupI);exact⟨.ow\(ak bp ds),by rw[Ct,bL,c];rfl,aa2 (D.lst .fz) (iq ds)⟩
def yW(h:b_ Φ e ρ Y)(i:US e=false):∃d c,ir Φ (.ret e) ρ=ok (.rt d,c)/\aI aK d=Y:=by
 ext(⟨d,j,rfl⟩:h);rw[Dg,JW Φ e ρ i,j];cases g:aW bW d with
 |false=>exact[fi g]\⟨d,_,rfl,rfl⟩
 |true=>exact[pQ g]\⟨_,_,rfl,p8 d⟩
def f_{op:Bb}{x y z:D}(g:aZ Φ a ρ=ok x)(d:aZ Φ b ρ=ok y)(c:dk op x y=ok z):aZ Φ (.bin op a b) ρ=ok z:=by
 exact[GN,g,d]\c
def uw{op:C_}{x y z:D}(g:aZ Φ a ρ=ok x)(d:aZ Φ b ρ=ok y)(c:jH op x y=ok z):aZ Φ (.cmp op a b) ρ=ok z:=by
 exact[Wo,g,d]\c
def Rt{i:Nat}(h:b_ Φ e ρ Y)(q:US e=false)(l:i<ρ.length):∃c,ir Φ (.asg (.nm i) e) ρ=ok (.nx,c)/\c.length=ρ.length/\At c i Y/\∀j Z,j≠i->At ρ j Z->At c j Z:=by
 ext(⟨d,g,rfl⟩:h);rw[ze,JW Φ e ρ q,g];cases p:aW bW d with
 |false =>
  rw[fi p,oR l];refine⟨_,rfl,X2 ..,⟨d,acf l,rfl⟩,λj Z k ⟨y,g,m⟩=>⟨y,[ce (ja k)]\g,m⟩⟩
 |true =>
  have e0:cS e ρ (ok d)=ok (aI aK d,iF (gJ e) ρ):=by rw[pQ p,p_]
  have n:(iF (gJ e) ρ).length=ρ.length:=by unfold iF;rw[Sg]
  rw[e0,oR ([n]\l)];refine⟨_,rfl,by rw[zba,n],⟨aI aK d,acf ([n]\l),p8 d⟩,λj Z k ⟨y,g,m⟩=>?_⟩;by_cases o:j∈gJ e
  ·refine⟨aI aK y,?_,by rw[p8,m]⟩;rw[ce (ja k)];unfold iF;rw[kC,g];show ↥(if j∈gJ e then _ else _)=_;rw[zac o];rfl
  ·refine⟨y,?_,m⟩;rw[ce (ja k)];unfold iF;rw[kC,g];show ↥(if j∈gJ e then _ else _)=_;rw[zab o]
def Go(Φ:aV)(d:ai)(ρ:aS)(Q:aS->Prop):Prop:=∃c,bE Φ d ρ=ok (.nx,c)/\Q c
variable {ss:ai}{Q:aS->Prop}
def Go.nil(h:Q ρ):Go Φ [] ρ Q:=⟨ρ,rfl,h⟩
def Go.cons{s:CS}{ρ1:aS}(h:ir Φ s ρ=ok (.nx,ρ1))(k:Go Φ ss ρ1 Q):Go Φ (s::ss) ρ Q:=by
 ext(⟨c,g,d⟩:k);exact⟨c,[bD,h]\g,d⟩
def mv(n:Nat)(l:List (Nat×D))(ρ:aS):Prop:=ρ.length=n/\bM (λp:Nat×D=>At ρ p.1 p.2) l
theorem yV{i:Nat}{ρ':aS}(k:∀j Z,j≠i->At ρ j Z->At ρ' j Z):∀{l:List (Nat×D)},bM (λp:Nat×D=>At ρ p.1 p.2) l->(l.all λp=>p.1 != i)=true->bM (λp:Nat×D=>At ρ' p.1 p.2) l
 |[],_,_=>trivial
 |p::l,h,e=>by
  rw[zas,zah]at e;exact⟨k _ _ ⇑e.1 h.1,yV k h.2 e.2⟩
variable {n i:Nat}{l:List (Nat×D)}
def Go.k_(A:mv n l ρ)(h:b_ Φ e ρ Y)(k:∀c,mv n ((i,Y)::l) c->Go Φ ss c Q)(d:US e=false:=by rfl)(g:i<n:=by decide)(hn:(l.all λp=>p.1 != i)=true:=by rfl):Go Φ (.asg (.nm i) e::ss) ρ Q:=by
 ext(⟨c,q,o,m,j⟩:Rt h d ([A.1]\g));exact .cons q (k c ⟨o.trans A.1,m,yV j A.2 hn⟩)
theorem mv.set{d:D}(A:mv n l ρ)(hz:aI aK d=Y)(h:i<n:=by decide)(hn:(l.all λp=>p.1 != i)=true:=by rfl):cw (.nm i) d ρ=ok (ρ.set i ↥d)/\mv n ((i,Y)::l) (ρ.set i ↥d):=by
 have c:i<ρ.length:=[A.1]\h
 exact⟨IZ c,[zba]\A.1,⟨d,acf c,hz⟩,yV (λj Z g ⟨y,m,k⟩=>⟨y,[ce (ja g)]\m,k⟩) A.2 hn⟩
def Go.UX{c:CE}{d:ai}(h:aZ Φ c ρ=ok (.bl false))(k:Go Φ ss ρ Q):Go Φ (.ifs c d []::ss) ρ Q :=
 .cons (by rw[xG,h];rfl) k
theorem Gg{t:Tg}{bb:ai}{P:aS->Prop}:∀(items:aa),(∀d∈items,∀ρ,P ρ->∃g,cw t d ρ=ok g/\Go Φ bb g P)->∀ρ,P ρ->∃c,dD (λd ρ=>cw t d ρ) (λρ=>bE Φ bb ρ) items ρ=ok (.nx,c)/\P c
 |[],_,ρ,h=>⟨ρ,rfl,h⟩
 |d::ds,hs,ρ,h=>by
  ext(⟨g,r,j,q,p⟩:hs d aam ρ h)(⟨c,o,m⟩:Gg ds (λx k=>hs x (aap _ k)) j p);exact⟨c,eR r q o,m⟩
end
mutual
theorem OM(g:Fl->Fl):∀d:D,aW anyF d=false->aI g d=d
 |.tup ds,h=>aa2 D.tup (z6 g ds h)
 |.lst _ _,h=>by cases h
 |.cF _ _ _,h=>by cases h
 |.b0,_=>rfl
 |.bl _,_=>rfl
 |.int _,_=>rfl
 |.str _,_=>rfl
theorem z6(g:Fl->Fl):∀ds:aa,aQ anyF ds=false->ak g ds=ds
 |[],_=>rfl
 |d::ds,h=>by
  ext(⟨b,a⟩:tv.mp (show(aW anyF d||aQ anyF ds)=false from h));rw[ak,OM g d b,z6 g ds a]
end
end DI
end
section
set_option maxHeartbeats 1000000
namespace DI
open PySem (Str)
def Hu(d:D):aI bp (aI aK d)=aI aK d:=by
 rw[fT];congr 1;funext f;cases f<;>rfl
def ql(n:Int)(rows:aa):Bool:=rows.all (eM n)&&(fI ((rows.map dG).map (·.2))&&decide ((gg (rows.map dG)).sum=1))
def dh(d:D):Bool:=match d with
 |.tup [m,.lst _ rows]=>(match m with
  |.int n=>decide (1<=n)&&(decide (n<=12)&&ql n rows)
  |_=>false)
 |_=>false
def HP(d:D):Prop:=∀m f rows,d=.tup [m,.lst f rows]->f=.fz/\(∀r∈rows,CD r)/\∀a,rows=bg a->∃k,xC k (gg a)
def qB(m:aE):Prop:=∀d,HP d->aI aK d=d->m [d]=ok (.bl (dh d))
theorem nJ(Φ:aV)(l:uS (Φ 12)){n:Int}(b c2:aM):∀(rows:aa) (i:aM),(∀d∈rows,CD d/\aI aK d=d)->∃a,dD (λd f=>cw (.nm 3) d f) (λf=>bE Φ gw f) rows [b,↥↑n,c2,i]=ok (if rows.all (eM n)then .nx else .rt (.bl false),a)/\(rows.all (eM n)=true->∃m,a=[b,↥↑n,c2,m])
 |[],i,_=>⟨_,rfl,λ_=>⟨_,rfl⟩⟩
 |d::rows,i,h=>by
  ext(⟨q,j⟩:h d aam)(e:l d n q);have k:aI bp d=d:=by rw[<- j,Hu]
  cases c:eM n d with
  |true =>
   ext(⟨a,o,g⟩:nJ Φ l b c2 rows ↥d λs p=>h s (aap _ p));refine⟨a,?_,λz=>g (by rw[zas,c,zbz]at z;exact z)⟩;rw[zas,c,zbz,<- o];rw[c]at e;exact eR (ρ1:=[b,↥↑n,c2,↥d]) ⇑5 (ρ2:=[b,↥↑n,c2,↥d]) (by simp[gw,k,j,e]) rfl
  |false =>
   refine⟨[b,↥↑n,c2,↥d],?_,λz=>by rw[zas,c]at z;cases z⟩;rw[zas,c,zaJ];rw[c]at e;exact Gq (ρ1:=[b,↥↑n,c2,↥d]) ⇑5 (by simp[gw,k,j,e])
variable {ds:aa}
def wA(h:ak aK ds=ds):∀d∈ds,aI aK d=d:=by
 induction ds with
 |nil=>intro d hd;cases hd
 |cons x e a =>
  rw[ak]at h;ext(⟨c,b⟩:acX h);intro d hd;ext((rfl|hd):ci.mp hd)
  ·exact c
  ·exact a b d hd
mutual
theorem As:∀d:D,aW bW (aI aK d)=false
 |.tup ds=>[aI,aW]\jG ds
 |.lst f ds=>by rw[aI,aW,jG ds];cases f<;>rfl
 |.cF f a ds=>by rw[aI,aW,jG ds];cases f<;>rfl
 |.b0=>rfl
 |.bl _=>rfl
 |.int _=>rfl
 |.str _=>rfl
theorem jG:∀ds:aa,aQ bW (ak aK ds)=false
 |[]=>rfl
 |d::ds=>by rw[ak,aQ,As d,jG ds];rfl
end
def ye{d:D}(h:aI aK d=d):aW bW d=false:=[-h]\As d
def CM{d:D}(h:aI aK d=d):aI bp d=d:=by rw[<- h,Hu]
def KU:ai:=[.ifs (.not (.qV (.v 2) .list)) [.ret (.bl false)] [],.fr (.nm 3) (.seq (.v 2)) gw,.ret (.and [(.call 44 [(.v 2)]),(.call 15 [(.v 2)])])]
meta def Q4:CS:=.ifs (.or [(.not (.call 0 [(.v 1)])),(.cmp .lt (.v 1) ↑1),(.cmp .gt (.v 1) (.glo "MOST_HOUSES" 12))]) [.ret (.bl false)] []
def yG:eU=[.ifs (.or [(.not (.qV (.v 0) .tuple)),(.cmp .ne (.bf .len [(.v 0)]) ↑2)]) [.ret (.bl false)] [],.asg (.nm 1) (.ix (.v 0) ↑0),.asg (.nm 2) (.ix (.v 0) ↑1),Q4]++KU:=rfl
def inR(m r:D):Bool:=match r with
 |.lst _ rows=>(match m with
  |.int n=>ql n rows
  |_=>false)
 |_=>false
meta def Pk:D->Bool
 |.int n=>decide (1<=n)&&decide (n<=12)
 |_=>false
def Cw(m r:D):dh (.tup [m,r])=(Pk m&&inR m r):=by
 cases m with
 |int n=>cases r<;>first|exact(yah _).symm|exact(Bool.and_assoc _ _ _).symm
 |_=>cases r<;>rfl
def Kb{m:D}(h:Pk m=true):∃n:Int,m=.int n/\1<=n:=by
 cases m<;>first|exact⟨_,rfl,aag (Bool.and_eq_true_iff.mp h).1⟩|cases h
def JR(r:D):(∃f rows,r=.lst f rows)\/eC .list r=false/\∀m,inR m r=false:=by
 cases r<;>first|exact .inl ⟨_,_,rfl⟩|exact .inr ⟨rfl,λ_=>rfl⟩
section
variable {Φ:aV}{m r:D}{ρ:aS}
def GU{c:CE}{b:Bool}{a:ai}(h:aZ Φ c ρ=ok (.bl b)):bE Φ (.ifs c [.ret (.bl false)] []::a) ρ=if b then ok (.rt (.bl false),ρ)else bE Φ a ρ:=by
 rw[bD,xG,h];cases b<;>rfl
def KS(a:Φ 0 [m]=ok (.bl (dT m)))(b:aI aK m=m){g c2 f:aM}:aZ Φ (.or [(.not (.call 0 [(.v 1)])),(.cmp .lt (.v 1) ↑1),(.cmp .gt (.v 1) (.glo "MOST_HOUSES" 12))]) [g,↥m,c2,f]=ok (.bl (!Pk m)):=by
 ext(h:CM b);cases hw:dT m with
 |false =>
  rw[hw]at a;have e:Pk m=false:=by cases m<;>first|rfl|exact iv (show true=false from hw)
  rw[e];simp[h,b,ye b,a]
 |true =>
  ext(⟨n,rfl⟩:iG hw);rw[hw]at a;by_cases c:n<1
  ·simp[a,c,Pk,show ¬ 1<=n by left]
  ·by_cases d:12<n<;>simp[a,c,d,Pk,show 1<=n by left,show n<=12 ↔ ¬ 12<n by left]
end
theorem D2(Φ:aV)(G:uS (Φ 12))(m:y8 (Φ 15))(l:uT (Φ 44)){n:Int}{rows:aa}{d:D}(H:1<=n)(a:aI aK (.fz\rows)=.fz\rows)(w:∀r∈rows,CD r)(y:∀s,rows=bg s->∃k,xC k (gg s)):
  iU (bE Φ [.fr (.nm 3) (.seq (.v 2)) gw,.ret (.and [(.call 44 [(.v 2)]),(.call 15 [(.v 2)])])] [↥d,↥↑n,↥(.fz\rows),none])=ok (D.bl (ql n rows)):=by
 ext(o:CM a)(c:(D.lst.inj a).2)(e:wA c)(⟨A,u,g⟩:nJ Φ G (n:=n) ↥d ↥(.fz\rows) rows none λd q=>⟨w d q,e d q⟩)
 have f:cI Φ (.seq (.v 2)) [↥d,↥↑n,↥(.fz\rows),none]=ok (rows,[↥d,↥↑n,↥(.fz\rows),none]):=by
  have e1:aZ Φ (.v 2) [↥d,↥↑n,↥(.fz\rows),none]=ok (.fz\rows):=by
   show ok (aI bp (.fz\rows))=_;rw[o]
  have C:(bW Fl.fz||aQ bW rows)=false:=ye a;rw[wj e1,c,C];rfl
 rw[bD,gv (t:=.nm 3) (b:=gw) f u];cases j:rows.all (eM n)with
 |false=>rw[show ql n rows=false by unfold ql;rw[j];rfl];rfl
 |true =>
  ext(⟨B,rfl⟩:g j);obtain⟨n',rfl⟩:∃n':Nat,n=(n':Int):=⟨n.toNat,by left⟩
  ext(p:Jg j)(h:l (rows.map dG))(⟨E,x⟩:y _ p)(i:m (rows.map dG) E x);rw[<- p]at h i;have:ql n' rows=(fI ((rows.map dG).map (·.2))&&decide ((gg (rows.map dG)).sum=1)):=by unfold ql;rw[j];rfl
  rw[this];clear this x y g u f p w e;generalize fI ((rows.map dG).map (·.2))=F at *;generalize decide ((gg (rows.map dG)).sum=1)=I at *;have z:aZ Φ (.v 2) [↥d,↥↑n',↥(.fz\rows),B]=ok (.fz\rows):=by
   show ok (aI bp (.fz\rows))=_;rw[o]
  cases F<;>simp[o,a,ye a,h,i]
def D1(Φ:aV)(u:eV (Φ 0))(C:uS (Φ 12))(k:y8 (Φ 15))(j:uT (Φ 44)):qB (mk Φ 1 4 eU):=by
 intro d hd e;have o:∀ds,eC .tuple (.tup ds)=true:=λ_=>rfl;have q:eC .tuple d=false->mk Φ 1 4 eU [d]=ok (.bl false):=λh=>by simp[mk_eq,yG,h,CM e,ye e]
 cases d with
 |tup ds =>
  clear q;by_cases i:ds.length=2
  ·ext(⟨m,r,rfl⟩:zp i)(g:wA (D.tup.inj e))(c:g m ⇑5)(a:g r ⇑5)(w:CM c)(l:CM a);have p:mk Φ 1 4 eU [.tup [m,r]]=iU (bE Φ (Q4::KU) [↥(.tup [m,r]),↥m,↥r,none]):=by
    simp[mk_eq,yG,o,w,l,c,a,ye c,ye a]
   rw[p,Q4,GU (KS (u m) c),Cw];clear p w e g u i;cases t:Pk m with
   |false=>rfl
   |true =>
    ext(⟨n,rfl,x⟩:Kb t);clear t c;show iU (bE Φ KU _)=_;rw[show KU=.ifs (.not (.qV (.v 2) .list)) [.ret (.bl false)] []::[.fr (.nm 3) (.seq (.v 2)) gw,.ret (.and [(.call 44 [(.v 2)]),(.call 15 [(.v 2)])])] from rfl,GU (b:=!eC .list r) (by simp[l,ye a])];clear l;ext((⟨f,rows,rfl⟩|⟨z,hR⟩):JR r)
    ·ext(⟨rfl,A,B⟩:hd _ _ _ rfl);exact D2 Φ C k j x a A B
    ·rw[z,hR];rfl
  ·have s:¬ (ds.length:Int)=2:=by left
   have:dh (.tup ds)=false:=by
    clear hd e s
    match ds,i with
    |[],_=>rfl
    |[_],_=>rfl
    |[_,_],h=>exact absurd rfl h
    |_::y::_::_,_=>cases y<;>rfl
   rw[this];simp[mk_eq,yG,o,s,aN]
 |_=>exact q rfl
def qk{m r:D}(h:∀n,m≠.int n):dh (.tup [m,r])=false:=by
 unfold dh;cases r<;>first|rfl|skip
 cases m<;>first|rfl|exact absurd rfl (h _)
def yF{m r:D}(h:∀f ds,r≠.lst f ds):dh (.tup [m,r])=false:=by
 unfold dh;cases r<;>first|rfl|exact absurd rfl (h _ _)
def iu(n:Int)(f:Fl)(rows:aa):dh (.tup [.int n,.lst f rows])=(decide (1<=n)&&(decide (n<=12)&&(rows.all (eM n)&&(fI ((rows.map dG).map (·.2))&&decide ((gg (rows.map dG)).sum=1))))):=rfl
variable {f:Fl}
def bZ{n:Int}{rows:aa}{d:D}(hd:d∈rows)(h:eM n d=false):dh (.tup [.int n,.lst f rows])=false:=by
 have:rows.all (eM n)=false:=[List.all_eq_false]\⟨d,hd,by rw[h];decide⟩
 rw[iu,this,zaJ,zat,zat]
def gK{n:Int}{rows:aa}(h:fI ((rows.map dG).map (·.2))=false):dh (.tup [.int n,.lst f rows])=false:=by
 rw[iu,h,zaJ,zat,zat,zat]
def qi{n:Int}{rows:aa}(h:¬ (gg (rows.map dG)).sum=1):dh (.tup [.int n,.lst f rows])=false:=by
 rw[iu,zaP h,zat,zat,zat,zat]
theorem oA:∀l:ae,HT.lexLt l l=false
 |[]=>rfl
 |x::l=>by
  ext(a:oA l);unfold HT.lexLt;simp[a]
theorem ph(a:ae)(e:az):∀d:az,fI (d++a::a::e)=false
 |[]=>by show(HT.lexLt a a&&_)=false;rw[oA];rfl
 |[b]=>by show(HT.lexLt b a&&(HT.lexLt a a&&_))=false;rw[oA];simp
 |b::c::d=>by
  show(HT.lexLt b c&&fI (c::d++a::a::e))=false;rw[ph a e (c::d),zat]
def sV(r:Row):dG (rD r)=r:=by
 show(ei r.1.num r.1.den,numsOf (aq r.2))=_;rw[mP,fg]
def o8(rs:af):(bg rs).map dG=rs:=by
 unfold bg;rw[zag]
 conv=>rhs;rw[<- B1 rs]
 exact aaW λr _=>sV r
theorem zK:∀{l:az},y9 l->fI l=true
 |[],_=>rfl
 |[_],_=>rfl
 |a::b::l,h=>by
  ext(⟨d,c⟩:l7.mp h);show(HT.lexLt a b&&fI (b::l))=true;rw[d b ⇑5,zK c];rfl
def Mu{k n:Nat}{rs:af}(I:Dr k n rs):HP (cB n rs)/\dh (cB n rs)=true:=by
 have i:=I.n1;have h:=I.n2;refine⟨λm f rows e=>?_,?_⟩
 ·cases e;refine⟨rfl,λd hd=>?_,λb e=>?_⟩
  ·ext(⟨r,a,rfl⟩:dz.mp hd);have:=(I.lot r a).len;show(aq r.2).length<64;simp;left
  ·have:rs=b:=by rw[<- o8 rs,e,o8]
   exact[-this]\I.sl
 ·have e:dh (cB n rs)=_:=iu n .fz (bg rs);rw[e,o8,zaK (by left:1<=(n:Int)),zaK (by left:(n:Int)<=12),zK I.rise,zaK (show(gg rs).sum=1 from I.one),fu.mpr]
  ·rfl
  ·intro d hd;ext(⟨r,a,rfl⟩:dz.mp hd);show(bH (.tup (aq r.2)) n&&(eA (qD r.1)&&BI (qD r.1)))=true;ext(g:(aC (I.lot r a).t7).1);have c:BI (qD r.1)=true:=abg (BE (I.pos r a));rw[g,Kv,c];rfl
structure LF(d:D):Prop where
 fz:Fz d
 ok:HP d
 bad:dh d=false
def z16(Φ:aV)(a:qB (Φ 45)):∀d,LF d->mk Φ 1 1 dE [d]=ok (.bl false):=by
 intro d B;ext(e1:a d B.ok B.fz.fz);rw[B.bad]at e1;simp[mk_eq,dE,B.fz.al,B.fz.fz,e1]
def Q3{m:aE}(h:qB m):∀k n a,Dr k n a->m [cB n a]=ok (.bl true):=λk n a I=>by
 ext(e:h (cB n a) (Mu I).1 (by simp[cB]));rw[(Mu I).2]at e;exact e
meta def GJ:CE:=.comp 1 (.nm 0) [3] .seq [(.cM 1035 [(.v 3)])] [] (.tup [(.call 42 [(.cM 1039 [(.v 1),(.v 0)])]),(.v 0)])
def Lj:ai:=[.asg (.nm 2) (.call 100 [(.v 1)]),.asg (.nm 3) (.cM 1030 []),.fr (.tp [4,5]) (.seq (.ix (.v 0) ↑1)) zC,.ret (.tup [(.bf .ju [AJ]),GJ])]
def tS(rows:af):af:=(a_ (jA rows)).map λl=>((jr rows l).sum,l)
theorem Q0(Φ:aV)(P:RH Φ)(b:iX (Φ 42))(e:Φ 1039=yE){rows:af}(q:rows.length<1000)(hs:∀l,∃k,xC k (jr rows l))(o c1 c2:aM)(r:aS):aZ Φ GJ (o::c1::c2::↥(kl .ow rows)::r)=ok (.ow\(bg (tS rows))):=by
 have d:(a_ (jA rows)).Perm (jA rows):=abx _ _;ext(s:wd rows);unfold GJ;rw[cV (xs:=[.ow\((a_ (jA rows)).map cH)]) (items:=(a_ (jA rows)).map cH) (ds:=bg (tS rows)) ?_ ⇑[dj,gF] ?_ (by
  rw[di];unfold tS;rw[zaa];exact cx (by have:=d.length_eq;left))]
 ·rw[dQ]
 ·have e1:∀f,Φ 1035 [kl f rows]=ok (.ow\((a_ (jA rows)).map cH)):=λf=>LN P f _ ⋯;have a:aI bp (kl .ow rows)=kl .al rows:=tZ _ _ _ _;generalize t:kl .ow rows=X at *;simp[a,e1]
 ·unfold bg tS;rw[zag];refine bN λl i=>?_;have j:l∈jA rows:=d.mem_iff.mp i;ext(n:Ws e (jr rows) l j)(⟨k,p⟩:hs l)(m:b .fz (jr rows l) k p);have a:aI bp (cH l)=.tup (aq l):=by show D.tup (ak bp (l.map D.int))=_;rw[kS];rfl
  have h:aI aK (kl .ow rows)=kl .fz rows:=tZ _ _ _ _;have g:aI bp (kl .fz rows)=kl .fz rows:=tZ _ _ _ _;refine⟨[↥(cH l),↥(kl .fz rows)],by simp[bK,h],by simp,?_⟩;have c:Φ 1039 [kl .fz rows,.tup (aq l)]=ok (.fz\(ff (jr rows l))):=n;simp[a,g,c,m];rfl
def Ry(m:aE):Prop:=∀(n:Nat) (gs:af) (Ds:List Dw),W2 (cO 0 Ds) gs->Ds.length<=1000->(∀d∈Ds,d.2.length<=1000/\∀r∈d.2,r.2.length<=1000)->(∀l,∃k,xC k (jr (allR (cO 0 Ds) gs) l))->m [cB n gs,.fz\(bh .fz Ds)]=ok (.tup [.int (fV Ds),.ow\(bg (tS (allR (cO 0 Ds) gs)))])
theorem Zo(Φ:aV)(P:RH Φ)(h:iX (Φ 42))(i:W4 (Φ 100))(F:RA (Φ 101))(q:Φ 1039=yE)(y:Φ 1201=xP):Ry (mk Φ 2 8 Lj):=by
 intro n c a W j E C;ext(e1:i a j E);have G:=W.ln;have e2:Φ 1030 []=ok (kl .ow []):=by rw[P.MO];rfl
 ext(⟨p,o,m,l,k⟩:wQ Φ F y (LL:=cO 0 a) ↥(cB n c) ↥(.fz\(bh .fz a)) c [] none none none none W (by simp;left));rw[zay]at k;have D:aZ Φ (.ix (.v 0) ↑1) [↥(cB n c),↥(.fz\(bh .fz a)),↥(.ow\(bJ .ow (cO 0 a))),↥(kl .ow []),none,none,none,none]=ok (.fz\(bg c)):=by
  rw[show cB n c=.tup [.int n,.fz\(bg c)] from rfl];simp
 have g:cI Φ (.seq (.ix (.v 0) ↑1)) [↥(cB n c),↥(.fz\(bh .fz a)),↥(.ow\(bJ .ow (cO 0 a))),↥(kl .ow []),none,none,none,none]=ok (bg c,[↥(cB n c),↥(.fz\(bh .fz a)),↥(.ow\(bJ .ow (cO 0 a))),↥(kl .ow []),none,none,none,none]):=by
  rw[wj D];simp
 ext(hf:gv (Φ:=Φ) (t:=.tp [4,5]) (b:=zC) g k)(B:yR Φ j .fz ↥(cB n c) [↥(.ow\(bJ .ow (cO 0 a))),↥(kl .ow (allR (cO 0 a) c)),p,o,m,l])(z:Q0 Φ P h q ⋯ C ↥(cB n c) ↥(.fz\(bh .fz a)) ↥(.ow\(bJ .ow (cO 0 a))) [p,o,m,l]);have r:rg .ju [.ow\(aq (a.map λd=>(d.1:Int)))]=ok ↑(fV a):=wH _ _;have u:aW bW (kl .ow [])=false:=Ko _ _ _ _ rfl;have s:aQ bW (bJ .ow (cO 0 a))=false:=mZ (by rfl) _;have x:ak fC (bJ .ow (cO 0 a))=bJ .ow (cO 0 a):=by rw[d_];rfl
 have w:ak bp (bh .fz a)=bh .fz a:=by rw[cf];rfl
 have e:ak aK (bh .fz a)=bh .fz a:=by rw[cf];rfl
 generalize allR (cO 0 a) c=A at *;generalize bJ .ow (cO 0 a)=R at *;generalize bh .fz a=X at *;generalize aq (a.map λd=>(d.1:Int))=Y at *;generalize cB n c=Z at *;generalize kl .ow []=I at *;generalize kl .ow A=H at *;simp[mk_eq,Lj,e1,e2,w,e,x,u,s,hf,B,z,r]
def D7{l:az}(h:y9 l):l.Nodup:=yaM (λ{a b} x e=>by subst e;rw[oA]at x;cases x) h
meta def kA:Int->List Dw->Int
 |c,[]=>c
 |c,d::Ds=>kA (c*(d.2.length:Int)) Ds
theorem AS:∀(Ds a:List Dw) (c:Int),md (a++Ds) c ((pp a.length Ds.length).map λ(k:Nat)=>(k:Int))=kA c Ds
 |[],a,c=>rfl
 |d::Ds,a,c=>by
  rw[zae,WB,zal,md,kA];have e:(a++d::Ds).getD ((a.length:Int)).toNat (0,[])=d:=by simp
  rw[e];ext(b:AS Ds (a++[d]) (c*(d.2.length:Int)));rw[zai,zbY,zaf,zaC]at b;exact b
def Gd(Ds:List Dw):Prop:=∀d∈Ds,∃k,Dr k d.1 d.2
structure Nc(Ds:List Dw):Prop where
 l1:1<=Ds.length
 l4:Ds.length<=4
 dr:∀d∈Ds,Dr 6 d.1 d.2
 s12:fV Ds<=12
 WH:kA 1 Ds<=500
meta def HM:List (af)->Nat
 |[]=>1
 |rs::LL=>rs.length*HM LL
theorem zT:∀{LL:List (af)},(∀rs∈LL,1<=rs.length)->1<=HM LL
 |[],_=>aat _
 |rs::LL,h=>Nat.mul_pos (h rs aam) (zT λx a=>h x (aap _ a))
theorem EN:∀{LL:List (af)} {c:Nat},(∀rs∈LL,1<=rs.length)->c*HM LL<=1000->OD c LL
 |[],_,_,_=>trivial
 |rs::LL,c,h,hc=>by
  ext(b:zT λx a=>h x (aap _ a));rw[HM,<- zbZ]at hc;exact⟨aav (Nat.le_mul_of_pos_right _ b) hc,EN (λx a=>h x (aap _ a)) hc⟩
theorem w_:∀{LL:List (af)} {C:af},(xd C LL).length=C.length*HM LL
 |[],_=>by simp[xd,HM]
 |rs::LL,C=>by
  ext(a:w_ (LL:=LL) (C:=cW C rs));rw[sA,zbZ]at a;exact a
theorem zR:∀(Ds:List Dw) (a:Int) (c:Nat),kA c Ds=((c*HM (cO a Ds):Nat):Int)
 |[],_,c=>by rw[kA,cO,HM,Nat.mul_one]
 |d::Ds,a,c=>by
  ext(b:zR Ds (a+d.1) (c*d.2.length));rw[kA,cO,HM,zaa,<- zbZ,<- b,Db]
def vS(LL:List (af)):dJ LL (Dx (LL.length:Int))=LL:=by
 unfold dJ Dx;rw[zao,zag];refine aey λi=>?_;rw[bv];by_cases h:i<LL.length
 ·rw[u6 h,cb h];show ↥(LL.getD ((i:Int)).toNat [])=_;simp[h]
 ·rw[dV (by simp;left),dV ⋯];rfl
protected def El{rows:af}(h:(rows.map (·.2)).Nodup)(l:ae):(jr rows l).length<=1:=by
 induction rows with
 |nil=>simp[jr]
 |cons r rows a =>
  ext(⟨d,c⟩:gc.mp h)(a:a c);unfold jr at *;rw[W0];split
  ·rename_i e;ext(e:aag e);have:rows.filter (λr=>decide (r.2=l))=[]:=by
    rw[zbV];intro x b z;exact d (by show r.2∈rows.map (·.2);rw[e,<- of_decide_eq_true z];exact abD b)
   rw[this];simp
  ·exact a
def Fm(Ds:List Dw):af:=xd [(1,[])] (cO 0 Ds)
section
variable {Ds:List Dw}(K:Nc Ds)
include K
theorem Nc.Yr:∀a∈cO 0 Ds,y7 6 12 a/\1<=a.length/\a.length<=1000:=λa g=>by
 ext(⟨d,hd,b,rfl⟩:Hk g)(I:K.dr d hd);refine⟨λr e=>?_,?_,[zaa]\I.len⟩
 ·ext(⟨s,c,rfl⟩:dz.mp e);refine⟨I.sm s c,?_⟩;have:=(I.lot s c).len;have:=I.n2;show(qN b s.2).length<=12;unfold qN;rw[zaa];left
 ·rw[zaa];refine acN λz=>?_;have:=I.one;rw[IS.mp z]at this;exact absurd this ⇑4
theorem Nc.nd:((Fm Ds).map (·.2)).Nodup/\∀m∈Fm Ds,RI (fV Ds) m.2:=by
 have:=A3 (a:=0) (Ds:=Ds) λd hd=>⟨D7 (K.dr d hd).rise,λr b=>((K.dr d hd).lot r b).2⟩
 rw[Int.zero_add]at this;exact Rj this (c:=[(1,[])]) (acS _) ⇑5 λm e=>[am.mp e]\λ_ h=>nomatch h
theorem Nc.len:HM (cO 0 Ds)<=500:=by
 have h:kA 1 Ds=_:=zR Ds 0 1;have:=K.WH;rw[R8]at h;left
theorem JP:(Fm Ds).length<=500:=by
 have:=K.len;have h:(Fm Ds).length=_:=w_ (LL:=cO 0 Ds) (C:=[(1,[])]);rw[zaC,R8]at h;left
theorem Nc.sm:y7 30 48 (Fm Ds):=λr a=>by
 ext(h:Ri (k:=1) (l:=0) (i:=6) (j:=12) (c:=[((1:Rat),[])]) (LL:=cO 0 Ds) (λr a=>[am.mp a]\⟨by constructor<;>decide,aat _⟩) (λb d=>(K.Yr b d).1) r a);rw[jJ]at h;have:=K.l4;exact⟨h.1.mono ⋯,by left⟩
end
variable {Φ:aV}
def AB{g:Nat}{es:aA}{ρ:aS}{xs:aa}{r:D}(b:bY Φ es ρ=ok xs)(a:Φ g (ak aK xs)=ok r):ir Φ (.ex (.call g es)) ρ=ok (.nx,ρ):=by
 rw[YI];rw[m7,b,qu];show bd (Qf (Φ g (ak aK xs))) _=_;rw[a];rfl
def bS(Ds:List Dw):af:=[(1,Dx (Ds.length:Int))]
def Gw(Ds:List Dw):W9 Ds (bS Ds):=λr b g a=>by
 rw[am.mp b]at a;ext(⟨k,c,rfl⟩:dz.mp a);have:=hA.mp c;left
def QJ(Ds:List Dw):q_ Ds (bS Ds)=kA 1 Ds:=by
 unfold q_ bS;rw[List.map_singleton,List.sum_singleton];have a:Dx (Ds.length:Int)=(pp 0 Ds.length).map λ(k:Nat)=>(k:Int):=by unfold Dx;rw[zao,zbr]
 show md Ds 1 (Dx (Ds.length:Int))=_;exact[a]\AS Ds [] 1
def UB(n:Ry (Φ 102)){Ds:List Dw}(K:Nc Ds):Φ 102 [cB Ds.length (bS Ds),.fz\(bh .fz Ds)]=ok (.tup [.int (fV Ds),.ow\(bg (tS (Fm Ds)))]):=by
 have p:=K.l1;have o:=K.l4;have h:allR (cO 0 Ds) (bS Ds)=Fm Ds:=by
  unfold allR Fm bS;rw[zaR,List.flatMap_nil,zav];have:=vS (cO 0 Ds);rw[jJ]at this;show xd [(1,[])] (dJ (cO 0 Ds) (Dx (Ds.length:Int)))=_;rw[this]
 have e:Sm 6 (1:Rat):=Sm.mono (k:=1) (by constructor<;>decide) ⇑4;have hlen:(Dx (Ds.length:Int)).length=Ds.length:=by unfold Dx;simp
 have m:OD 1 (cO 0 Ds):=EN (λb c=>(K.Yr b c).2.1) (by have:=K.len;left);have e3:=n Ds.length (bS Ds) Ds ⟨λr a g j=>[jJ]\Gw Ds r a g j,λr a=>[am.mp a]\⟨e,by show(Dx (Ds.length:Int)).length<=12;left⟩,λr a=>by
   rw[am.mp a];have:=vS (cO 0 Ds);rw[jJ]at this;show OD 1 (dJ (cO 0 Ds) (Dx (Ds.length:Int)));rw[this];exact m,λb c=>⟨(K.Yr b c).1,(K.Yr b c).2.2⟩,by rw[h];have:=JP K;left⟩ ⋯ (λd hd=>⟨(K.dr d hd).len,λr a=>by have:=((K.dr d hd).lot r a).len;have:=(K.dr d hd).n2;left⟩) (λl=>by
   rw[h];ext(s:El K.nd.1 l);refine⟨30,λq i=>?_,by left,by left⟩;ext(⟨r,a,rfl⟩:dz.mp i);exact(K.sm r (rZ.mp a).1).1)
 rw[h]at e3;exact e3
structure Tn(P:ae->Prop)(j:Nat)(cs:az)(ws:ae):Prop where
 nd:cs.Nodup
 ln:cs.length=ws.length
 Gr:cs.length<=j
 lot:∀c∈cs,P c
 pos:∀w∈ws,1<=w/\w<=9
 ne:1<=j->cs≠[]
theorem vG{a:Type}{c:ae}{v:a}:∀{cs:az} {ws:List a},cs.length=ws.length->(setC cs ws c v).length=ws.length
 |[],[],_=>rfl
 |[],_::_,h=>by simp at h
 |_::_,[],h=>by simp at h
 |c'::cs,w::ws,h=>by
  show((if c'=c then v else w)::setC cs ws c v).length=_;rw[zae,vG ⇑h,zae]
variable {cs:az}{ws:ae}
def Tn.put{P:ae->Prop}{j:Nat}(T:Tn P j cs ws){c:ae}(g:P c){i:Int}(n:1<=i)(m:i<=9):Tn P (j+1) (bo cs c) (bQ cs ws c i):=by
 have hf:=T.Gr;by_cases h:c∈cs
 ·unfold bo bQ;rw[zac h,zac h];refine⟨T.nd,[vG T.ln]\T.ln,by left,T.lot,λw hw=>?_,λ_ z=>by rw[z]at h;cases h⟩;ext((hw|rfl):vF hw)
  ·exact T.pos w hw
  ·left
 ·unfold bo bQ;rw[zab h,zab h];refine⟨?_,by rw[zaf,zaf,T.ln];rfl,by rw[zaf,zaC];left,λd hd=>?_,λw hw=>?_,λ_ z=>by simp at z⟩
  ·refine oy.mpr ⟨T.nd,gc.mpr ⟨x2,acG⟩,λa l b k e=>?_⟩;rw[am.mp k]at e;exact h (e▸l)
  ·ext((hd|hd):c0.mp hd)
   ·exact T.lot d hd
   ·exact[am.mp hd]\g
  ·ext((hw|hw):c0.mp hw)
   ·exact T.pos w hw
   ·rw[am.mp hw];left
theorem Tj:∀{l:ae},(∀x∈l,1<=x/\x<=9)->0<=l.sum/\l.sum<=9*l.length/\∀x∈l,x<=l.sum
 |[],_=>⟨acS _,by simp,λ_ h=>nomatch h⟩
 |a::l,h=>by
  ext(⟨e,d,c⟩:Tj λx b=>h x (aap _ b))(g:h a aam);rw[zaz,zae];refine⟨by left,by left,λx b=>?_⟩;ext((rfl|b):ci.mp b)
  ·left
  ·have:=c x b;left
def Tn.dr{P:ae->Prop}{n j:Nat}(T:Tn P j cs ws)(t:1<=j)(B:j<=5)(o:1<=n)(l:n<=12):Dp P 6 n (km cs ws)/\(km cs ws).length=cs.length/\1<=ws.sum/\ws.sum<=45:=by
 have g:(a_ cs).Perm cs:=abx _ _;have h:(km cs ws).length=cs.length:=by unfold km;exact[zaa]\g.length_eq
 have hf:=T.Gr;have v:=T.ln;ext(⟨A,y,k⟩:Tj T.pos);have d:∀c∈a_ cs,1<=kr cs ws c/\kr cs ws c<=ws.sum:=λc a=>by
  ext(⟨w,e,m⟩:uq T.ln (g.mem_iff.mp a));unfold kr;exact[e]\⟨(T.pos w m).1,k w m⟩
 have s:1<=ws.sum:=by
  ext(⟨c,a⟩:List.exists_mem_of_ne_nil cs (T.ne t));have:=d c (g.mem_iff.mpr a);left
 have u:ws.sum<=45:=by left
 have i:∀r∈km cs ws,Sm 6 r.1:=λr b=>by
  ext(⟨c,a,rfl⟩:dz.mp b);have:=d c a;exact LY ⋯ (by show _<64;left) (by show _<64;left)
 refine⟨⟨o,l,⟨ws.sum.natAbs,by left,?_,λr b=>?_⟩,by rw[h];left,λr b=>?_,λr b=>?_,i,?_,?_,6,⟨λq p=>?_,by unfold gg;rw[zaa,h];left,by unfold gg;rw[zaa,h];left⟩⟩,h,s,u⟩
 ·have:(46:Nat)<2 ^ 250:=by decide
  left
 ·ext(⟨c,a,rfl⟩:dz.mp b);exact qm ⋯
 ·ext(⟨c,a,rfl⟩:dz.mp b);exact T.lot c (g.mem_iff.mp a)
 ·ext(⟨c,a,rfl⟩:dz.mp b);exact k7 (by have:=d c a;left) ⋯
 ·have e:(km cs ws).map (·.1)=(a_ cs).map λc=>ei (kr cs ws c) ws.sum:=by
   unfold km;rw[zag];rfl
  rw[e];have e2:((a_ cs).map λc=>ei (kr cs ws c) ws.sum).sum=(cs.map λc=>ei (kr cs ws c) ws.sum).sum:=Ew (g.map _);have e3:(cs.map λc=>ei (kr cs ws c) ws.sum)=(cs.map (kr cs ws)).map λx=>ei x ws.sum:=by rw[zag];rfl
  rw[e2,e3,wa T.nd T.ln,sX _ ⋯,zaE];have z:((ws.sum:Int):Rat)≠0:=λz=>by rw[zaW]at z;left
  grind
 ·have e:(km cs ws).map (·.2)=a_ cs:=by
   unfold km;exact[zag]\(aaW λ_ _=>rfl).trans (B1 _)
  exact[e]\iM T.nd
 ·ext(⟨r,b,rfl⟩:dz.mp p);exact i r b
meta def AI:CE:=.comp 1 (.nm 0) [0] .nC [(.v 2)] [(.cmp .eq (.bin .mod (.bin .fdiv (.v 1) (.bin .shl ↑1 (.v 0))) ↑2) ↑1)] (.v 0)
def II:ai:=[.asg (.nm 6) (.bf .tuple1 [AI]),.asg (.nm 0) (.bin .fdiv (.v 0) (.bin .shl ↑1 (.v 2))),.mut 1033 4 [(.bin .add ↑1 (.bin .mod (.v 0) ↑9)),(.v 6)],.asg (.nm 0) (.bin .fdiv (.v 0) ↑9)]
meta def GH:CE:=.comp 1 (.nm 0) [7,4] .seq [(.cM 1035 [(.v 4)])] [] (.tup [(.call 201 [(.cM 1032 [(.v 2),(.v 0)]),(.v 1)]),(.v 0)])
def Li:ai:=[.asg (.nm 2) (.bin .add ↑1 (.bin .mod (.v 0) (.v 1))),.asg (.nm 3) (.bin .add ↑1 (.bin .mod (.bin .fdiv (.v 0) (.v 1)) ↑5)),.asg (.nm 0) (.bin .fdiv (.v 0) (.bin .mul ↑5 (.v 1))),.asg (.nm 4) (.cM 1030 []),.fr (.nm 5) (.nC (.v 3)) II,.asg (.nm 7) (.cM 1038 [(.v 4)]),.ret (.tup [(.v 2),GH])]
def Hl{k:Nat}(a:k<=12):dk .shl ↑1 ↑(k:Int)=ok ↑((2 ^ k:Nat):Int):=by
 rw[WL (by
  unfold vR;simp only[zah,decide_eq_true_eq];exact⟨⟨by left,by left⟩,by decide⟩),zao,Int.one_mul]
 simp
def M8(N:Int){k:Nat}(a:k<=12):dk .fdiv ↑N ↑((2 ^ k:Nat):Int)=ok ↑(N.fdiv ((2 ^ k:Nat):Int)):=by
 have c:1<=2 ^ k:=Nat.one_le_two_pow;have b:2 ^ k<=2 ^ 12:=abq ⇑4 a;refine gh (gf ⋯ (pK ?_));rw[zby];have:(2:Nat) ^ 12<2 ^ 64:=by decide
 left
theorem OV(Φ:aV){n:Nat}(hn:n<=12)(N:Int)(c1:aM)(r:aS):∃a,xD n a/\aZ Φ AI (↥↑N::c1::↥↑n::r)=ok (.ow\(aq a)):=by
 refine⟨_,Z0 n λ(k:Nat)=>decide ((N.fdiv ((2 ^ k:Nat):Int)).fmod 2=1),?_⟩;unfold AI;rw[cV (xs:=[.int n]) (ds:=((eg n).filter λ(k:Nat)=>decide ((N.fdiv ((2 ^ k:Nat):Int)).fmod 2=1)).map λ(k:Nat)=>D.int (k:Int)) ⇑5 (Ac Φ ⋯ ⋯) ?_ ?_]
 ·simp[aN,aq]
 ·rw[zao];refine nK λk b=>⟨[↥↑k,↥↑N],by simp[bK],?_,λ_=>by simp⟩
  ext(c:hA.mp b)(e1:Hl (k:=k) ⋯)(e2:M8 N (k:=k) ⋯);generalize (N.fdiv ((2 ^ k:Nat):Int))=M at *;generalize ((2 ^ k:Nat):Int)=W at *;simp[e1,e2]
 ·have:=MN (λ(k:Nat)=>decide ((N.fdiv ((2 ^ k:Nat):Int)).fmod 2=1)) (eg n);simp only[zaa,zbE]at this ⊢;exact cx ⋯
theorem z9(Φ:aV)(P:RH Φ){n:Nat}(hn:n<=12)(c1 g e:aM):∀(c:aa) (j:Nat) (N:Int) (cs:az) (ws:ae) (m h:aM),Tn (xD n) j cs ws->j+c.length<=5 ->
  ∃q o r C B,dD (λd l=>cw (.nm 5) d l) (λl=>bE Φ II l) c [↥↑N,c1,↥↑n,g,↥(.cF .ow cs (aq ws)),m,h,e]=ok (.nx,[r,c1,↥↑n,g,↥(.cF .ow q (aq o)),C,B,e])/\Tn (xD n) (j+c.length) q o
 |[],j,N,cs,ws,m,h,T,_=>⟨cs,ws,↥↑N,m,h,rfl,T⟩
 |k::c,j,N,cs,ws,m,h,T,hj=>by
  rw[zae]at hj;ext(⟨a,w,e1⟩:OV Φ hn N c1 [g,↥(.cF .ow cs (aq ws)),↥k,h,e])(e2:Hl hn)(e3:M8 N hn);generalize N.fdiv ((2 ^ n:Nat):Int)=M at *;ext(⟨a1,a2⟩:iT M (b:=9) ⇑4);have hf:=T.Gr;ext(e4:Q5 P (cs:=cs) ⋯ ws a (1+M.fmod 9))(A:T.put w (i:=1+M.fmod 9) ⋯ ⋯)(⟨q,o,z,y,x,u,s⟩:z9 Φ P hn c1 g e c (j+1) (M.fdiv 9) _ _ ↥k ↥(.tup (aq a)) A ⋯)(t:xF (Φ:=Φ) (p:=1033) (i:=4) (es:=[(.bin .add ↑1 (.bin .mod (.v 0) ↑9)),(.v 6)]) (ρ:=[↥↑M,c1,↥↑n,g,↥(.cF .ow cs (aq ws)),↥k,↥(.tup (aq a)),e]) (xs:=[.int (1+M.fmod 9),.tup (aq a)]) ⇑5 ⇑5 rfl e4);simp only[Is]at t;refine⟨q,o,z,y,x,eR (ρ1:=[↥↑N,c1,↥↑n,g,↥(.cF .ow cs (aq ws)),↥k,h,e]) ⇑5 (ρ2:=[↥↑(M.fdiv 9),c1,↥↑n,g,↥(.cF .ow (bo cs a) (aq (bQ cs ws a (1+M.fmod 9)))),↥k,↥(.tup (aq a)),e]) ?_ u,by rw[zae,show j+(c.length+1)=j+1+c.length by left];exact s⟩;generalize ((2 ^ n:Nat):Int)=W at *;simp[II,JW Φ AI _ rfl,e1,e2,e3,t]
def Zf(a:Φ 1038=RL)(f:Fl)(cs:az)(ws:ae):Φ 1038 [.cF f cs (aq ws)]=ok ↑ws.sum:=by
 rw[a];show(match intsOf (ws.map D.int)with|↥ns=>ok (D.int ns.sum)|none=>none)=_;rw[bX]
def W5(m:aE):Prop:=∀(N:Int) (p:Nat),1<=p->p<=12->∃d:Dw,m [.int N,.int p]=ok (eY .ow d)/\Dr 6 d.1 d.2/\d.2.length<=5/\1<=d.2.length/\d.1<=p
theorem Zn(Φ:aV)(P:RH Φ)(j:oT (Φ 201))(K:Φ 1038=RL):W5 (mk Φ 2 8 Li):=by
 intro N p Q O;ext(⟨m,V⟩:iT N (b:=(p:Int)) ⋯);obtain⟨n,w⟩:∃n:Nat,1+N.fmod p=(n:Int):=⟨(1+N.fmod p).toNat,by left⟩
 ext(⟨U,S⟩:iT (N.fdiv p) (b:=5) ⇑4);obtain⟨k,z⟩:∃k:Nat,1+(N.fdiv p).fmod 5=(k:Int):=⟨(1+(N.fdiv p).fmod 5).toNat,by left⟩
 have J:Tn (xD n) 0 [] []:=⟨acG,rfl,aat _,(λ_ h=>nomatch h),(λ_ h=>nomatch h),λh=>by left⟩
 ext(⟨cs,ws,I,H,G,E,T⟩:z9 Φ P (n:=n) ⋯ ↥↑p ↥↑k none ((eg k).map λ(i:Nat)=>D.int (i:Int)) 0 (N.fdiv (5*p)) [] [] none none J (by simp;left));rw[zaa,zbE,zaD]at T;ext(⟨L,y,w1,q⟩:T.dr (n:=n) ⋯ ⋯ ⋯ ⋯)(s:T.ne ⋯);have A:1<=cs.length:=List.length_pos_iff.mpr s;have l:=T.Gr;have x:dk .mod ↑N ↑p=ok ↑(N.fmod p):=sM ⋯;have hd:dk .fdiv ↑N ↑p=ok ↑(N.fdiv p):=gh (gf ⋯ (pK ⋯));have g:dk .fdiv ↑N ↑(5*(p:Int))=ok ↑(N.fdiv (5*p)):=gh (gf ⋯ (pK ⋯));have d:dk .mul ↑5 ↑(p:Int)=ok ↑(5*(p:Int)):=Lh ⋯;have o:Φ 1030 []=ok (.cF .ow [] (aq [])):=by rw[P.MO];rfl
 have e:cI Φ (.nC (.v 3)) [↥↑(N.fdiv (5*p)),↥↑p,↥↑n,↥↑k,↥(.cF .ow [] (aq [])),none,none,none]=ok ((eg k).map λ(i:Nat)=>D.int (i:Int),[↥↑(N.fdiv (5*p)),↥↑p,↥↑n,↥↑k,↥(.cF .ow [] (aq [])),none,none,none]):=by
  rw[UR (n:=k) ⇑5 ⋯ ⋯,zao]
 ext(hf:gv (Φ:=Φ) (t:=.nm 5) (b:=II) e E);have u:(a_ cs).Perm cs:=abx _ _;ext(a:λf=>Zf K f cs ws);have C:aZ Φ GH [I,↥↑p,↥↑n,↥↑k,↥(.cF .ow cs (aq ws)),H,G,↥↑ws.sum]=ok (.ow\(bg (km cs ws))):=by
  unfold GH;rw[cV (xs:=[.ow\((a_ cs).map cH)]) (items:=(a_ cs).map cH) (ds:=bg (km cs ws)) (by simp[LN P _ _ (show cs.length<1000 by left)]) ⇑[dj,gF] ?_ ([di,y]\cx ⋯)]
  ·rw[dQ]
  ·unfold bg km;rw[zag];refine bN λc B=>?_;have M:c∈cs:=u.mem_iff.mp B;ext(F:λf=>Wt P f T.ln M)(m:j (kr cs ws c) ws.sum ⋯ (pK ⋯));have r:aI bp (cH c)=.tup (aq c):=by show D.tup (ak bp (c.map D.int))=_;rw[kS];rfl
   refine⟨[↥(cH c),↥↑ws.sum,↥(.cF .fz cs (aq ws))],by simp[bK],by simp,?_⟩;simp[r,F,m];rfl
 refine⟨(n,km cs ws),?_,L,by show(km cs ws).length<=5;left,by show 1<=(km cs ws).length;left,by show n<=p;left⟩;simp only[B8]at hf o;generalize km cs ws=R at *;show _=ok (D.tup [.int n,.ow\(bg R)]);simp[mk_eq,Li,x,w,hd,z,d,g,o,hf,a,C]
def qj(a:ds.length≠2):dh (.tup ds)=false:=by
 unfold dh
 match ds,a with
 |[],_=>rfl
 |[_],_=>rfl
 |[_,_],h=>exact absurd rfl h
 |_::y::_::_,_=>cases y<;>rfl
def kZ{n:Int}(h:n<1\/12<n)(f:Fl)(rows:aa):dh (.tup [.int n,.lst f rows])=false:=by
 rw[iu];ext((h|h):h)
 ·rw[zaP (by left:¬ 1<=n)];rfl
 ·rw[zaP (by left:¬ n<=12),zaJ,zat]
def w0(n:Nat)(rs tl:af)(r rl:Row):aa:=[.tup [.int 0,.fz\(bg rs)],.tup [.int 13,.fz\(bg rs)],.tup [.int (-1),.fz\(bg rs)],.tup [.b0,.fz\(bg rs)],.tup [.bl true,.fz\[.tup [.tup [.int 1,.int 1],.tup [.int 0]]]],.fz\[.int n,.fz\(bg rs)]]
def w1(n:Nat)(rs tl:af)(r rl:Row):aa:=[.tup [.int n,.fz\(bg rs),.int 0],.tup [.int n],.tup [.int n,.tup (bg rs)],.tup [.int n,.fz\[]],.tup [.int n,.fz\(bg (rs++[rl]))]]
def w2(n:Nat)(rs tl:af)(r rl:Row):aa:=[.tup [.int n,.fz\(bg (tl++[r]++[r]))]]
def w3(n:Nat)(rs tl:af)(r rl:Row):aa:=[.tup [.int n,.fz\(.fz\[qD r.1,.tup (aq r.2)]::bg tl)],.tup [.int n,.fz\(.tup [qD r.1,.tup (aq r.2),.int 0]::bg tl)],.b0,.str "drawing",.int 1,.fz\[]]
def w4(n:Nat)(rs tl:af)(r rl:Row):aa:=[.tup [.int n,.fz\(.tup [qD r.1,.fz\(aq r.2)]::bg tl)],.tup [.int n,.fz\(.tup [.tup [.int 0,.int 1],.tup (aq r.2)]::bg tl)]]
meta def w5(n:Nat)(rs tl:af)(r rl:Row):aa:=[.tup [.int n,.fz\[.tup [.tup [.int 2,.int 2],.tup [.int 0]]]],.tup [.int n,.fz\[.tup [.tup [.int 1,.int 2],.tup []],.tup [.tup [.int 1,.int 2],.tup []]]],.tup [.int n,.fz\[.tup [.tup [.int 1,.int 1],.tup [.int n]]]]]
meta def w6(n:Nat)(rs tl:af)(r rl:Row):aa:=[.tup [.int n,.fz\[.tup [.tup [.int 1,.int 1],.tup [.int (-1)]]]],.tup [.int n,.fz\[.tup [.tup [.int 1,.int 1],.tup [.bl false]]]],.tup [.int n,.fz\[.tup [.tup [.int 1,.int 1],.tup [.int 0,.int 0]]]]]
meta def w7(n:Nat)(rs tl:af)(r rl:Row):aa:=[.tup [.int n,.fz\[.tup [.tup [.int 1,.int 2],.tup [.int 0]],.tup [.tup [.int 1,.int 2],.tup []]]],.tup [.int n,.fz\[.tup [.tup [.int 3,.int 2],.tup []],.tup [.tup [.int (-1),.int 2],.tup [.int 0]]]],.tup [.int n,.fz\[.tup [.int 1,.tup [.int 0]]]]]
meta def w8(n:Nat)(rs tl:af)(r rl:Row):aa:=[.tup [.int n,.fz\[.tup [.tup [.int 1,.int 1],.tup [.str "0"]]]],.tup [.int n,.fz\[.tup [.tup [.int 1,.int 1],.int 0]]],.tup [.int n,.fz\[.tup [.tup [.int 1,.int 2],.tup []]]]]
meta def NV(n:Nat)(rs tl:af)(r rl:Row):aa:=w0 n rs tl r rl++w1 n rs tl r rl++w2 n rs tl r rl++w3 n rs tl r rl++w4 n rs tl r rl++w5 n rs tl r rl++w6 n rs tl r rl++w7 n rs tl r rl++w8 n rs tl r rl
variable {XR:af}{rl:Row}
def IV{n:Nat}{rs tl:af}{r:Row}(e2:rs=XR++[rl]):∀x∈NV n rs tl r rl,dh x=false:=by
 intro x a;simp only[NV,w0,w1,w2,w3,w4,w5,w6,w7,w8,zbp,zay,zau,zaw,or_false]at a;ext((rfl|rfl|rfl|rfl|rfl|rfl|rfl|rfl|rfl|rfl|rfl|rfl|rfl|rfl|rfl|rfl|rfl|rfl|rfl|rfl|rfl|rfl|rfl|rfl|rfl|rfl|rfl|rfl|rfl|rfl|rfl|rfl):a)
 ·exact kZ ⋯ _ _
 ·exact kZ ⋯ _ _
 ·exact kZ ⋯ _ _
 ·exact qk λ_ h=>by cases h
 ·exact qk λ_ h=>by cases h
 ·rfl
 ·exact qj ⇑5
 ·exact qj ⇑5
 ·exact yF λ_ _ h=>by cases h
 ·exact qi ⇑6
 ·refine gK ?_;exact[o8,e2,zai,zak]\ph rl.2 [] _
 ·refine gK ?_;exact[o8,zai,zak]\ph r.2 [] _
 ·exact bZ aam rfl
 ·exact bZ aam rfl
 ·rfl
 ·rfl
 ·rfl
 ·rfl
 ·exact bZ aam (by simp[eM,bH])
 ·exact bZ aam (by simp[eM,BI])
 ·exact bZ aam (by simp[eM,eA])
 ·exact gK ⇑6
 ·exact bZ aam (by simp[eM,bH,cC])
 ·exact bZ aam (by simp[eM,bH,cC])
 ·exact bZ aam (by simp[eM,bH,cC])
 ·exact bZ aam (by
   have:decide ((uz (numsOf [D.int 0,.int 0])).length=[D.int 0,.int 0].length)=false:=by decide +kernel
   simp only[eM,bH,this,zat,zaJ])
 ·exact gK ⇑6
 ·exact bZ (aap _ aam) (by simp[eM,BI])
 ·exact bZ aam (by simp[eM,eA])
 ·exact bZ aam (by simp[eM,bH,cC])
 ·exact bZ aam (by simp[eM,bH])
 ·exact qi ⇑6
def LZ(d:D):Prop:=CD d/\Sm 6 (dG d).1
def jy{d:D}(h:∀m f rows,d≠.tup [m,.lst f rows]):HP d:=λm f rows e=>absurd e (h m f rows)
def kQ{m:D}{rows:aa}(h:∀d∈rows,LZ d)(i:rows.length<=50):HP (.tup [m,.fz\rows]):=λm f g e=>by
 cases e;refine⟨rfl,λd hd=>(h d hd).1,λa e=>⟨6,λq c=>?_,?_,?_⟩⟩
 ·ext(⟨r,b,rfl⟩:dz.mp c);have:=(h (rD r) ([e]\abD b)).2
  rwa [sV]at this
 ·have:(gg a).length=rows.length:=by rw[e];simp[gg]
  left
 ·have:(gg a).length=rows.length:=by rw[e];simp[gg]
  left
theorem rq(Φ:aV):∀(a b:ai) (ρ ρ':aS),bE Φ a ρ=ok (.nx,ρ')->bE Φ (a++b) ρ=bE Φ b ρ'
 |[],b,ρ,ρ',h=>by cases h;rfl
 |s::a,b,ρ,ρ',h=>by
  rw[bD]at h;show bE Φ (s::(a++b)) ρ=_;rw[bD]
  revert h
  cases ir Φ s ρ with
  |none=>intro h;cases h
  |some x=>cases x with
   |error c=>intro h;cases h
   |ok z =>
    ext(⟨f,d⟩:z);cases f<;>first|exact λh=>rq Φ a b d ρ' h | (intro h;cases h)
meta def uF(es:aA):CS:=.asg (.nm 6) (.bin .add (.v 6) (.lst es))
section
variable {Φ:aV}{ρ:aS}{a b e:CE}{Ys Zs:aa}{Y:D}{es:aA}{ss:ai}{Q:aS->Prop}{l:List (Nat×D)}{n:Nat}{rs:af}
def b_.k(h:aZ Φ e ρ=ok Y:=by rfl)(c:aI aK Y=Y:=by rfl):b_ Φ e ρ Y:=⟨Y,h,c⟩
def b_.cut{d:Bool}{p k:Nat}(c:Φ p=cutD d)(h:b_ Φ a ρ (.fz\Ys))(i:aZ Φ b ρ=ok ↑k):b_ Φ (.cM p [a,b]) ρ (.fz\(iy d k Ys)):=by
 ext(⟨g,ds,j,rfl,_⟩:h.t5);refine⟨.ow\(ak bp (iy d k ds)),?_,?_⟩
 ·rw[MW,bL,bL,j,i];show Φ p [_,_]=_;rw[c];show(if (0:Int)<=(k:Int)then ok (D.lst .ow (ak bp (iy d (k:Int).toNat ds)))else none)=_;rw[zac ⋯,zao]
 ·show D.lst .fz (ak aK (ak bp _))=_;rw[iq,aN,aN];cases d
  ·exact aa2 _ IN
  ·exact aa2 _ IR
def b_.ab8{p:Nat}(d:Φ p=su)(h:b_ Φ a ρ (.fz\Ys))(c:1<=Ys.length):b_ Φ (.cM p [a,.neg ↑1]) ρ (.fz\(Ys.drop (Ys.length - 1))):=by
 ext(⟨g,ds,i,rfl,_⟩:h.t5);rw[aN,zaa]at c;refine⟨.ow\(ak bp (ds.drop (ds.length - 1))),?_,?_⟩
 ·rw[MW,bL,bL,i];show Φ p [_,_]=_;exact[d]\abi ⟨rfl,c⟩
 ·show D.lst .fz (ak aK (ak bp _))=_;rw[iq,aN,aN,zaa,zbB]
theorem Go.cat{W:aa}(A:mv 7 ((6,.fz\W)::l) ρ)(h:bP Φ es ρ Ys)(d:W.length+Ys.length<=1000)(k:∀c,mv 7 ((6,.fz\(W++Ys))::l) c->Go Φ ss c Q)(hn:(l.all λp=>p.1 != 6)=true:=by rfl):Go Φ (uF es::ss) ρ Q :=
 Go.k_ ⟨A.1,A.2.2⟩ (A.2.1.v.cat h.lst rfl rfl d) k (hn:=hn)
end
def sL(n:Nat)(rs:af)(z:Int)(r:Row):List (Nat×D):=[(1,.int z),(2,.int n),(3,.fz\(bg rs)),(4,qD r.1),(5,.tup (aq r.2))]
meta def es0:aA:=[(.tup [↑0,(.v 3)]),(.tup [↑13,(.v 3)]),(.tup [(.neg ↑1),(.v 3)]),(.tup [.b0,(.v 3)]),(.tup [(.bl true),(.lst [(.tup [(.tup [↑1,↑1]),(.tup [↑0])])])]),(.lst [(.v 2),(.v 3)])]
meta def es1:aA:=[(.tup [(.v 2),(.v 3),↑0]),(.tup [(.v 2)]),(.tup [(.v 2),(.bf .tuple1 [(.v 3)])]),(.tup [(.v 2),(.lst [])]),(.tup [(.v 2),(.bin .add (.v 3) (.cM 1083 [(.v 3),(.neg ↑1)]))])]
meta def es2:aA:=[(.tup [(.v 2),(.bin .add (.bin .add (.cM 1020 [(.v 3),↑1]) (.cM 1021 [(.v 3),↑1])) (.cM 1021 [(.v 3),↑1]))])]
meta def es3:aA:=[(.tup [(.v 2),(.bin .add (.lst [(.lst [(.v 4),(.v 5)])]) (.cM 1020 [(.v 3),↑1]))]),(.tup [(.v 2),(.bin .add (.lst [(.tup [(.v 4),(.v 5),↑0])]) (.cM 1020 [(.v 3),↑1]))]),.b0,(.str "drawing"),↑1,(.lst [])]
meta def es4:aA:=[(.tup [(.v 2),(.bin .add (.lst [(.tup [(.v 4),(.bf .list1 [(.v 5)])])]) (.cM 1020 [(.v 3),↑1]))]),(.tup [(.v 2),(.bin .add (.lst [(.tup [(.tup [↑0,↑1]),(.v 5)])]) (.cM 1020 [(.v 3),↑1]))])]
meta def es5:aA:=[(.tup [(.v 2),(.lst [(.tup [(.tup [↑2,↑2]),(.tup [↑0])])])]),(.tup [(.v 2),(.lst [(.tup [(.tup [↑1,↑2]),(.tup [])]),(.tup [(.tup [↑1,↑2]),(.tup [])])])]),(.tup [(.v 2),(.lst [(.tup [(.tup [↑1,↑1]),(.tup [(.v 2)])])])])]
meta def es6:aA:=[(.tup [(.v 2),(.lst [(.tup [(.tup [↑1,↑1]),(.tup [(.neg ↑1)])])])]),(.tup [(.v 2),(.lst [(.tup [(.tup [↑1,↑1]),(.tup [(.bl false)])])])]),(.tup [(.v 2),(.lst [(.tup [(.tup [↑1,↑1]),(.tup [↑0,↑0])])])])]
meta def es7:aA:=[(.tup [(.v 2),(.lst [(.tup [(.tup [↑1,↑2]),(.tup [↑0])]),(.tup [(.tup [↑1,↑2]),(.tup [])])])]),(.tup [(.v 2),(.lst [(.tup [(.tup [↑3,↑2]),(.tup [])]),(.tup [(.tup [(.neg ↑1),↑2]),(.tup [↑0])])])]),(.tup [(.v 2),(.lst [(.tup [↑1,(.tup [↑0])])])])]
meta def es8:aA:=[(.tup [(.v 2),(.lst [(.tup [(.tup [↑1,↑1]),(.tup [(.str "0")])])])]),(.tup [(.v 2),(.lst [(.tup [(.tup [↑1,↑1]),↑0])])]),(.tup [(.v 2),(.lst [(.tup [(.tup [↑1,↑2]),(.tup [])])])])]
meta def Ot:ai:=[.asg (.tp [2,3]) (.v 0),.asg (.tp [4,5]) (.ix (.v 3) ↑0)]
def TY:ai:=[.asg (.nm 6) (.lst es0),uF es1,uF es2,uF es3,uF es4,uF es5,uF es6,uF es7,uF es8]
def jK:ai:=Ot++(TY++[.ret (.ix (.v 6) (.bin .mod (.v 1) ↑32))])
variable {X:D}
section
variable {Φ:aV}{ρ:aS}{n:Nat}{rs tl XR:af}{r rl:Row}(v2:b_ Φ (.v 2) ρ ↑n)(v3:b_ Φ (.v 3) ρ (.fz\(bg rs)))(v4:b_ Φ (.v 4) ρ (qD r.1))(v5:b_ Φ (.v 5) ρ (.tup (aq r.2)))
def x6(a b:af):bg a++bg b=bg (a++b):=by unfold bg;rw[zak]
include v2 v3 in
theorem sp0:bP Φ es0 ρ (w0 n rs tl r rl):=.cons (bP.tup (.cons .k (.cons v3 .nil))) <|.cons (bP.tup (.cons .k (.cons v3 .nil))) <|.cons (bP.tup (.cons .k (.cons v3 .nil))) <|.cons (bP.tup (.cons .k (.cons v3 .nil))) <|.cons ⟨_,rfl,rfl⟩ <|.cons (bP.lst (.cons v2 (.cons v3 .nil))) .nil
include v2 v3 in
theorem sp1(a:Φ 1083=su)(e2:rs=XR++[rl])(b:rs.length<=10):bP Φ es1 ρ (w1 n rs tl r rl):=by
 ext(c:(b_.ab8 a v3 (by rw[e2];simp)))
 have e:(bg rs).drop ((bg rs).length - 1)=bg [rl]:=by unfold bg;rw[<- zbB,zaa,e2];simp
 rw[e]at c;ext(c:v3.cat c rfl rfl (by rw[di,di];simp;left));rw[x6]at c;exact .cons (bP.tup (.cons v2 (.cons v3 (.cons .k .nil)))) <|.cons (bP.tup (.cons v2 .nil)) <|.cons (bP.tup (.cons v2 (.cons v3.SU .nil))) <|.cons (bP.tup (.cons v2 (.cons ⟨_,rfl,rfl⟩ .nil))) <|.cons (bP.tup (.cons v2 (.cons c .nil))) .nil
variable (e1:rs=r::tl)(cL:Φ 1020=cutD true)
include v3 cL e1 in
theorem LX:b_ Φ (.cM 1020 [(.v 3),↑1]) ρ (.fz\(bg tl)):=by
 ext(c:b_.cut (b:=.int 1) (k:=1) cL v3 rfl);rw[e1]at c;exact c
include v2 v3 cL e1 in
theorem sp2(e:Φ 1021=cutD false)(a:rs.length<=10):bP Φ es2 ρ (w2 n rs tl r rl):=by
 ext(t:LX v3 e1 cL);have c:b_ Φ (.cM 1021 [(.v 3),↑1]) ρ (.fz\(bg [r])):=by
  ext(c:b_.cut (b:=.int 1) (k:=1) e v3 rfl);rw[e1]at c;exact c
 have g:tl.length+1<=10:=by rw[e1]at a;exact a
 ext(d:t.cat c rfl rfl (by rw[di,di];simp;left));rw[x6]at d;ext(d:d.cat c rfl rfl (by rw[di,di];simp;left));rw[x6]at d;exact .cons (bP.tup (.cons v2 (.cons d .nil))) .nil
include v3 cL e1 in
theorem zF(a:rs.length<=10){x:CE}(h:b_ Φ x ρ X):b_ Φ (.bin .add (.lst [x]) (.cM 1020 [(.v 3),↑1])) ρ (.fz\(X::bg tl)) :=
 (bP.lst (.cons h .nil)).cat (LX v3 e1 cL) rfl rfl (by rw[e1]at a;simp at a ⊢;left)
include v2 v3 v4 v5 cL e1 in
theorem sp3(a:rs.length<=10):bP Φ es3 ρ (w3 n rs tl r rl) :=
 .cons (bP.tup (.cons v2 (.cons (zF v3 e1 cL a (bP.lst (.cons v4 (.cons v5 .nil)))) .nil))) <|.cons (bP.tup (.cons v2 (.cons (zF v3 e1 cL a (bP.tup (.cons v4 (.cons v5 (.cons .k .nil))))) .nil))) <|.cons .k <|.cons .k <|.cons .k <|.cons ⟨_,rfl,rfl⟩ .nil
include v2 v3 v4 v5 cL e1 in
theorem sp4(a:rs.length<=10):bP Φ es4 ρ (w4 n rs tl r rl) :=
 .cons (bP.tup (.cons v2 (.cons (zF v3 e1 cL a (bP.tup (.cons v4 (.cons v5.ZY .nil)))) .nil))) <|.cons (bP.tup (.cons v2 (.cons (zF v3 e1 cL a (bP.tup (.cons ⟨_,rfl,rfl⟩ (.cons v5 .nil)))) .nil))) .nil
include v2 in
theorem nU{x:CE}(h:b_ Φ x ρ X):b_ Φ (.tup [.v 2,x]) ρ (.tup [.int n,X]):=bP.tup (.cons v2 (.cons h .nil))
include v2 in
theorem sp5:bP Φ es5 ρ (w5 n rs tl r rl):=.cons (nU v2 ⟨_,rfl,rfl⟩) <|.cons (nU v2 ⟨_,rfl,rfl⟩) <|.cons (nU v2 (bP.lst (.cons (bP.tup (.cons ⟨_,rfl,rfl⟩ (.cons (bP.tup (.cons v2 .nil)) .nil))) .nil))) .nil
include v2 in
theorem sp6:bP Φ es6 ρ (w6 n rs tl r rl):=.cons (nU v2 ⟨_,rfl,rfl⟩) <|.cons (nU v2 ⟨_,rfl,rfl⟩) <|.cons (nU v2 ⟨_,rfl,rfl⟩) .nil
include v2 in
theorem sp7:bP Φ es7 ρ (w7 n rs tl r rl):=.cons (nU v2 ⟨_,rfl,rfl⟩) <|.cons (nU v2 ⟨_,rfl,rfl⟩) <|.cons (nU v2 ⟨_,rfl,rfl⟩) .nil
include v2 in
theorem sp8:bP Φ es8 ρ (w8 n rs tl r rl):=.cons (nU v2 ⟨_,rfl,rfl⟩) <|.cons (nU v2 ⟨_,rfl,rfl⟩) <|.cons (nU v2 ⟨_,rfl,rfl⟩) .nil
end
def dW(k:Nat)(rs:af):(bg rs).all (cq (k+2))=true:=oz (Ud k) rs
def Tu{k n:Nat}{rs:af}(I:Dr 6 n rs){r:Row}(a:r∈rs):LZ (rD r):=⟨by
 have:=(I.lot r a).len;have:=I.n2;show(aq r.2).length<64;simp;left,[sV]\I.sm r a⟩
def zG{n:Nat}{rs a:af}(I:Dr 6 n rs)(h:∀s∈a,s∈rs):∀d∈bg a,LZ d:=λd hd=>by
 ext(⟨s,b,rfl⟩:dz.mp hd);exact Tu (k:=0) I (h s b)
def smB(d:D):Bool:=(match d with
 |.tup [_,l]=>(match l with
  |.tup a=>decide (a.length<64)
  |.lst _ a=>decide (a.length<64)
  |_=>true)
 |_=>true)&&(decide ((dG d).1.num.natAbs<64)&&decide ((dG d).1.den<64))
def dU{d:D}(h:smB d=true):LZ d:=by
 unfold smB at h;ext(⟨b,a⟩:aC h)(⟨a,c⟩:aC a);refine⟨?_,aag a,aag c⟩;unfold CD;split
 ·simp only at b;unfold uG;split
  ·have:=aag b;left
  ·exact aag b
  ·trivial
 ·trivial
def EL:∀{n:Nat} {d:D},cq n d=true->cq (n+1) d=true:=by
 intro n;induction n with
 |zero=>intro d h;cases d<;>first|rfl|exact iv (show false=true from h)
 |succ n a=>intro d h;cases d<;>first|rfl|exact iv (show false=true from h)|exact fu.mpr λx b=>a (fu.mp h x b)
def NU{n:Nat}{rs tl:af}{r:Row}(I:Dr 6 n rs)(p:rs.length<=5)(e1:rs=r::tl)(e2:rs=XR++[rl]):∀x∈NV n rs tl r rl,HP x/\cq 38 x=true:=by
 have l:r∈rs:=[e1]\aam
 have o:rl∈rs:=by rw[e2];simp
 have c:∀s∈tl,s∈rs:=λs g=>[e1]\aap _ g
 have u:tl.length<=4:=by rw[e1]at p;simpa using p
 have R:∀(m:D),HP (.tup [m,.fz\(bg rs)]):=λm=>kQ (zG I λ_ h=>h) (by rw[di];left);have C:∀(m x:D),LZ x->HP (.tup [m,.fz\(x::bg tl)]):=λm x h=>kQ (λd hd=>(ci.mp hd).elim (λe=>e▸h) (zG I c d)) (by simp;left);have b:∀(m x:D),LZ x->HP (.tup [m,.fz\[x]]):=λm x h=>kQ (λd hd=>[am.mp hd]\h) ⇑5;have L2:∀(m x y:D),LZ x->LZ y->HP (.tup [m,.fz\[x,y]]):=λm x y h t=>kQ (λd hd=>by
  ext((rfl|hd):ci.mp hd)
  ·exact h
  ·rw[am.mp hd];exact t) ⇑5
 ext(q:Tu (k:=0) I l);have v:r.2.length<64:=by have:=(I.lot r l).len;have:=I.n2;left
 have q0:Sm 6 (0:Rat):=by constructor<;>decide
 have q1:∀a:Int,a=0\/a=1->Sm 6 (ei a 1):=λa h=>by rcases h with rfl|rfl<;>constructor<;>decide +kernel
 have i:∀k,∀x∈aq r.2,cq k x=true:=λk x j=>by ext(⟨y,_,rfl⟩:dz.mp j);simp
 intro x j;simp only[NV,w0,w1,w2,w3,w4,w5,w6,w7,w8,zbp,zay,zau,zaw,or_false]at j;ext((rfl|rfl|rfl|rfl|rfl|rfl|rfl|rfl|rfl|rfl|rfl|rfl|rfl|rfl|rfl|rfl|rfl|rfl|rfl|rfl|rfl|rfl|rfl|rfl|rfl|rfl|rfl|rfl|rfl|rfl|rfl|rfl):j)
 ·exact⟨R _,by simp[cq,dW]⟩
 ·exact⟨R _,by simp[cq,dW]⟩
 ·exact⟨R _,by simp[cq,dW]⟩
 ·exact⟨R _,by simp[cq,dW]⟩
 ·exact⟨b _ _ (dU ⇑6),rfl⟩
 ·exact⟨jy nofun,by simp[cq,dW]⟩
 ·exact⟨jy nofun,by simp[cq,dW]⟩
 ·exact⟨jy nofun,by simp[cq,dW]⟩
 ·exact⟨jy nofun,by simp[cq,dW]⟩
 ·exact⟨kQ nofun ⇑5,by simp[cq]⟩
 ·exact⟨kQ (zG I λs g=>(c0.mp g).elim id λh=>[am.mp h]\o) (by simp;left),by simp[cq,dW]⟩
 ·exact⟨kQ (zG I λs g=>by
   ext((h|h):c0.mp g)
   ·ext((h|h):c0.mp h)
    ·exact c s h
    ·exact[am.mp h]\l
   ·rw[am.mp h];exact l) (by simp;left),by simp[cq,dW]⟩
 ·exact⟨C _ _ ⟨trivial,q0⟩,by simp[cq,dW,vV];exact i _⟩
 ·exact⟨C _ _ ⟨trivial,q0⟩,by simp[cq,dW,vV];exact i _⟩
 ·exact⟨jy nofun,rfl⟩
 ·exact⟨jy nofun,rfl⟩
 ·exact⟨jy nofun,rfl⟩
 ·exact⟨jy nofun,rfl⟩
 ·exact⟨C _ _ ⟨by show(aq r.2).length<=1000000;simp;left,q0⟩,by simp[cq,dW,vV];exact i _⟩
 ·exact⟨C _ _ ⟨q.1,q1 0 (.inl rfl)⟩,by simp[cq,dW,vV];exact i _⟩
 ·exact⟨b _ _ (dU ⇑6),by simp[cq]⟩
 ·exact⟨L2 _ _ _ (dU ⇑6) (dU ⇑6),by simp[cq]⟩
 ·exact⟨b _ _ ⟨by show(1:Nat)<64;decide,q1 1 (.inr rfl)⟩,by simp[cq]⟩
 ·exact⟨b _ _ (dU ⇑6),by simp[cq]⟩
 ·exact⟨b _ _ (dU ⇑6),by simp[cq]⟩
 ·exact⟨b _ _ (dU ⇑6),by simp[cq]⟩
 ·exact⟨L2 _ _ _ (dU ⇑6) (dU ⇑6),by simp[cq]⟩
 ·exact⟨L2 _ _ _ (dU ⇑6) (dU ⇑6),by simp[cq]⟩
 ·exact⟨b _ _ (dU ⇑6),by simp[cq]⟩
 ·exact⟨b _ _ (dU ⇑6),by simp[cq]⟩
 ·exact⟨b _ _ (dU ⇑6),by simp[cq]⟩
 ·exact⟨b _ _ (dU ⇑6),by simp[cq]⟩
def jN(m:aE):Prop:=∀n rs (z:Int),Dr 6 n rs->rs.length<=5->∃d,m [cB n rs,.int z]=ok d/\LF (aI aK d)/\cq 38 (aI aK d)=true
theorem DY(Φ:aV)(u:Φ 1020=cutD true)(H:Φ 1021=cutD false)(L:Φ 1083=su):jN (mk Φ 2 7 jK):=by
 intro n a z I F;have l:a≠[]:=λe=>by
  have:=I.one;rw[e]at this;exact absurd this ⇑4
 ext(⟨r,tl,e1⟩:List.exists_cons_of_ne_nil l);have e2:a=a.dropLast++[a.getLast l]:=(List.dropLast_concat_getLast l).symm;generalize a.getLast l=rl at *;have s:bE Φ Ot [↥(cB n a),↥↑z,none,none,none,none,none]=ok (.nx,[↥(cB n a),↥↑z,↥↑n,↥(.fz\(bg a)),↥(qD r.1),↥(.tup (aq r.2)),none]):=by
  have x:cB n a=.tup [.int n,.fz\(bg a)]:=rfl;have a1:xn (bg a) 0=ok (rD r):=by rw[e1];show xn (rD r::bg tl) 0=_;rw[ace,Ff]
  have K:rD r=.tup [qD r.1,.tup (aq r.2)]:=rfl;rw[x];simp[Ot,a1,K]
 have A:mv 7 (sL n a z r) [↥(cB n a),↥↑z,↥↑n,↥(.fz\(bg a)),↥(qD r.1),↥(.tup (aq r.2)),none]:=⟨rfl,⟨_,rfl,rfl⟩,⟨_,rfl,rfl⟩,⟨_,rfl,by simp[aK]⟩,⟨_,rfl,rfl⟩,⟨_,rfl,by simp⟩,trivial⟩
 obtain⟨o,eq,B⟩:Go Φ TY [↥(cB n a),↥↑z,↥↑n,↥(.fz\(bg a)),↥(qD r.1),↥(.tup (aq r.2)),none] (λo=>mv 7 ((6,.fz\(NV n a tl r rl))::sL n a z r) o):=by
  have m:a.length<=10:=by left
  refine Go.k_ A (sp0 (tl:=tl) (r:=r) (rl:=rl) A.2.2.1.v A.2.2.2.1.v).lst λc A=>?_;ext(h:A.2.2.2.1.v (Φ:=Φ))(g:A.2.2.2.2.1.v (Φ:=Φ));refine Go.cat A (sp1 (tl:=tl) (r:=r) (rl:=rl) h g L e2 m) (abF rfl) λc A=>?_;ext(h:A.2.2.2.1.v (Φ:=Φ))(g:A.2.2.2.2.1.v (Φ:=Φ));refine Go.cat A (sp2 (tl:=tl) (r:=r) (rl:=rl) h g e1 u H m) (abF rfl) λc A=>?_;ext(h:A.2.2.2.1.v (Φ:=Φ))(g:A.2.2.2.2.1.v (Φ:=Φ))(q:A.2.2.2.2.2.1.v (Φ:=Φ))(p:A.2.2.2.2.2.2.1.v (Φ:=Φ));refine Go.cat A (sp3 (tl:=tl) (r:=r) (rl:=rl) h g q p e1 u m) (abF rfl) λc A=>?_;ext(h:A.2.2.2.1.v (Φ:=Φ))(g:A.2.2.2.2.1.v (Φ:=Φ))(q:A.2.2.2.2.2.1.v (Φ:=Φ))(p:A.2.2.2.2.2.2.1.v (Φ:=Φ));refine Go.cat A (sp4 (tl:=tl) (r:=r) (rl:=rl) h g q p e1 u m) (abF rfl) λc A=>?_;refine Go.cat A (sp5 (rs:=a) (tl:=tl) (r:=r) (rl:=rl) A.2.2.2.1.v) (abF rfl) λc A=>?_;refine Go.cat A (sp6 (rs:=a) (tl:=tl) (r:=r) (rl:=rl) A.2.2.2.1.v) (abF rfl) λc A=>?_;refine Go.cat A (sp7 (rs:=a) (tl:=tl) (r:=r) (rl:=rl) A.2.2.2.1.v) (abF rfl) λc A=>?_;exact Go.cat A (sp8 (rs:=a) (tl:=tl) (r:=r) (rl:=rl) A.2.2.2.1.v) (abF rfl) λc A=>Go.nil A
 ext(⟨O,N⟩:iT z (b:=32) ⇑4);obtain⟨j,G⟩:∃j:Nat,z.fmod 32=(j:Int):=⟨(z.fmod 32).toNat,by left⟩
 have M:(NV n a tl r rl).length=32:=rfl;have k:j<(NV n a tl r rl).length:=by left
 have y:aZ Φ (.bin .mod (.v 1) ↑32) o=ok ↑j:=f_ B.2.2.1.v.i rfl (by rw[sM ⇑4,G]);ext(⟨d,w,J,hd⟩:yW (b_.Z9 B.2.1.v y (aaE k)) rfl)(t:aa5 k);rw[<- hd]at t;ext(⟨E,C⟩:NU I F e1 e2 _ t);refine⟨d,?_,⟨Ar d,E,IV e2 _ t⟩,C⟩;rw[mk_eq (ar:=2) (ds:=[cB n a,.int z]) rfl];show iU (bE Φ jK [↥(cB n a),↥↑z,none,none,none,none,none])=_;unfold jK;rw[rq Φ _ _ _ _ s,rq Φ _ _ _ _ eq,bD,J];rfl
end DI
end
section
set_option maxHeartbeats 1000000
namespace DI
open PySem (Str)
def qv{a b:Type}{x:O a}{f:a->O b}{n:Nat}(h:x=↥(.error n)):bd x f=↥(.error n):=by rw[h];rfl
variable {Φ:aV}
def uK{g n:Nat}{es:aA}{ρ:aS}{xs:aa}(b:bY Φ es ρ=ok xs)(a:Φ g (ak aK xs)=↥(.error n)):aZ Φ (.call g es) ρ=↥(.error n):=by
 show bd (bY Φ es ρ) (λxs=>bd (Φ g (ak aK xs)) λr=>ok (aI fC r))=_;rw[b,nL,a];rfl
mutual
theorem oW.err{Φ:aV}{Ψ:Nat->aa->Prop}{n:Nat}(e:∀g ds,Ψ g ds->Φ g ds=↥(.error n)):∀{c:CS} {ρ:aS},oW Φ Ψ n c ρ->ir Φ c ρ=↥(.error n)
 |_,_,.ex h1 h2=>qv (uK h1 (e _ _ h2))
 |_,_,.asg h1 h2=>qv (qv (uK h1 (e _ _ h2)))
 |_,_,.ret h1 h2=>qv (qv (uK h1 (e _ _ h2)))
 |_,_,.rs=>rfl
 |_,_,.Pm (c:=c) (a:=a) (b:=b) (ρ:=ρ) h1 h2=>by
  show bd (wJ Φ c ρ) (λk=>if k then bE Φ a ρ else bE Φ b ρ)=_;exact[h1,nL]\Er.err e h2
 |_,_,.iff (c:=c) (a:=a) (b:=b) (ρ:=ρ) h1 h2=>by
  show bd (wJ Φ c ρ) (λk=>if k then bE Φ a ρ else bE Φ b ρ)=_;exact[h1,nL]\Er.err e h2
 |_,_,.fr (t:=t) (a:=a) (b:=b) (ρ:=ρ) h1 h2 _=>by
  show bd (cI Φ a ρ) (λr=>dD (λd ρ=>cw t d ρ) (λρ=>bE Φ b ρ) r.1 r.2)=_;exact[h1,nL]\HZ.err e h2
theorem Er.err{Φ:aV}{Ψ:Nat->aa->Prop}{n:Nat}(e:∀g ds,Ψ g ds->Φ g ds=↥(.error n)):∀{cs:ai} {ρ:aS},Er Φ Ψ n cs ρ->bE Φ cs ρ=↥(.error n)
 |_,_,.hd (c:=c) (cs:=cs) (ρ:=ρ) h=>by
  rw[bD];unfold rG;exact qv (oW.err e h)
 |_,_,.tl (c:=c) (cs:=cs) (ρ:=ρ) h1 h2=>by
  rw[bD];unfold rG;exact[h1,nL]\Er.err e h2
theorem HZ.err{Φ:aV}{Ψ:Nat->aa->Prop}{n:Nat}(e:∀g ds,Ψ g ds->Φ g ds=↥(.error n)):∀{t:Tg} {b:ai} {ds:aa} {ρ:aS},HZ Φ Ψ n t b ds ρ->dD (λd ρ=>cw t d ρ) (λρ=>bE Φ b ρ) ds ρ=↥(.error n)
 |_,_,_,_,.hd (ρ:=ρ) h1 h2=>by
  unfold dD;exact[h1,nL]\qv (Er.err e h2)
 |_,_,_,_,.tl h1 h2 h3=>by
  unfold dD;exact[h1,nL,h2,nL]\HZ.err e h3
end
def AF{n ar N:Nat}{b:ai}{ds:aa}(h:ds.length=ar/\Er Φ (λg ds=>Φ g ds=↥(.error n)) n b (ds.map some++cj (N - ds.length) none)):mk Φ ar N b ds=↥(.error n):=by
 rw[mk_eq h.1,Er.err ⇑10 h.2];rfl
def Lu(e:Nat)(ds:aa):Prop:=e=1/\∃d,LF d/\ds=[d]
def Sr(e:Nat)(ds:aa):Prop:=e=10/\∃(n:Nat) (gs:af) (Ds:List Dw),gs.length<=1000/\Ds.length<=1000/\(∀d∈Ds,d.2.length<=1000)/\W9 Ds gs/\(12<fV Ds\/500<q_ Ds gs)/\ds=[cB n gs,.fz\(bh .fz Ds)]
def gU(Ds:List Dw):Fz (.fz\(bh .fz Ds)):=⟨by show D.lst .fz (ak aK _)=_;rw[cf];rfl,by show D.lst .fz (ak bp _)=_;rw[cf];rfl,by show(false||aQ cy (bh .fz Ds))=false;rw[m4 rfl];rfl⟩
section
variable {Φ:aV}{Ψ:Nat->aa->Prop}{e:Nat}{ds:aa}
def Wf(a:∀d,LF d->Φ 16 [d]=ok (.bl false))(h:Lu e ds):ds.length=1/\Er Φ Ψ e bR (ds.map some++cj (1 - ds.length) none):=by
 ext(⟨rfl,d,B,rfl⟩:h)(e1:a d B);exact⟨rfl,.hd (.Pm (by simp[B.fz.al,B.fz.fz,e1]) (.hd .rs))⟩
def We(k:HA (Φ 99))(h:Sr e ds):ds.length=2/\Er Φ Ψ e uO (ds.map some++cj (2 - ds.length) none):=by
 ext(⟨rfl,n,b,a,g,j,l,G,i,rfl⟩:h)(e1:yR Φ j .fz ↥(cB n b) [])(e2:Hd Φ k (n:=n) g l G);have c:rg .ju [.ow\(aq (a.map λd=>(d.1:Int)))]=ok ↑(fV a):=wH _ _;have f:rg .ju [.ow\(aq (b.map λr=>md a 1 r.2))]=ok ↑(q_ a b):=wH _ _;refine⟨rfl,?_⟩;show Er Φ Ψ 10 uO [↥(cB n b),↥(.fz\(bh .fz a))];by_cases c1:(12:Int)<fV a
 ·exact .hd (.Pm (by simp[e1,c,c1]) (.hd .rs))
 ·have c2:(500:Int)<q_ a b:=i.resolve_left c1;exact .tl (ρ':=[↥(cB n b),↥(.fz\(bh .fz a))]) (by simp[e1,c,c1]) (.hd (.Pm (by simp[e2,f,c2]) (.hd .rs)))
end
section
variable (Φ:aV)
def r17(b:∀d,LF d->Φ 16 [d]=ok (.bl false)):∀e a,Lu e a->mk Φ 1 1 bR a=↥(.error e):=λe a h=>AF (Wf b h)
def r98(b:HA (Φ 99)):∀e a,Sr e a->mk Φ 2 2 uO a=↥(.error e):=λe a h=>AF (We b h)
end
meta def gN:Nat->az
 |0=>[[]]
 |n+1=>gN n++(gN n).map λl=>l++[(n:Int)]
theorem oS:∀n,(gN n).length=2 ^ n
 |0=>rfl
 |n+1=>by rw[gN,zaf,zaa,oS n,Nat.pow_succ];left
theorem y4:∀n:Nat,(gN n).Nodup/\∀l∈gN n,xD n l
 |0=>⟨by simp[gN],λl h=>[am.mp h]\⟨.nil,nofun⟩⟩
 |n+1=>by
  ext(⟨nd,b⟩:y4 n);refine⟨oy.mpr ⟨nd,?_,λx a y c e=>?_⟩,λl h=>?_⟩
  ·exact nd.map (f:=λl=>l++[(n:Int)]) λx y (h:x≠y) e=>h (List.append_cancel_right e)
  ·ext(⟨l,_,rfl⟩:dz.mp c);have:=(b x a).2 n (by rw[e];simp);left
  ·ext((h|h):c0.mp h)
   ·exact⟨(b l h).1,λx a=>by have:=(b l h).2 x a;left⟩
   ·ext(⟨m,g,rfl⟩:dz.mp h)(⟨i,d⟩:b m g);refine⟨dL.mpr ⟨i,acE _ _,λx a y c=>?_⟩,λx a=>?_⟩
    ·exact[am.mp c]\(d x a).2
    ·ext((a|a):c0.mp a)
     ·have:=d x a;left
     ·rw[am.mp a];left
theorem y3:∀(n:Nat),∀l∈gN n,l.length<=n
 |0,l,h=>[am.mp h]\aat _
 |n+1,l,h=>by
  ext((h|h):c0.mp h)
  ·have:=y3 n l h;left
  ·ext(⟨m,a,rfl⟩:dz.mp h);have:=y3 n m a;simp;left
def gW(n c:Nat):af:=((a_ (gN n)).take c).map λl=>(ei 1 c,l)
def TZ{c:Nat}(h:1<=c):qD (ei 1 c)=.tup [.int 1,.int c]:=by
 have e:ei 1 c=⟨1,c,by left,by simp⟩:=(XV (num:=1) (den:=c) (nz:=by left) (c:=by simp)).symm;rw[e];rfl
theorem vt:∀c:Nat,(cj c (1:Int)).sum=c
 |0=>rfl
 |c+1=>by rw[zaA,zaz,vt c];left
def yZ{n c:Nat}(h:1<=n/\n<=7)(j:1<=c)(i:c<=32)(g:c<=2 ^ n):Dr 6 n (gW n c)/\(gW n c).length=c:=by
 ext(⟨nd,f⟩:y4 n);have e:(a_ (gN n)).Perm (gN n):=abx _ _;have b:(gW n c).length=c:=by
  unfold gW;rw[zaa,zar,e.length_eq,oS];left
 have mem:∀r∈gW n c,r.1=ei 1 c/\xD n r.2:=λr a=>by
  ext(⟨l,b,rfl⟩:dz.mp a);exact⟨rfl,f l (e.mem_iff.mp (abU b))⟩
 have sm:∀r∈gW n c,Sm 6 r.1:=λr a=>by
  exact[(mem r a).1]\LY ⋯ ⇑4 (by show _<64;left)
 have e1:(gW n c).map (·.2)=(a_ (gN n)).take c:=by
  unfold gW;exact[zag]\(aaW λ_ _=>rfl).trans (B1 _)
 have e2:(gW n c).map (·.1)=(cj c (1:Int)).map λx=>ei x c:=by
  rw[List.map_replicate];refine List.eq_replicate_iff.mpr ⟨by rw[zaa,b],λq d=>?_⟩;ext(⟨r,a,rfl⟩:dz.mp d);exact(mem r a).1
 refine⟨⟨by left,by left,⟨c,by left,?_,λr a=>?_⟩,by left,λr a=>(mem r a).2,λr a=>?_,sm,?_,?_,6,?_⟩,b⟩
 ·have:(33:Nat)<2 ^ 250:=by decide
  left
 ·exact[(mem r a).1]\qm ⋯
 ·exact[(mem r a).1]\k7 ⇑4 ⋯
 ·rw[e2,sX _ ⋯];rw[vt];have z:((c:Int):Rat)≠0:=λz=>by rw[zaW]at z;left
  rw[zaE];grind
 ·exact[e1]\(iM nd).sublist (aex _ _)
 ·have d:(gg (gW n c)).length=c:=by unfold gg;rw[zaa,b]
  exact⟨λq d=>by ext(⟨r,a,rfl⟩:dz.mp d);exact sm r a,by left,by left⟩
meta def AL:CE:=.comp 1 (.nm 0) [3] .seq [(.v 2)] [] (.bin .add (.v 0) (.tup [(.v 1)]))
def IL:ai:=[.asg (.nm 2) (.bin .add (.v 2) AL)]
meta def AK:CE:=.comp 1 (.nm 0) [1] .seq [(.cM 1021 [(.cM 1017 [(.v 2)]),(.v 1)])] [] (.tup [(.tup [↑1,(.v 1)]),(.v 0)])
def Hm:ai:=[.asg (.nm 2) (.lst [(.tup [])]),.fr (.nm 3) (.nC (.v 0)) IL,.ret (.tup [(.v 0),AK])]
def dx(a:az):aa:=a.map cH
def d9(g:Fl->Fl)(a:az):ak g (dx a)=dx a:=gF g a
def Ce(p:Fl->Bool)(a:az):aQ p (dx a)=false:=dC p (λl=>by show aQ p (l.map D.int)=false;exact wx p l) a
theorem A6(Φ:aV)(n c:Int):∀(k m:Nat) (f:aM),k+m<=7->∃h,dD (λd g=>cw (.nm 3) d g) (λg=>bE Φ IL g) ((pp k m).map λ(i:Nat)=>D.int (i:Int)) [↥↑n,↥↑c,↥(.ow\(dx (gN k))),f]=ok (.nx,[↥↑n,↥↑c,↥(.ow\(dx (gN (k+m)))),h])
 |k,0,f,_=>⟨f,rfl⟩
 |k,m+1,f,hk=>by
  ext(⟨h,j⟩:A6 Φ n c (k+1) m ↥↑k ⋯);rw[show k+1+m=k+(m+1) by left]at j;refine⟨h,?_⟩;rw[WB,zal];refine eR (ρ1:=[↥↑n,↥↑c,↥(.ow\(dx (gN k))),↥↑k]) ⇑5 (ρ2:=[↥↑n,↥↑c,↥(.ow\(dx (gN (k+1)))),↥↑k]) ?_ j;have r:(gN k).length<=128:=[oS]\abq ⇑4 (by left:k<=7)
  ext(o:y3 k);have e1:aZ Φ AL [↥↑n,↥↑c,↥(.ow\(dx (gN k))),↥↑k]=ok (.ow\(dx ((gN k).map λl=>l++[(k:Int)]))):=by
   unfold AL;rw[cV (xs:=[.al\(dx (gN k))]) (items:=(gN k).map cH) (ds:=(gN k).map λl=>cH (l++[(k:Int)])) (by simp[d9]) (by rw[dj,d9];rfl) (bN λl p=>⟨[↥(cH l),↥↑k],by simp[bK],by simp,?_⟩) ([zaa]\cx ⋯)]
   ·have:=d9 fC ((gN k).map λl=>l++[(k:Int)]);unfold dx at *;rw[zag]at this ⊢;exact aa2 ok (aa2 (D.lst .ow) this)
   ·have:=o l p;ext(b:Hn (a:=l) (b:=[(k:Int)]) (by simp;left));have e:cH l=.tup (aq l):=rfl;have q:D.tup [.int (k:Int)]=.tup (aq [(k:Int)]):=rfl;simp[e,q,b];rfl
  have e2:aZ Φ (.bin .add (.v 2) AL) [↥↑n,↥↑c,↥(.ow\(dx (gN k))),↥↑k]=ok (.ow\(dx (gN (k+1)))):=by
   rw[GN,e1];show dk .add (.al\(ak bp (dx (gN k)))) (.ow\_)=_;rw[d9];refine(abi ⟨rfl,rfl,by unfold dx;rw[zaa,zaa,zaa];show _<=1000000;left⟩).trans ?_;have:dx (gN k)++dx ((gN k).map λl=>l++[(k:Int)])=dx (gN (k+1)):=by unfold dx;rw[<- zak];rfl
   rw[this,d9]
  unfold IL;rw[bD,ze,JW Φ _ _ rfl,e2,fi (by show(false||aQ bW _)=false;rw[Ce];rfl)];rfl
def Lw(m:aE):Prop:=∀n c:Nat,n<=7->1<=c->m [.int n,.int c]=ok (eY .ow (n,gW n c))
def Zu(Φ:aV)(u:Φ 1017=pd)(t:Φ 1021=cutD false):Lw (mk Φ 2 4 Hm):=by
 intro n c r s;ext(⟨g,d⟩:A6 Φ n c 0 n none ⋯);rw[zaD]at d;ext(⟨nd,_⟩:y4 n)(b:UR (Φ:=Φ) (a:=.v 0) (ρ:=[↥↑n,↥↑c,↥(.ow\(dx [[]])),none]) (n:=(n:Int)) rfl ⋯ ⋯);have o:((eg (n:Int).toNat).map λ(k:Nat)=>D.int (k:Int))=(pp 0 n).map λ(i:Nat)=>D.int (i:Int):=by rw[zao,zbr]
 have hf:ir Φ (.fr (.nm 3) (.nC (.v 0)) IL) [↥↑n,↥↑c,↥(.ow\(dx [[]])),none]=_:=gv (by rw[b,o];rfl) d;have p:(gN n).length<=128:=[oS]\abq ⇑4 r
 have x:(a_ (gN n)).length<=128:=by rw[show(a_ (gN n)).length=_ from(P3 _ _).length_eq];exact p
 have m:∀f,Φ 1017 [.lst f (dx (gN n))]=ok (.ow\(dx (a_ (gN n)))):=λf=>by
  rw[u];show(match kz ((gN n).map cH)with|↥nss=>if nss.Nodup/\nss.length<1000 then ok (D.lst .ow ((a_ nss).map cH))else none|none=>none)=_;exact[rK]\abi ⟨nd,by left⟩
 have j:Φ 1021 [.ow\(dx (a_ (gN n))),.int c]=ok (.ow\(dx ((a_ (gN n)).take c))):=by
  rw[t];show(if (0:Int)<=(c:Int)then ok (D.lst .ow (ak bp ((dx (a_ (gN n))).take (c:Int).toNat)))else none)=_;rw[zac ⋯];have:(dx (a_ (gN n))).take (c:Int).toNat=dx ((a_ (gN n)).take c):=by unfold dx;rw[zao,IN]
  rw[this,d9]
 have e2:aZ Φ AK [↥↑n,↥↑c,↥(.ow\(dx (gN n))),g]=ok (.ow\(bg (gW n c))):=by
  unfold AK;rw[cV (xs:=[.ow\(dx ((a_ (gN n)).take c))]) (items:=((a_ (gN n)).take c).map cH) (ds:=bg (gW n c)) (by simp[d9,m,j]) (by rw[dj,d9];rfl) ?_ (by unfold gW;rw[di,zaa,zar];exact cx ⋯)]
  ·rw[dQ]
  ·unfold bg gW;rw[zag];refine bN λl w=>⟨[↥(cH l),↥↑c],by simp[bK],by simp,?_⟩
   have e:cH l=.tup (aq l):=rfl;ext(q:TZ s);simp[e];show _=rD (ei 1 c,l);unfold rD;rw[q]
 rw[mk_eq (ar:=2) (ds:=[.int n,.int c]) rfl];show iU (bE Φ Hm [↥↑n,↥↑c,none,none])=_;have h:ir Φ (.asg (.nm 2) (.lst [(.tup [])])) [↥↑n,↥↑c,none,none]=ok (.nx,[↥↑n,↥↑c,↥(.ow\(dx [[]])),none]):=by simp[dx,cH]
 have e3:aZ Φ (.tup [(.v 0),AK]) [↥↑n,↥↑c,↥(.ow\(dx (gN n))),g]=ok (eY .ow (n,gW n c)):=by
  rw[MV,bL,bL,e2];rfl
 unfold Hm;rw[bD,h,dq,bD,hf,dq,bD,Dg,JW Φ _ _ rfl,e3,fi (by rw[Am];rfl)];rfl
structure LD(Ds:List Dw):Prop where
 l1:1<=Ds.length
 l3:Ds.length<=3
 dr:∀d∈Ds,Dr 6 d.1 d.2
 Gr:∀d∈Ds,d.2.length<=5
 n4:∀d∈Ds,d.1<=4
meta def yB:CE:=.lst [(.call 254 [↑5,↑20]),(.call 254 [↑5,↑25])]
def AM(f:Fl)(d:Bool)(k:Nat)(a:List Dw):iy d k (bh f a)=bh f (iy d k a):=by
 cases d
 ·exact IN.symm
 ·exact IR.symm
def EM(k:Nat)(f:Fl)(d:Dw):cq (k+4) (eY f d)=true:=by
 show(cq (k+3) ↑d.1&&((bg d.2).all (cq (k+2))&&true))=true;rw[gC,dW];rfl
def j6(k:Nat)(f:Fl)(a:List Dw):(bh f a).all (cq (k+4))=true:=oz (EM k f) a
def sN{c:Nat}(b:1<=c)(a:c<=32):Dr 6 5 (gW 5 c)/\(gW 5 c).length=c:=yZ ⇑4 b a (aav a ⇑4)
section
variable {Φ:aV}{ρ:aS}{Ds:List Dw}{N:Int}(L:LD Ds)(v0:b_ Φ (.v 0) ρ (.fz\(bh .fz Ds)))(v1:aZ Φ (.v 1) ρ=ok ↑N)
def Fi(N:Int){m:Nat}(a:0<m):∃j:Nat,j<m/\N.fmod (m:Int)=(j:Int):=by
 ext(⟨d,c⟩:iT N (b:=(m:Int)) ⋯);exact⟨(N.fmod m).toNat,by left,by left⟩
def A7(d:Lw (Φ 254)){a b:CE}{n c:Nat}(hn:n<=7)(e:1<=c)(i:aZ Φ a ρ=ok ↑n)(g:aZ Φ b ρ=ok ↑c):b_ Φ (.call 254 [a,b]) ρ (eY .fz (n,gW n c)):=by
 ext(h:bP.call (f:=254) (Φ:=Φ) (ρ:=ρ) (es:=[a,b]) (Ys:=[.int n,.int c]) ⟨_,by rw[bL,bL,i,g];rfl,rfl⟩ (d n c hn e));rw[dA]at h;exact h
end
end DI
end
section
namespace DI
open PySem PySem.Spec PyProof.Rows L2
def mT{K:av}{h:Heap}{C B:Addr}{b:Bool}(X:K.In h)(q:lz K C LJ "ValueError.__new__" = true)(m:gj K C (.ref B)=↥b):nu C B b h:=by
 ext(⟨r,j,bs,e,i,g,hd,f,c,s,d,p,o,n,l,k,a,_,_,_⟩:AA q);refine⟨_,_,_,_,_,_,_,_,_,_,_,_,_,_,_,_,_,X _ _ a,?_⟩;unfold gj ul at m;rw[a]at m;exact aaV (show ↥((em C::e).contains (.ref B))=↥b from m)
section
variable {P:aG}{w:World}{K:av}{h base:Heap}{mg:aT}(X:K.In h)(G:h.Ns cr mg)⦃x:Str⦄⦃st:Stmt⦄⦃N ps bl:ao⦄⦃tb:List (Nat×Str)⦄⦃cs:List (Str×GK)⦄⦃px:Px⦄
include X G
theorem enW{n y z t w0 w1 YK:Str}{L:Addr}{M:Stmt}{E:eF}{hs:List eF}{c:CS}{Wd:Nat->Option Str}
  {j0 j1 j2 j3:Nat} {a1 a2 a3 b1 b2 b3 pos c1 c2 c3 c4 c5 c6 c7 c8 c9 Hh Hg d1 d2:Pos} (i j l k:Nat) (Φ:aV) (Ψ:Nat->Nat->aa->Prop) (m:aE) (d:Df K x st) (D:V3 N ps (aD st)=true)
  (Kg:bB st=Tw y z t w0 w1 M (E::hs) j0 j1 j2 j3 a1 a2 a3 b1 b2 b3 pos c1 c2 c3 c4 c5 c6 c7 c8 c9 Hh Hg d1 d2/\(XF (aD st) N n y z t i j l&&(qt ⟨aD st,N,λn=>Ch n tb,bl,cs,px⟩ c M&&ID c))=true)
  (I:og px Φ/\HE px Φ) (S:bM (λy=>mg y=none) bl) (pW:bM (λp:Str×GK=>∃u,mg p.1=↥u/\xE K p.2 u) cs)
  (hf:bM (λp:Nat×Str=>Ent P w K mg base k p.2 (Φ p.1)) tb)
  (H0:C9 mg base (aD st) L n y z YK (E::hs)) (A0:xu P w K mg base k L t)
  (hw:∀e s,Wd e=↥s->∃C,C9 mg base (aD st) C n y z s (E::hs)/\xu P w K mg base k C t/\bM (λp:Nat×Str=>(∃b,Ψ e p.1 b)->jR P w K mg base k C p.2 (Ψ e p.1)) tb)
  (J:∀b r,m b=ok r->b.length=ps.length/\((r=.str w0/\∃o,ir Φ c (x8 N j l w0 b)=ok (.nx,o)/\o[j]?=↥↥(.str w0)/\o[l]?=↥↥.b0)\/∃e s,Wd e=↥s/\r=.str s/\oW Φ (Ψ e) e c (x8 N j l w0 b)))
  (hb:∀(kV F pm:Value) (an:Option Addr) (fM ct:Value) (v:aw),v.length=ps.length->y2 (hV x x (eK st) (bB st) (aD st) .none kV F pm an fM ct) ⟨v,[]⟩=pure (ps.zip v):=by first|exact λ_ _ _ _ _ _=>u1 λ_=>rfl|exact λ_ _ _ _ _ _=>u2 λ_ _=>rfl|exact λ_ _ _ _ _ _=>u3 λ_ _ _=>rfl|exact λ_ _ _ _ _ _=>u4 λ_ _ _ _=>rfl|exact λ_ _ _ _ _ _=>u5 λ_ _ _ _ _=>rfl):Ent P w K mg base (k+1) x m:=by
 ext(⟨f,fd,H,a⟩:d)(⟨U,B⟩:Kg)(⟨B,A⟩:aC B)(⟨A,T⟩:aC A);refine⟨f,fd,ps,Bh H (wB D) U B I.1 I.2 (bM.mem S) (bM.two (P:=λy i=>∃u,mg y=↥u/\xE K i u) pW) (bM.tab (P:=λg y=>Ent P w K mg base k y (Φ g)) hf) T A H0 A0 (λb r q=>?_),acA X G a,H.kp,H.binds hb,λb r q=>(J b r q).1⟩;ext(⟨q1,Z⟩:J b r q);refine⟨q1,Z.imp (λz=>z) ?_⟩;rintro ⟨e,s,Y,rfl,V⟩;ext(⟨C,R,Q,O⟩:hw e s Y);exact⟨s,C,e,Ψ e,rfl,R,Q,bM.tab (P:=λg y=>(∃b,Ψ e g b)->jR P w K mg base k C y (Ψ e g)) O,V⟩
end
def Uj{A:Prop}{a b:Nat}{P:aa->Prop}(h:∃c,a=b/\P c)(hn:(a==b)=false:=by rfl):A:=by
 ext(⟨_,rfl,_⟩:h);simp at hn
end DI
end
section
namespace DI
open PySem (Str)
mutual
theorem wM(g h:Fl->Fl):∀a b:D,lA (aI g a) (aI h b)=lA a b
 |.tup as,b=>by cases b<;>first|rfl|exact kX g h as _
 |.lst _ as,b=>by cases b<;>first|rfl|exact kX g h as _
 |.cF _ _ _,b=>by cases b<;>rfl
 |.b0,b=>by cases b<;>rfl
 |.bl _,b=>by cases b<;>rfl
 |.int _,b=>by cases b<;>rfl
 |.str _,b=>by cases b<;>rfl
theorem kX(g h:Fl->Fl):∀as bs:aa,fL (ak g as) (ak h bs)=fL as bs
 |[],bs=>by cases bs<;>rfl
 |a::as,bs=>by
  cases bs with
  |nil=>rfl
  |cons b bs =>
   show(lA (aI g a) (aI h b)&&fL (ak g as) (ak h bs))=_;rw[wM g h a b,kX g h as bs];rfl
end
theorem pC(g:Fl->Fl):∀(n:Nat) (d:D),cq n (aI g d)=cq n d
 |0,d=>by cases d<;>rfl
 |n+1,d=>by
  cases d<;>first|rfl|skip
  all_goals
   show JJ (ak g _) (cq n)=JJ _ (cq n);exact[aN,zaU]\aa2 (JJ _) (funext λd=>pC g n d)
theorem sr{n:Nat}(h:∀d,cq n d=true->lA d d=true):∀a:aa,a.all (cq n)=true->fL a a=true
 |[],_=>rfl
 |d::a,k=>by
  rw[zas,zah]at k;show(lA d d&&fL a a)=true;rw[h d k.1,sr h a k.2];rfl
def GA(n:Nat):∀d:D,cq n d=true->lA d d=true:=by
 induction n with
 |zero=>intro d h;cases d<;>first|rfl|exact acn _|exact iv (show false=true from h)
 |succ n a=>intro d h;cases d<;>first|rfl|exact acn _|exact iv (show false=true from h)|exact sr a _ h
variable {Y:D}
def ZU{a b:D}(e:aI aK a=Y)(d:aI aK b=Y)(c:cq 40 Y=true):jH .ne a b=ok (.bl false):=by
 have g:cq 40 a=true:=[-pC aK,e]\c
 have f:cq 40 b=true:=[-pC aK,d]\c
 rw[Lb g f,<- wM aK aK a b,e,d,GA 40 Y c];rfl
variable {Φ:aV}{ρ:aS}
def UQ{a b:CE}{m n:Int}(d:aZ Φ a ρ=ok ↑m)(c:aZ Φ b ρ=ok ↑n)(f:0<=m)(g:m<=1000)(hn:0<=n)(e:n<=1000):cI Φ (.mM a b) ρ=ok (((eg (n - m).toNat).map λ(k:Nat)=>m+(k:Int)).map D.int,ρ):=by
 show bd (aZ Φ a ρ) _=_;rw[d,cP,c,cP];show(if n<=(cU:Int) /\ -(cU:Int)<=n/\m<=(cU:Int) /\ -(cU:Int)<=m then _ else _)=_;have:(cU:Int)=1000000:=rfl;rw[zac ⋯,zag];rfl
meta def MC:CI:=.mM ↑4 (.bf .max2 [↑6,(.bf .min2 [↑16,(.bf .len [(.v 0)])])])
section
variable {Φ:aV}{ns:ae}
def Ue(g:Fl->Fl)(a:g .sc=.sc):aI g (.sc\(aq ns))=.sc\(aq ns):=by rw[aI,a,gI]
def JV{e:CE}{d:D}:∃g a,cS e ρ (ok d)=ok (g,a)/\aI aK g=aI aK d/\a.length=ρ.length/\∀j Z,At ρ j Z->At a j Z:=by
 cases c:aW bW d with
 |false=>exact⟨d,ρ,fi c,rfl,rfl,λ_ _ h=>h⟩
 |true =>
  refine⟨aI aK d,iF (gJ e) ρ,by rw[pQ c,p_],p8 d,by unfold iF;rw[Sg],λj Z k=>?_⟩;ext(⟨y,i,f⟩:k);unfold At iF;rw[kC,i];by_cases b:j∈gJ e
  ·exact⟨aI aK y,by show ↥(if j∈gJ e then _ else _)=_;rw[zac b];rfl,by rw[p8,f]⟩
  ·exact⟨y,by show ↥(if j∈gJ e then _ else _)=_;rw[zab b],f⟩
end
meta def Bp:ai:=[.ex (.call 17 [(.v 2)])]
def ri:ai:=[.ifs (.or [(.not (.qV (.v 0) .list)),(.cmp .ne (.bf .len [(.v 0)]) (.v 1))]) [.rs 9] [],.fr (.nm 2) (.seq (.v 0)) Bp]
meta def qx:ai:=[.ex (.call 17 [(.v 0)]),.ex (.call 97 [(.v 1),(.ix (.v 0) ↑0)]),.ex (.call 98 [(.v 0),(.v 1)]),.ret (.call 102 [(.v 0),(.v 1)])]
def Hv(e:Nat)(ds:aa):Prop:=∃(d:D) (n:Nat),Fz d/\ds=[d,.int n]/\((e=9/\(eC .list d=false\/∃a,d=.fz\a/\a.length≠n))\/(e=1/\∃(Ds:List Dw) (b:D) (t:aa),Gd Ds/\LF b/\d=.fz\(bh .fz Ds++b::t)/\(bh .fz Ds++b::t).length=n))
def qz(e:Nat)(ds:aa):Prop:=∃x y,Fz x/\Fz y/\ds=[x,y]/\((e=1/\LF x)\/∃(k n:Nat) (rs:af),Dr k n rs/\x=cB n rs/\(Hv e [y,.int n]\/∃a:List Dw,Gd a/\a.length=n/\y=.fz\(bh .fz a)/\W9 a rs/\e=10/\(12<fV a\/500<q_ a rs)))
def qC(e:Nat):Nat->aa->Prop
 |17=>Lu e
 |97=>Hv e
 |98=>Sr e
 |104=>qz e
 |_=>λ_=>False
section
variable {Φ:aV}{Ψ:Nat->aa->Prop}{e:Nat}{ds:aa}
theorem Hc(c:cK (Φ 17))(BV:∀ds,Lu e ds->Ψ 17 ds)(he:e=1){b:D}(B:LF b)(t:aa)(a c2:aM):∀(Ds:List Dw) (c1:aM),Gd Ds->HZ Φ Ψ e (.nm 2) Bp (bh .fz Ds++b::t) [a,c2,c1]
 |[],c1,_=>.hd (ρ1:=[a,c2,↥b]) ⇑5 (.hd (.ex (xs:=[b]) (by simp[B.fz.al]) (by rw[show ak aK [b]=[b] by simp[B.fz.fz]];exact BV _ ⟨he,b,B,rfl⟩)))
 |d::Ds,c1,h=>by
  ext(⟨k,g⟩:h d aam);have i:Φ 17 [eY .fz d]=ok .b0:=c k d.1 d.2 g;exact .tl (ρ1:=[a,c2,↥(eY .fz d)]) (ρ2:=[a,c2,↥(eY .fz d)]) ⇑5 (by simp[Bp,dA,i]) (Hc c BV he B t a c2 Ds _ λx f=>h x (aap _ f))
def M4{ds:aa}{c:aM}(hz:ak aK ds=ds):cI Φ (.seq (.v 0)) [↥(.fz\ds),c,none]=ok (ds,[↥(.fz\ds),c,none]):=by
 have b:aQ bW ds=false:=[-hz]\jG ds
 have a:ak bp ds=ds:=by
  have:=CM (d:=.tup ds) (by show D.tup (ak aK ds)=_;rw[hz]);injection this
 rw[wj (f:=.fz) (ds:=ds) (by simp[a]),hz,b];rfl
def M3{xs:aa}{n:Nat}(h:xs.length=n):ir Φ (.ifs (.or [(.not (.qV (.v 0) .list)),(.cmp .ne (.bf .len [(.v 0)]) (.v 1))]) [.rs 9] []) [↥(.fz\xs),↥↑n,none]=ok (.nx,[↥(.fz\xs),↥↑n,none]):=by
 subst h;have c:jH .ne ↑(xs.length:Int) ↑(xs.length:Int)=ok (.bl false):=by rw[Lb ⇑5 ⇑5,oJ];simp
 have a:(ak bp xs).length=xs.length:=by rw[aN,zaa]
 simp[eC,c,a]
def QQ(j:cK (Φ 17))(BV:∀ds,Lu e ds->Ψ 17 ds)(h:Hv e ds):ds.length=2/\Er Φ Ψ e ri (ds.map some++cj (3 - ds.length) none):=by
 ext(⟨d,n,i,rfl,⟨rfl,h⟩|⟨l,g,b,t,G,B,rfl,f⟩⟩:h)
 ·refine⟨rfl,.hd (.Pm ?_ (.hd .rs))⟩;ext((h|⟨a,rfl,h⟩):h)
  ·simp[i.al,h]
  ·have c:jH .ne ↑(a.length:Int) ↑(n:Int)=ok (.bl true):=by
    rw[Lb ⇑5 ⇑5,oJ,zaP ⋯];rfl
   have f:(ak bp a).length=a.length:=by rw[aN,zaa]
   simp[eC,c,f]
 ·have k:ak aK (bh .fz g++b::t)=bh .fz g++b::t:=by
   have:=i.fz;injection this
  exact⟨rfl,.tl (M3 f) (.hd (.fr (M4 k) (Hc j BV l B t _ _ g none G) rfl))⟩
end
def Hy(m:aE):Prop:=∀a:List Dw,Gd a->m [.fz\(bh .fz a),.int (a.length:Int)]=ok .b0
theorem AV(Φ:aV)(c:cK (Φ 17))(b c2:aM):∀(Ds:List Dw) (c1:aM),Gd Ds->∃a,dD (λd ρ=>cw (.nm 2) d ρ) (λρ=>bE Φ Bp ρ) (bh .fz Ds) [b,c2,c1]=ok (.nx,[b,c2,a])
 |[],c1,_=>⟨c1,rfl⟩
 |d::Ds,c1,h=>by
  ext(⟨k,g⟩:h d aam);have i:Φ 17 [eY .fz d]=ok .b0:=c k d.1 d.2 g;ext(⟨a,e⟩:AV Φ c b c2 Ds ↥(eY .fz d) λx f=>h x (aap _ f));exact⟨a,eR (ρ1:=[b,c2,↥(eY .fz d)]) ⇑5 (ρ2:=[b,c2,↥(eY .fz d)]) (by simp[Bp,dA,i]) e⟩
def Zq(Φ:aV)(c:cK (Φ 17)):Hy (mk Φ 2 3 ri):=by
 intro a G;ext(⟨c1,d⟩:AV Φ c ↥(.fz\(bh .fz a)) ↥↑(a.length:Int) a none G)(hf:gv (Φ:=Φ) (t:=.nm 2) (b:=Bp) (M4 (by rw[cf];rfl)) d);rw[mk_eq (ar:=2) (ds:=[.fz\(bh .fz a),.int (a.length:Int)]) rfl];show iU (bE Φ ri [↥(.fz\(bh .fz a)),↥↑(a.length:Int),none])=_;unfold ri;rw[bD,M3 (l9 .fz a),dq,bD,hf,dq];rfl
section
variable {Φ:aV}{Ψ:Nat->aa->Prop}{e:Nat}{ds:aa}
def Gv{i:Nat}{d:D}(h:ρ[i]?=↥↥d)(f:Fz d):aZ Φ (.v i) ρ=ok d:=[e_v,h]\aa2 ok f.al
def Gm{x y:D}(f:Fz x)(g:Fz y):ak aK [x,y]=[x,y]:=by rw[ak,ak,ak,f.fz,g.fz]
def jh(n:Nat)(rs:af):Fz (cB n rs):=⟨by simp[cB],by simp[cB],by simp[cB,cy]⟩
def SJ{n:Nat}{rs:af}{y:D}(g:Fz y):bY Φ [(.v 1),(.ix (.v 0) ↑0)] [↥(cB n rs),↥y]=ok [y,.int n]:=by
 have h:aZ Φ (.ix (.v 0) ↑0) [↥(cB n rs),↥y]=ok ↑n:=by
  rw[show cB n rs=.tup [.int n,.fz\(bg rs)] from rfl];simp
 rw[bL,Gv rfl g,bL,h];rfl
def SK{x y:D}(f:Fz x)(g:Fz y):bY Φ [(.v 0),(.v 1)] [↥x,↥y]=ok [x,y]:=by
 rw[bL,Gv rfl f,bL,Gv rfl g];rfl
def Dk{k n:Nat}{rs:af}{y:D}(a:cK (Φ 17))(I:Dr k n rs):ir Φ (.ex (.call 17 [(.v 0)])) [↥(cB n rs),↥y]=ok (.nx,[↥(cB n rs),↥y]) :=
 AB (xs:=[cB n rs]) (by rw[bL,Gv rfl (jh n rs)];rfl) ([ak,ak,(jh n rs).fz]\a k n rs I)
def LH{n:Nat}{rs:af}{Ds:List Dw}(b:Hy (Φ 97))(G:Gd Ds)(a:Ds.length=n):ir Φ (.ex (.call 97 [(.v 1),(.ix (.v 0) ↑0)])) [↥(cB n rs),↥(.fz\(bh .fz Ds))]=ok (.nx,[↥(cB n rs),↥(.fz\(bh .fz Ds))]) :=
 AB (SJ (gU Ds)) ([Gm (gU Ds) ⟨rfl,rfl,rfl⟩,-a]\b Ds G)
def AG(f:cK (Φ 17))(o:Hy (Φ 97))(BV:∀ds,Lu e ds->Ψ 17 ds)(UL:∀ds,Hv e ds->Ψ 97 ds)(UK:∀ds,Sr e ds->Ψ 98 ds)(h:qz e ds):ds.length=2/\Er Φ Ψ e qx (ds.map some++cj (2 - ds.length) none):=by
 ext(⟨x,y,i,g,rfl,⟨b,B⟩|⟨k,n,a,I,rfl,h|⟨c,G,j,rfl,l,b,m⟩⟩⟩:h)
 ·exact⟨rfl,.hd (.ex (xs:=[x]) (by rw[bL];show qo (aZ Φ (.v 0) [↥x,↥y]) _=_;rw[Gv rfl i];rfl) ([ak,ak,i.fz]\BV _ ⟨b,x,B,rfl⟩))⟩
 ·exact⟨rfl,.tl (Dk f I) (.hd (.ex (SJ g) ([Gm g ⟨rfl,rfl,rfl⟩]\UL _ h)))⟩
 ·have p:=I.n2;exact⟨rfl,.tl (Dk f I) (.tl (LH o G j) (.hd (.ex (SK (jh n a) (gU c)) ([Gm (jh n a) (gU c)]\UK _ ⟨b,n,a,c,I.len,by left,λd hd=>by ext(⟨k,J⟩:G d hd);exact J.len,l,m,rfl⟩))))⟩
end
def r97(Φ:aV)(b:cK (Φ 17))(BV:∀e a,Lu e a->Φ 17 a=↥(.error e)):∀e a,Hv e a->mk Φ 2 3 ri a=↥(.error e):=λe a h=>AF (QQ b (BV e) h)
def ZI(Φ:aV)(b:cK (Φ 17))(c:Hy (Φ 97))(BV:∀e a,Lu e a->Φ 17 a=↥(.error e))(UL:∀e a,Hv e a->Φ 97 a=↥(.error e))(UK:∀e a,Sr e a->Φ 98 a=↥(.error e)):∀e a,qz e a->mk Φ 2 2 qx a=↥(.error e):=λe a h=>AF (AG b c (BV e) (UL e) (UK e) h)
def W3(m:aE):Prop:=∀a k,Nc a->Dr k a.length (bS a)->∃r,m [cB a.length (bS a),.fz\(bh .fz a)]=ok r
def Zk(Φ:aV)(h:cK (Φ 17))(j:Hy (Φ 97))(b:W6 (Φ 98))(i:Ry (Φ 102)):W3 (mk Φ 2 2 qx):=by
 intro a k K I;have l:=K.l4;ext(e2:b a.length (bS a) a (by simp[bS]) ⋯ (λd hd=>(K.dr d hd).len) (Gw a) K.s12 ([QJ]\K.WH))(e3:UB i K)(w2:SK (Φ:=Φ) (jh a.length (bS a)) (gU a))(c:Gm (jh a.length (bS a)) (gU a))(f:AB (g:=98) w2 ([c]\e2));have e:aZ Φ (.call 102 [(.v 0),(.v 1)]) [↥(cB a.length (bS a)),↥(.fz\(bh .fz a))]=ok (.tup [.int (fV a),.ow\(bg (tS (Fm a)))]):=by
  rw[m7,w2,qu,c,e3];show ok (D.tup [.int (fV a),.ow\(ak fC (bg (tS (Fm a))))])=_;rw[dQ]
 refine⟨.tup [.int (fV a),.ow\(bg (tS (Fm a)))],(mk_eq (ar:=2) (ds:=[cB a.length (bS a),.fz\(bh .fz a)]) rfl).trans ?_⟩;show iU (bE Φ qx [↥(cB a.length (bS a)),↥(.fz\(bh .fz a))])=_;unfold qx;rw[bD,Dk h I,dq,bD,LH j (λd hd=>⟨6,K.dr d hd⟩) rfl,dq,bD,f,dq,bD,Dg,O0,e,fi (by show(false||(false||aQ bW _)||false)=false;rw[jF];rfl)];rfl
def RG(x y:D)(s:Str):Prop:=(s = "drawing" /\ qz 1 [x,y])\/(s = "groups" /\ qz 9 [x,y])\/(s = "many" /\ qz 10 [x,y])\/(s = "told" /\ ∃a k,Nc a/\Dr k a.length (bS a)/\x=cB a.length (bS a)/\y=.fz\(bh .fz a))
def Ss(Ys:aa):Prop:=∃x y s,Ys=[x,y,.str s]/\RG x y s/\cq 39 x=true/\cq 39 y=true
meta def GD:CE:=.bin .add (.bin .add (.cM 1021 [(.v 1),(.v 5)]) (.lst [(.call 252 [(.ix (.v 1) (.v 5)),(.bin .fdiv (.v 2) ↑3)])])) (.cM 1020 [(.v 1),(.bin .add (.v 5) ↑1)])
meta def yC:CE:=.ix (.lst [(.bin .add (.v 1) (.cM 1021 [(.v 1),↑1])),(.cM 1020 [(.v 1),↑1]),(.bf .tuple1 [(.v 1)]),.b0,(.str "inner"),(.tup [↑1,(.lst [])])]) (.bin .mod (.bin .fdiv (.v 2) ↑96) ↑6)
meta def Wn:CE:=.tup [↑3,(.lst [(.tup [(.tup [↑1,↑1]),(.tup [↑0])])])]
meta def Wm:CE:=.tup [↑2,(.lst [(.tup [(.tup [↑1,↑2]),(.tup [])]),(.tup [(.tup [↑1,↑2]),(.tup [↑0,↑1])])])]
meta def Wl:CE:=.tup [↑2,(.lst [(.tup [(.tup [↑1,↑1]),(.tup [↑0,↑1])])])]
meta def Wk:CE:=.lst [(.call 254 [↑5,↑32]),(.call 254 [↑7,↑9]),(.tup [↑1,(.lst [(.tup [(.tup [↑1,↑1]),(.tup [↑0])])])])]
meta def RO(a b c:CE):CS:=.ret (.lst [a,b,c])
def Kd(k:Int)(a b:CE)(s:Str):CS:=.ifs (.cmp .eq (.v 3) ↑k) [RO a b (.str s)] []
meta def p48:ai:=[.asg (.nm 3) (.bin .mod (.v 2) ↑8),.asg (.nm 2) (.bin .fdiv (.v 2) ↑8)]
def g48:ai:=[.asg (.nm 4) (.str "told"),.asg (.nm 5) (.bin .mod (.v 2) (.bf .len [(.v 1)])),.ifs (.cmp .eq (.bin .mod (.v 3) ↑2) ↑1) [.asg (.nm 1) GD,.asg (.nm 4) (.str "drawing")] [],.ifs (.cmp .gt (.v 3) ↑4) [.asg (.nm 1) yC,.asg (.nm 4) (.str "groups")] [],.ifs (.or [(.cmp .eq (.v 3) ↑4),(.cmp .eq (.v 3) ↑7)]) [.asg (.nm 0) (.call 252 [(.v 0),(.bin .fdiv (.v 2) ↑576)]),.asg (.nm 4) (.str "drawing")] []]
def q48:ai:=[Kd 0 Wn Wk "many",Kd 1 Wm yB "many",Kd 2 Wl yB "told"]
def qy:ai:=p48++(q48++(g48++[RO (.v 0) (.v 1) (.v 4)]))
def mq(Φ:aV)(a:ai)(ρ:aS)(P:aa->Prop):Prop:=∃(d:D) (ρ':aS) (Ys:aa),bE Φ a ρ=ok (.rt d,ρ')/\aI aK d=.fz\Ys/\P Ys
variable {M:Int}
section
variable {Φ:aV}{ρ:aS}{a b c:CE}{ss ts:ai}{X Y Z:D}{P:aa->Prop}
def mq.ret(i:b_ Φ a ρ X)(g:b_ Φ b ρ Y)(f:b_ Φ c ρ Z)(h:P [X,Y,Z]):mq Φ [RO a b c] ρ P:=by
 ext(⟨d,e,k,j⟩:yW (bP.lst (.cons i (.cons g (.cons f .nil)))) rfl);exact⟨d,e,_,by unfold RO;rw[bD,k];rfl,j,h⟩
def mq.if1{k:CE}{s:CS}(f:aZ Φ k ρ=ok (.bl true))(h:mq Φ [s] ρ P):mq Φ (.ifs k [s] []::ss) ρ P:=by
 ext(⟨d,e,j,i,g⟩:h);refine⟨d,e,j,?_,g⟩;have:ir Φ (.ifs k [s] []) ρ=ok (.rt d,e):=[xG,f]\i
 rw[bD,this];rfl
def mq.UX{k:CE}(f:aZ Φ k ρ=ok (.bl false))(h:mq Φ ss ρ P):mq Φ (.ifs k ts []::ss) ρ P:=by
 ext(⟨d,e,j,i,g⟩:h);refine⟨d,e,j,?_,g⟩;have:ir Φ (.ifs k ts []) ρ=ok (.nx,ρ):=by rw[xG,f];rfl
 exact[bD,this]\i
def AD{k:Int}(h:aZ Φ a ρ=ok ↑M):aZ Φ (.cmp .eq a ↑k) ρ=ok (.bl (decide (M=k))):=uw h rfl (by rw[Rl ⇑5 ⇑5,oJ])
def mq.eq{k:Int}{s:Str}(h:aZ Φ (.v 3) ρ=ok ↑M)(d:M=k->mq Φ [RO a b (.str s)] ρ P)(e:M≠k->mq Φ ss ρ P):mq Φ (Kd k a b s::ss) ρ P:=by
 ext(c:AD (k:=k) h);by_cases z:M=k
 ·rw[zaK z]at c;exact mq.if1 c (d z)
 ·rw[zaP z]at c;exact mq.UX c (e z)
def mq.go{Q:aS->Prop}(g:Go Φ ts ρ Q)(h:∀e,Q e->mq Φ ss e P):mq Φ (ts++ss) ρ P:=by
 ext(⟨e,e1,q⟩:g)(⟨d,f,k,j,i⟩:h e q);exact⟨d,f,k,by rw[rq Φ _ _ _ _ e1,j],i⟩
def Go.ifB{k:CE}{t:Bool}{Q:aS->Prop}(f:aZ Φ k ρ=ok (.bl t))(g:t=true->Go Φ ts ρ (λd=>Go Φ ss d Q))(h:t=false->Go Φ ss ρ Q):Go Φ (.ifs k ts []::ss) ρ Q:=by
 cases t with
 |false=>exact Go.UX f (h rfl)
 |true =>
  ext(⟨d,e1,e,e2,q⟩:g rfl);have:ir Φ (.ifs k ts []) ρ=ok (.nx,d):=[xG,f]\e1
  exact⟨e,[bD,this]\e2,q⟩
end
def Gb(n:Nat)(y:D):Prop:=Fz y/\(eC .list y=false\/∃a,y=.fz\a/\a.length≠n)/\cq 39 y=true
variable {Zs:aa}
section
variable {Φ:aV}{ρ:aS}{N:Int}
def abB(w:Φ 1020=cutD true)(t:Φ 1021=cutD false){n:Nat}(hn:Zs.length=n)(z:1<=n)(A:n<=12)(g:Zs.all (cq 38)=true)(a:b_ Φ (.v 1) ρ (.fz\Zs))(o:aZ Φ (.v 2) ρ=ok ↑N):∃y,b_ Φ yC ρ y/\Gb n y:=by
 ext(⟨j,i,u⟩:Fi (N.fdiv 96) (m:=6) ⇑4);have p:aZ Φ (.bin .mod (.bin .fdiv (.v 2) ↑96) ↑6) ρ=ok ↑j:=f_ (f_ o rfl (gh ⇑4)) rfl ((sM ⇑4).trans (by rw[show(N.fdiv 96).fmod 6=(j:Int) from u]));ext(c1:b_.cut (k:=1) (b:=.int 1) t a rfl)(x:b_.cut (k:=1) (b:=.int 1) w a rfl)(a1:a.cat c1 rfl rfl (by simp[iy];left));have s:b_ Φ .b0 ρ .b0:=.k;have r:b_ Φ (.str "inner") ρ (.str "inner"):=.k;have q:b_ Φ (.tup [↑1,(.lst [])]) ρ (.tup [.int 1,.fz\[]]):=⟨_,rfl,rfl⟩
 ext(h:b_.Z9 (j:=j) (bP.lst (.cons a1 (.cons x (.cons a.SU (.cons s (.cons r (.cons q .nil))))))) p (aaE i))(⟨f,l,e⟩:h);refine⟨_,⟨f,l,e⟩,[-e]\Ar f,?_⟩;have c:∀d∈Zs,cq 38 d=true:=fu.mp g
 match j,i with
 |0,_=>exact⟨.inr ⟨_,rfl,by simp[iy];left⟩,fu.mpr λd hd=>(c0.mp hd).elim (c d) λhd=>c d (abU hd)⟩
 |1,_=>exact⟨.inr ⟨_,rfl,by simp[iy];left⟩,fu.mpr λd hd=>c d (ady hd)⟩
 |2,_=>exact⟨.inl rfl,g⟩
 |3,_=>exact⟨.inl rfl,rfl⟩
 |4,_=>exact⟨.inl rfl,rfl⟩
 |5,_=>exact⟨.inl rfl,rfl⟩
end
meta def hf:Rat:=⟨1,2,by decide,by decide⟩
meta def R0:af:=[((1:Rat),[0])]
meta def R1:af:=[(hf,[]),(hf,[0,1])]
def R2:af:=[((1:Rat),[0,1])]
def Xo:Sm 6 (1:Rat):=by constructor<;>decide
def Xn:Sm 6 hf:=by constructor<;>decide
def dr0{n:Nat}(e:1<=n)(d:n<=12):Dr 6 n R0:=by
 refine⟨e,d,⟨1,by decide,by decide,λr a=>?_⟩,by decide,λr a=>?_,λr a=>?_,λr a=>?_,by decide +kernel,acE _ _,6,λx b=>?_,by simp[gg,R0],by simp[gg,R0]⟩
 ·rw[am.mp a];decide
 ·exact[am.mp a]\⟨acE _ _,λh c=>by rw[am.mp c];left⟩
 ·rw[am.mp a];decide
 ·exact[am.mp a]\Xo
 ·exact[am.mp b]\Xo
def ab4:Dr 6 2 R2:=by
 refine⟨by decide,by decide,⟨1,by decide,by decide,λr a=>?_⟩,by decide,λr a=>?_,λr a=>?_,λr a=>?_,by decide +kernel,acE _ _,6,λx b=>?_,by simp[gg,R2],by simp[gg,R2]⟩
 ·rw[am.mp a];decide
 ·exact[am.mp a]\⟨by decide,by decide⟩
 ·rw[am.mp a];decide
 ·exact[am.mp a]\Xo
 ·exact[am.mp b]\Xo
def ab5:Dr 6 2 R1:=by
 refine⟨by decide,by decide,⟨2,by decide,by decide,λr b=>?_⟩,by decide,λr b=>?_,λr b=>?_,λr b=>?_,by decide +kernel,.cons (λa h=>by rw[am.mp h];rfl) (acE _ _),6,λx c=>?_,by simp[gg,R1],by simp[gg,R1]⟩
 ·ext((rfl|b):ci.mp b)
  ·decide
  ·rw[am.mp b];decide
 ·ext((rfl|b):ci.mp b)
  ·exact⟨Da,nofun⟩
  ·exact[am.mp b]\⟨by decide,by decide⟩
 ·ext((rfl|b):ci.mp b)
  ·decide
  ·rw[am.mp b];decide
 ·ext((rfl|b):ci.mp b)
  ·exact Xn
  ·exact[am.mp b]\Xn
 ·ext((rfl|b):ci.mp c)
  ·exact Xn
  ·exact[am.mp b]\Xn
section
variable {Φ:aV}{ρ:aS}(pZ:Lw (Φ 254))
include pZ
theorem U1:b_ Φ Wk ρ (.fz\(bh .fz [(5,gW 5 32),(7,gW 7 9),(1,R0)])):=by
 ext(a:A7 pZ (a:=.int 5) (b:=.int 32) (n:=5) (c:=32) (ρ:=ρ) ⇑4 ⇑4 rfl rfl)(b:A7 pZ (a:=.int 7) (b:=.int 9) (n:=7) (c:=9) (ρ:=ρ) ⇑4 ⇑4 rfl rfl);have r:b_ Φ (.tup [↑1,(.lst [(.tup [(.tup [↑1,↑1]),(.tup [↑0])])])]) ρ (eY .fz (1,R0)):=⟨_,rfl,rfl⟩
 exact bP.lst (.cons a (.cons b (.cons r .nil)))
theorem zu:b_ Φ yB ρ (.fz\(bh .fz [(5,gW 5 20),(5,gW 5 25)])):=by
 ext(a:A7 pZ (a:=.int 5) (b:=.int 20) (n:=5) (c:=20) (ρ:=ρ) ⇑4 ⇑4 rfl rfl)(b:A7 pZ (a:=.int 5) (b:=.int 25) (n:=5) (c:=25) (ρ:=ρ) ⇑4 ⇑4 rfl rfl);exact bP.lst (.cons a (.cons b .nil))
end
def Wx:b_ Φ Wn ρ (cB 3 R0):=⟨_,rfl,rfl⟩
def Ww:b_ Φ Wm ρ (cB 2 R1):=⟨_,rfl,rfl⟩
def Wv:b_ Φ Wl ρ (cB 2 R2):=⟨_,rfl,rfl⟩
def tU(k n:Nat)(rs:af):cq (k+4) (cB n rs)=true:=EM k .fz (n,rs)
def m0:Ss [cB 3 R0,.fz\(bh .fz [(5,gW 5 32),(7,gW 7 9),(1,R0)]),.str "many"]:=by
 refine⟨_,_,_,rfl,.inr (.inr (.inl ⟨rfl,_,_,jh 3 R0,gU _,rfl,.inr ⟨6,3,R0,dr0 ⇑4 ⇑4,rfl,.inr ⟨[(5,gW 5 32),(7,gW 7 9),(1,R0)],λd hd=>?_,rfl,rfl,?_,rfl,.inl (by simp[fV])⟩⟩⟩)),tU 35 3 R0,j6 34 .fz [(5,gW 5 32),(7,gW 7 9),(1,R0)]⟩
 ·simp only[zau,zaw,or_false]at hd;ext((rfl|rfl|rfl):hd)
  ·exact⟨6,(yZ ⇑4 ⇑4 ⇑4 ⇑4).1⟩
  ·exact⟨6,(yZ ⇑4 ⇑4 ⇑4 ⇑4).1⟩
  ·exact⟨6,dr0 ⇑4 ⇑4⟩
 ·intro r b g a;rw[am.mp b]at a;exact[am.mp a]\⟨by decide,by simp⟩
def abA:Gd [(5,gW 5 20),(5,gW 5 25)]:=λd hd=>by
 simp only[zau,zaw,or_false]at hd;ext((rfl|rfl):hd)
 ·exact⟨6,(sN ⇑4 ⇑4).1⟩
 ·exact⟨6,(sN ⇑4 ⇑4).1⟩
def m1':Ss [cB 2 R1,.fz\(bh .fz [(5,gW 5 20),(5,gW 5 25)]),.str "many"]:=by
 refine⟨_,_,_,rfl,.inr (.inr (.inl ⟨rfl,_,_,jh 2 R1,gU _,rfl,.inr ⟨6,2,R1,ab5,rfl,.inr ⟨[(5,gW 5 20),(5,gW 5 25)],abA,rfl,rfl,?_,rfl,.inr ?_⟩⟩⟩)),tU 35 2 R1,j6 34 .fz [(5,gW 5 20),(5,gW 5 25)]⟩
 ·intro r a g b;ext((rfl|a):ci.mp a)
  ·cases b
  ·rw[am.mp a]at b
   revert g
   decide
 ·ext(e:(sN (c:=20) ⇑4 ⇑4).2)(d:(sN (c:=25) ⇑4 ⇑4).2);simp[q_,R1,md,e,d]
def m2':Ss [cB 2 R2,.fz\(bh .fz [(5,gW 5 20),(5,gW 5 25)]),.str "told"]:=by
 ext(⟨f,b⟩:sN (c:=20) ⇑4 ⇑4)(⟨e,a⟩:sN (c:=25) ⇑4 ⇑4);refine⟨_,_,_,rfl,.inr (.inr (.inr ⟨rfl,[(5,gW 5 20),(5,gW 5 25)],6,⟨by decide,by decide,λd hd=>?_,by simp[fV],by simp[kA,b,a]⟩,ab4,rfl,rfl⟩)),tU 35 2 R2,j6 34 .fz [(5,gW 5 20),(5,gW 5 25)]⟩;simp only[zau,zaw,or_false]at hd;ext((rfl|rfl):hd)
 ·exact f
 ·exact e
structure LB(n:Nat)(rs:af)(Ds:List Dw):Prop where
 n3:n<=3
 I:Dr 6 n rs
 l5:rs.length<=5
 ln:Ds.length=n
 dr:∀d∈Ds,Dr 6 d.1 d.2
 Gr:∀d∈Ds,d.2.length<=5
meta def WG:CE:=.cmp .eq (.bin .mod (.v 3) ↑2) ↑1
meta def WE:CE:=.cmp .gt (.v 3) ↑4
meta def WD:CE:=.or [(.cmp .eq (.v 3) ↑4),(.cmp .eq (.v 3) ↑7)]
def V1:CS:=.ifs WG [.asg (.nm 1) GD,.asg (.nm 4) (.str "drawing")] []
def Qd:CS:=.ifs WE [.asg (.nm 1) yC,.asg (.nm 4) (.str "groups")] []
def Ku:CS:=.ifs WD [.asg (.nm 0) (.call 252 [(.v 0),(.bin .fdiv (.v 2) ↑576)]),.asg (.nm 4) (.str "drawing")] []
def Qe:g48=[.asg (.nm 4) (.str "told"),.asg (.nm 5) (.bin .mod (.v 2) (.bf .len [(.v 1)])),V1,Qd,Ku]:=rfl
def Ow{p q:CE}{a b:Bool}(d:aZ Φ p ρ=ok (.bl a))(c:aZ Φ q ρ=ok (.bl b)):aZ Φ (.or [p,q]) ρ=ok (.bl (a||b)):=by
 cases a<;>simp[d,c]
def Ba(ρ:aS):Prop:=∃x y s,mv 6 [(0,x),(1,y),(4,.str s)] ρ/\Ss [x,y,.str s]
section
variable {Φ:aV}{ρ:aS}{n:Nat}{rs:af}{N M:Int}{y:D}{s:Str}
def LU(j:jN (Φ 252))(I:Dr 6 n rs)(o:rs.length<=5)(A:mv 6 [(1,y),(4,.str s),(2,.int N),(3,.int M),(0,cB n rs)] ρ)(a:Fz y)(c:cq 39 y=true)
  (hd:¬ (M=4\/M=7)->(s = "drawing" /\ Hv 1 [y,.int n])\/(s = "groups" /\ Hv 9 [y,.int n])):Go Φ [Ku] ρ Ba:=by
 ext(b:A.2.2.2.2.1.v.i (Φ:=Φ));have p:aZ Φ WD ρ=ok (.bl (decide (M=4)||decide (M=7))):=Ow (AD b) (AD b);refine Go.ifB p (λ_=>?_) λh=>?_
 ·ext(⟨r,e1,B,m⟩:j n rs (N.fdiv 576) I o)(g:A.2.2.2.2.2.1.v (Φ:=Φ));have u:b_ Φ (.bin .fdiv (.v 2) ↑576) ρ ↑(N.fdiv 576):=.k (f_ A.2.2.2.1.v.i rfl (gh ⇑4));refine Go.k_ (l:=[(1,y)]) ⟨A.1,A.2.1,trivial⟩ (bP.call (f:=252) (.cons g (.cons u .nil)) e1) λe A=>?_;refine Go.k_ A (Y:=.str "drawing") .k λd A=>Go.nil (Go.nil ?_);exact⟨_,_,_,⟨A.1,A.2.2.1,A.2.2.2.1,A.2.1,trivial⟩,_,_,_,rfl,.inl ⟨rfl,_,_,Ar r,a,rfl,.inl ⟨rfl,B⟩⟩,EL m,c⟩
 ·rw[tv]at h;ext(t:aek h.1)(q:aek h.2);refine Go.nil ⟨_,_,_,⟨A.1,A.2.2.2.2.2.1,A.2.1,A.2.2.1,trivial⟩,_,_,_,rfl,?_,tU 35 n rs,c⟩;rcases hd (λz=>z.elim t q)with ⟨rfl,h⟩|⟨rfl,h⟩
  ·exact .inl ⟨rfl,_,_,jh n rs,a,rfl,.inr ⟨6,n,rs,I,rfl,.inl h⟩⟩
  ·exact .inr (.inl ⟨rfl,_,_,jh n rs,a,rfl,.inr ⟨6,n,rs,I,rfl,.inl h⟩⟩)
def LV(a:jN (Φ 252))(r:Φ 1020=cutD true)(q:Φ 1021=cutD false)(I:Dr 6 n rs)(b:rs.length<=5)(hn:Zs.length=n)(c:Zs.all (cq 38)=true)(A:mv 6 [(1,.fz\Zs),(4,.str s),(2,.int N),(3,.int M),(0,cB n rs)] ρ)
  (hd:¬ 4<M->¬ (M=4\/M=7)->s = "drawing" /\ Hv 1 [.fz\Zs,.int n]):Go Φ [Qd,Ku] ρ Ba:=by
 ext(m:A.2.2.2.2.1.v.i (Φ:=Φ));have p:aZ Φ WE ρ=ok (.bl (decide (4<M))):=uw m rfl rfl;refine Go.ifB p (λ_=>?_) λh=>?_
 ·ext(⟨y,j,d,g,o⟩:abB r q hn I.n1 I.n2 c A.2.1.v A.2.2.2.1.v.i);refine Go.k_ (l:=[(2,.int N),(3,.int M),(0,cB n rs)]) ⟨A.1,A.2.2.2.1,A.2.2.2.2.1,A.2.2.2.2.2.1,trivial⟩ j λf A=>?_;refine Go.k_ A (Y:=.str "groups") .k λe A=>Go.nil (LU (y:=y) (s:="groups") a I b ⟨A.1,A.2.2.1,A.2.1,A.2.2.2.1,A.2.2.2.2.1,A.2.2.2.2.2.1,trivial⟩ d o λ_=>.inr ⟨rfl,y,n,d,rfl,.inl ⟨rfl,g⟩⟩)
 ·exact LU a I b A A.2.1.fz c λz=>.inl (hd (aek h) z)
def To(c:jN (Φ 252))(m:Φ 1020=cutD true)(j:Φ 1021=cutD false){Ds:List Dw}(L:LB n rs Ds){k:Nat}(g:k<Ds.length)(K:3<=M)(J:M<8)
  (A:mv 6 [(5,.int k),(4,.str "told"),(2,.int N),(3,.int M),(0,cB n rs),(1,.fz\(bh .fz Ds))] ρ):Go Φ [V1,Qd,Ku] ρ Ba:=by
 ext(u:A.2.2.2.2.1.v.i (Φ:=Φ));have z:aZ Φ WG ρ=ok (.bl (decide (M.fmod 2=1))):=AD (f_ u rfl (sM ⇑4));ext(e:l9 .fz Ds);have H:=L.n3;have x:=L.ln;refine Go.ifB z (λ_=>?_) λh=>?_
 ·ext(hd:aaE g)(⟨r,e1,B,w⟩:c Ds[k].1 Ds[k].2 (N.fdiv 3) (L.dr _ (aa5 g)) (L.Gr _ (aa5 g)))(b:A.2.2.2.2.2.2.1.v (Φ:=Φ))(a:A.2.1.v.i (Φ:=Φ))(c1:b_.cut j b a);have c2:b_ Φ (.cM 1020 [(.v 1),(.bin .add (.v 5) ↑1)]) _ _:=b_.cut (k:=k+1) m b (f_ a rfl rfl);have G:b_ Φ (.ix (.v 1) (.v 5)) _ (eY .fz Ds[k]):=b_.Z9 b a (by unfold bh;rw[bv,hd];rfl);have F:b_ Φ (.bin .fdiv (.v 2) ↑3) _ ↑(N.fdiv 3):=.k (f_ A.2.2.2.1.v.i rfl (gh ⇑4));ext(E:bP.lst (.cons (bP.call (f:=252) (.cons G (.cons F .nil)) e1) .nil))(p:(c1.cat E rfl rfl (by simp[iy,e];left)).cat c2 rfl rfl (by simp[iy,e];left));rw[AM,AM,zai]at p;have o:(bh .fz (Ds.take k)++aI aK r::bh .fz (Ds.drop (k+1))).length=n:=by
   rw[zaf,zae,l9,l9,zar,zbo];left
  refine Go.k_ (l:=[(2,.int N),(3,.int M),(0,cB n rs)]) ⟨A.1,A.2.2.2.1,A.2.2.2.2.1,A.2.2.2.2.2.1,trivial⟩ p λt A=>?_;refine Go.k_ A (Y:=.str "drawing") .k λq A=>Go.nil ?_;refine LV c m j L.I L.l5 o ?_ ⟨A.1,A.2.2.1,A.2.1,A.2.2.2.1,A.2.2.2.2.1,A.2.2.2.2.2.1,trivial⟩ λ_ _=>⟨rfl,_,n,A.2.2.1.fz,rfl,.inr ⟨rfl,Ds.take k,aI aK r,_,λd hd=>⟨6,L.dr d (abU hd)⟩,B,rfl,o⟩⟩
  rw[List.all_append,zas,w,j6 34 .fz,j6 34 .fz];rfl
 ·refine LV c m j L.I L.l5 (Zs:=bh .fz Ds) (s:="told") (e.trans x) (j6 34 .fz Ds) ⟨A.1,A.2.2.2.2.2.2.1,A.2.2.1,A.2.2.2.1,A.2.2.2.2.1,A.2.2.2.2.2.1,trivial⟩ λO C=>?_;have:M=3:=by left
  subst this;cases h
end
def HB(m:aE):Prop:=∀(n:Nat) (rs:af) (Ds:List Dw) (N:Int),LB n rs Ds->∃d x y s,m [cB n rs,.fz\(bh .fz Ds),.int N]=ok d/\aI aK d=.fz\[x,y,.str s]/\RG x y s/\cq 39 x=true/\cq 39 y=true
def N7(Φ:aV)(C:Φ 1020=cutD true)(w:Φ 1021=cutD false)(q:jN (Φ 252))(j:Lw (Φ 254)):HB (mk Φ 3 6 qy):=by
 intro n b a N L;ext(r:l9 .fz a);have E:=L.I.n1;have F:=L.ln;ext(⟨m,G,z⟩:Fi N (m:=8) ⇑4);have A:mv 6 [(0,cB n b),(1,.fz\(bh .fz a)),(2,.int N)] [↥(cB n b),↥(.fz\(bh .fz a)),↥↑N,none,none,none]:=⟨rfl,⟨_,rfl,(jh n b).fz⟩,⟨_,rfl,(gU a).fz⟩,⟨_,rfl,rfl⟩,trivial⟩
 have g:Go Φ p48 [↥(cB n b),↥(.fz\(bh .fz a)),↥↑N,none,none,none] (mv 6 [(2,.int (N.fdiv 8)),(3,.int m),(0,cB n b),(1,.fz\(bh .fz a))]):=by
  refine Go.k_ A (Y:=.int m) (.k (f_ A.2.2.2.1.v.i rfl (by rw[sM ⇑4,show N.fmod 8=(m:Int) from z]))) λe A=>?_;refine Go.k_ (l:=[(3,.int m),(0,cB n b),(1,.fz\(bh .fz a))]) ⟨A.1,A.2.1,A.2.2.1,A.2.2.2.1,trivial⟩ (Y:=.int (N.fdiv 8)) (.k (f_ A.2.2.2.2.1.v.i rfl (gh ⇑4))) λc A=>Go.nil A
 have t:mq Φ qy [↥(cB n b),↥(.fz\(bh .fz a)),↥↑N,none,none,none] Ss:=by
  refine mq.go g λe A=>?_;ext(f:A.2.2.1.v.i (Φ:=Φ));refine mq.eq f (λ_=>mq.ret Wx (U1 j) .k m0) λa0=>mq.eq f (λ_=>mq.ret Ww (zu j) .k m1') λa1=>mq.eq f (λ_=>mq.ret Wv (zu j) .k m2') λa2=>?_;show mq Φ (g48++[RO (.v 0) (.v 1) (.v 4)]) e Ss;refine mq.go (Q:=Ba) ?_ λc ⟨x,y,s,A,h⟩=>mq.ret A.2.1.v A.2.2.1.v A.2.2.2.1.v h;rw[Qe];ext(⟨k,u,B⟩:Fi (N.fdiv 8) (m:=a.length) ⋯);refine Go.k_ A (Y:=.str "told") .k λc A=>?_;refine Go.k_ A (Y:=.int k) (.k (f_ A.2.2.1.v.i (b_.len A.2.2.2.2.2.1.v) ⇑[r,sM ⋯,B])) λo A=>?_;exact To q C w L u ⋯ ⋯ A
 ext(⟨d,p,H,e1,e2,x,y,s,rfl,h⟩:t);refine⟨d,x,y,s,?_,e2,h⟩;rw[mk_eq (ar:=3) (ds:=[cB n b,.fz\(bh .fz a),.int N]) rfl];show iU (bE Φ qy [↥(cB n b),↥(.fz\(bh .fz a)),↥↑N,none,none,none])=_;rw[e1];rfl
section
variable {Φ:aV}{ρ:aS}{a:CE}{Ys:aa}
def b_.ZZ{f:Fl}(h:b_ Φ a ρ (.lst f Ys)):b_ Φ (.bf .list1 [a]) ρ (.fz\Ys):=by
 ext(⟨g,b,c,rfl,d⟩:h.t5);exact⟨.ow\(ak bp b),by rw[Ct,bL,c];rfl,by show D.lst .fz (ak aK (ak bp b))=_;rw[iq]⟩
end
meta def jL:ai:=[.ret (.tup [(.ix (.v 0) ↑0),(.bf .list1 [(.ix (.v 0) ↑1)])])]
def Hx(m:aE):Prop:=∀d:Dw,∃r,m [eY .fz d]=ok r/\aI aK r=eY .fz d
def TH(Φ:aV):Hx (mk Φ 1 1 jL):=by
 intro d;have a:b_ Φ (.v 0) [↥(eY .fz d)] (.tup [.int d.1,.fz\(bg d.2)]):=At.v ⟨_,rfl,dA _ _ _⟩;have f:b_ Φ (.ix (.v 0) ↑0) [↥(eY .fz d)] ↑d.1:=b_.Z7 (j:=0) a rfl rfl;have c1:b_ Φ (.ix (.v 0) ↑1) [↥(eY .fz d)] (.fz\(bg d.2)):=b_.Z7 (j:=1) a rfl rfl;ext(⟨r,b,e,c⟩:yW (bP.tup (.cons f (.cons c1.ZZ .nil))) rfl);refine⟨r,?_,c⟩;rw[mk_eq (ar:=1) (ds:=[eY .fz d]) rfl];show iU (bE Φ jL [↥(eY .fz d)])=_;unfold jL;rw[bD,e];rfl
meta def MY:CE:=.comp 1 (.nm 0) [] .seq [(.v 2)] [] (.call 215 [(.v 0)])
def Q_{Ds:List Dw}(h:Hx (Φ 215))(v:b_ Φ (.v 2) ρ (.fz\(bh .fz Ds)))(f:Ds.length<=1000):b_ Φ MY ρ (.fz\(bh .fz Ds)):=by
 ext(⟨g,b,e,c,_⟩:v.t5);obtain⟨r,a⟩:∃r:Dw->D,∀d,Φ 215 [eY .fz d]=ok (r d)/\aI aK (r d)=eY .fz d:=⟨λd=>(h d).choose,λd=>(h d).choose_spec⟩
 refine⟨_,cV (xs:=[.lst g b]) (items:=Ds.map (eY .fz)) (ds:=Ds.map λd=>aI fC (r d)) (by rw[bL,e];rfl) (by rw[dj,c];rfl) (bN λd _=>⟨[↥(eY .fz d)],by simp[bK],by simp,?_⟩) ([zaa]\cx ⋯),?_⟩
 ·rw[m7,bL,e_v];show Qf (Φ 215 [aI aK (aI bp (eY .fz d))])=_;rw[dA,dA,show aK (bp Fl.fz)=.fz from rfl,(a d).1];rfl
 ·show D.lst .fz (ak aK (ak fC _))=_;rw[aN,aN,zag,zag];refine aa2 (D.lst .fz) (aaW λd _=>?_);show aI aK (aI fC (aI fC (r d)))=_;rw[ur,ur,(a d).2]
def noG{A:Prop}(h:∃a,Hv 10 a):A:=by
 obtain⟨_,_,_,_,_,⟨z,_⟩|⟨z,_⟩⟩:=h<;>cases z
meta def xI(e:Nat):Option Str:=if e=1 then ↥"drawing" else if e=9 then ↥"groups" else if e=10 then ↥"many" else none
def Bi{e:Nat}{s:Str}(h:xI e=↥s):(e=1/\s = "drawing")\/(e=9/\s = "groups")\/(e=10/\s = "many"):=by
 unfold xI at h;by_cases z:e=1
 ·rw[zac z]at h;cases h;exact .inl ⟨z,rfl⟩
 rw[zab z]at h;by_cases z:e=9
 ·rw[zac z]at h;cases h;exact .inr (.inl ⟨z,rfl⟩)
 rw[zab z]at h;by_cases z:e=10
 ·rw[zac z]at h;cases h;exact .inr (.inr ⟨z,rfl⟩)
 rw[zab z]at h;cases h
meta def Yo:CS:=.ex (.call 104 [(.v 0),(.v 1)])
open Classical in
meta def nE(Φ:aV)(ds:aa):O D:=match two ds with
 |some (x,y)=>if Fz x/\Fz y then(match Φ 104 [x,y]with
  |some (.ok _)=>ok (.str "told")
  |some (.error e)=>if qz e [x,y]then(match xI e with
   |some s=>ok (.str s)
   |none=>none)else none
  |none=>none)else none
 |none=>none
def aaR{a b c d f:Str}(ds:aa)(r:D)(h:nE Φ ds=ok r):ds.length=[a,b].length/\((r=.str "told" /\ ∃i,ir Φ Yo (x8 [a,b,c,d,f] 2 3 "told" ds)=ok (.nx,i)/\i[2]?=↥↥(.str "told")/\i[3]?=↥↥.b0) \/
  ∃e s,xI e=↥s/\r=.str s/\oW Φ (qC e) e Yo (x8 [a,b,c,d,f] 2 3 "told" ds)):=by
 unfold nE at h;cases m:two ds with
 |none=>rw[m]at h;cases h
 |some z =>
  ext(⟨x,y⟩:z);rw[m]at h;ext(rfl:fq m);by_cases fz:Fz x/\Fz y
  ·replace h:=(abi fz).symm.trans h;ext(⟨f,g⟩:fz);have o:bY Φ [.v 0,.v 1] (x8 [a,b,c,d,‹Str›] 2 3 "told" [x,y])=ok [x,y]:=by
    show qo (ok (aI bp x)) (qo (ok (aI bp y)) (ok []))=_;rw[f.al,g.al];rfl
   ext(n:Gm f g);refine⟨rfl,?_⟩;cases l:Φ 104 [x,y]with
   |none=>rw[l]at h;cases h
   |some z =>
    rw[l]at h;cases z with
    |ok v =>
     cases h;exact .inl ⟨rfl,_,AB o ([n]\l),rfl,rfl⟩
    |error e =>
     by_cases j:qz e [x,y]
     ·replace h:=(abi j).symm.trans h;cases k:xI e with
      |none=>rw[k]at h;cases h
      |some s =>
       rw[k]at h;cases h;exact .inr ⟨e,s,k,rfl,.ex o ([n]\j)⟩
     ·replace h:=(aec j).symm.trans h;cases h
  ·replace h:=(aec fz).symm.trans h;cases h
def A_(m:aE):Prop:=∀x y s,RG x y s->m [x,y]=ok (.str s)
def Jd(Φ:aV)(c:W3 (Φ 104))(O5:∀e d,qz e d->Φ 104 d=↥(.error e)):A_ (nE Φ):=by
 intro x y s h;have b:∀e w,xI e=↥w->qz e [x,y]->nE Φ [x,y]=ok (.str w):=λe w hw a=>by
  have fz:Fz x/\Fz y:=by ext(⟨_,_,f,g,z,_⟩:a);cases z;exact⟨f,g⟩
  unfold nE;refine(abi fz).trans ?_;rw[O5 e _ a];refine(abi a).trans ?_;rw[hw]
 ext((⟨rfl,h⟩|⟨rfl,h⟩|⟨rfl,h⟩|⟨rfl,i,k,K,I,rfl,rfl⟩):h)
 ·exact b 1 _ rfl h
 ·exact b 9 _ rfl h
 ·exact b 10 _ rfl h
 ·ext(⟨r,j⟩:c i k K I);unfold nE;refine(abi ⟨jh _ _,gU i⟩).trans ?_;rw[j];rfl
def xY{n:Nat}{l:List (Nat×D)}{a:D}{i:Nat}(A:mv n l ρ)(e:aI aK a=Y)(d:i<n)(f:(l.all λp=>p.1 != i)=true):mv n ((i,Y)::l) (ρ.set i ↥a):=by
 refine⟨[zba]\A.1,⟨a,acf ([A.1]\d),e⟩,?_⟩;have all:∀l:List (Nat×D),bM (λp:Nat×D=>At ρ p.1 p.2) l->(l.all λp=>p.1 != i)=true->bM (λp:Nat×D=>At (ρ.set i ↥a) p.1 p.2) l:=by
  intro l;induction l with
  |nil=>intro _ _;trivial
  |cons p l c =>
   intro q r;rw[zas,zah]at r;ext(⟨⟨y,q1,b⟩,q⟩:q);exact⟨⟨y,by rw[ce (ja ⇑r.1)];exact q1,b⟩,c q r.2⟩
 exact all l A.2 f
protected def YO{n:Nat}{l:List (Nat×D)}{e:CE}{d X Z:D}{i j k:Nat}(h:aZ Φ e ρ=ok d)(hz:aI aK d=.fz\[X,Y,Z])(F:US e=false)(A:mv n l ρ)(u:i<n:=by decide)(t:j<n:=by decide)(s:k<n:=by decide)
  (L:(l.all λp=>p.1 != i)=true:=by rfl) (K:(((i,X)::l).all λp=>p.1 != j)=true:=by rfl) (J:(((j,Y)::(i,X)::l).all λp=>p.1 != k)=true:=by rfl) :
  ∃m,ir Φ (.unp [i,j,k] e) ρ=ok (.nx,m)/\mv n ((k,Z)::(j,Y)::(i,X)::l) m:=by
 ext(⟨v,f,C,o,B,z⟩:JV (ρ:=ρ) (e:=e) (d:=d));rw[hz]at o;obtain⟨g,a,b,c,rfl,I,H,G⟩:∃g a b c,v=.lst g [a,b,c]/\aI aK a=X/\aI aK b=Y/\aI aK c=Z:=by
  cases v<;>first | (cases o;done)|skip
  rename_i g N;injection o with k0 o
  match N,o with
  |[a,b,c],o =>
   injection o with e1 e2
   injection e2 with e2 e3
   injection e3 with e3 _
   exact⟨g,a,b,c,rfl,e1,e2,e3⟩
 have y:mv n l f:=by
  refine⟨B.trans A.1,?_⟩;have all:∀l:List (Nat×D),bM (λp:Nat×D=>At ρ p.1 p.2) l->bM (λp:Nat×D=>At f p.1 p.2) l:=by
   intro l;induction l with
   |nil=>intro _;trivial
   |cons p l E=>exact λq=>⟨z _ _ q.1,E q.2⟩
  exact all l A.2
 ext(x:xY y I u L)(w:xY x H t K)(O:xY w G s J);refine⟨_,?_,O⟩;show bd (kf Φ e ρ) (λr=>bd (Iy [i,j,k] r.1 r.2) λm=>ok (Fo.nx,m))=_;rw[JW Φ e ρ F,h,C,cP];have:Iy [i,j,k] (.lst g [a,b,c]) f=ok (((f.set i ↥a).set j ↥b).set k ↥c):=by
  show dH [i,j,k] [a,b,c] f=_;unfold dH;rw[zac ([y.1]\u)];unfold dH;rw[zac ([x.1]\t)];unfold dH;rw[zac ([w.1]\s)];rfl
 rw[this];rfl
meta def yD:CE:=.call 212 [(.call 200 [(.v 0),↑0]),↑3]
meta def uy:CE:=.comp 1 (.nm 0) [0] .nC [(.ix (.v 1) ↑0)] [] (.call 212 [(.call 200 [(.v 1),(.bin .add ↑1 (.v 0))]),↑4])
def GO:CE:=.call 221 [(.call 215 [(.v 1)]),MY,(.v 4)]
def zA:ai:=[.asg (.nm 4) (.call 200 [(.v 0),(.v 3)]),.unp [5,6,7] GO,.ifs (.cmp .ne (.call 253 [(.v 5),(.v 6)]) (.v 7)) [.ret (.bl false)] [],.ifs (.cmp .ne (.lst [(.v 5),(.v 6),(.v 7)]) GO) [.ret (.bl false)] []]
def ED:ai:=[.asg (.nm 1) yD,.asg (.nm 2) uy]
def Ec:ai:=[.fr (.nm 3) MC zA,.ret (.bl true)]
def uN:ai:=ED++Ec
structure T48(Φ:aV):Prop where
 abw:Hz (Φ 200)
 P9:W5 (Φ 212)
 VO:Hx (Φ 215)
 abu:HB (Φ 221)
 abt:A_ (Φ 253)
section
variable {Φ:aV}(T:T48 Φ){ns:ae}
include T in
theorem QK{i:Nat}{e:CE}{k:Nat}(a:b_ Φ (.v i) ρ (.sc\(aq ns)))(he:aZ Φ e ρ=ok ↑k):aZ Φ (.call 200 [(.v i),e]) ρ=ok ↑(iC ns k):=by
 ext(⟨d,e1,e2⟩:a);rw[m7,bL,bL,e1,he];show AY (Φ 200) (ok [d,.int k])=_;rw[qu];show Qf (Φ 200 [aI aK d,.int k])=_;rw[e2,T.abw ns k ⋯];rfl
abbrev UJ(ns:ae)(n:Nat)(rs:af)(Ds:List Dw):List (Nat×D):=[(0,.sc\(aq ns)),(1,cB n rs),(2,.fz\(bh .fz Ds))]
include T in
theorem OY{n:Nat}{rs:af}(p:1<=n)(l:n<=3)(I:Dr 6 n rs)(m:rs.length<=5)(A:mv 8 [(1,cB n rs),(0,.sc\(aq ns))] ρ):∃b,LB n rs b/\b_ Φ uy ρ (.fz\(bh .fz b)):=by
 obtain⟨g,a⟩:∃g:Int->Dw,∀N,Φ 212 [.int N,.int ((4:Nat):Int)]=ok (eY .ow (g N))/\Dr 6 (g N).1 (g N).2/\(g N).2.length<=5/\1<=(g N).2.length/\(g N).1<=4 :=
  ⟨λN=>(T.P9 N 4 ⇑4 ⇑4).choose,λN=>(T.P9 N 4 ⇑4 ⇑4).choose_spec⟩
 ext(h:A.2.1.v (Φ:=Φ))(⟨z,f,c⟩:A.2.2.1);have en:aZ Φ (.ix (.v 1) ↑0) ρ=ok ↑n:=(b_.Z7 (j:=0) (Ys:=[.int n,.fz\(bg rs)]) h rfl rfl).i;refine⟨(eg n).map λ(k:Nat)=>g (iC ns ((1+k:Nat):Int)),⟨l,I,m,by simp,λd hd=>?_,λd hd=>?_⟩,?_⟩
 ·ext(⟨k,_,rfl⟩:dz.mp hd);exact(a _).2.1
 ·ext(⟨k,_,rfl⟩:dz.mp hd);exact(a _).2.2.1
 ·have o:bY Φ [(.ix (.v 1) ↑0)] ρ=ok [.int n]:=by rw[bL,en];rfl
  refine⟨_,cV (xs:=[.int n]) (ds:=(eg n).map λ(k:Nat)=>eY .ow (g (iC ns ((1+k:Nat):Int)))) o (Ac Φ ⋯ ⋯) ?_ ([zaa,zbE]\cx ⋯),?_⟩
  ·rw[zao];refine bN λk _=>⟨[↥↑k,↥(aI aK z)],by show cw (.nm 0) ↑k [none,(ρ.getD 0 none).map (aI aK)]=_;rw[zbg,f];rfl,by simp,?_⟩
   have w0:b_ Φ (.v 1) [↥↑k,↥(aI aK z)] (.sc\(aq ns)):=At.v ⟨_,rfl,by rw[p8,c]⟩;ext(e2:QK T (e:=.bin .add ↑1 (.v 0)) (k:=1+k) w0 (f_ rfl rfl (by show ok (D.int (1+(k:Int)))=_;congr 2)));rw[m7,bL,e2,bL];show Qf (Φ 212 [.int (iC ns ((1+k:Nat):Int)),.int ((4:Nat):Int)])=_;exact[(a _).1]\aa2 ok (dA fC .ow _)
  ·show D.lst .fz (ak aK (ak fC _))=_;have:=cf fC .ow ((eg n).map λ(k:Nat)=>g (iC ns ((1+k:Nat):Int)));unfold bh at *;simp only[zag,aN];refine aa2 (D.lst .fz) (aaW λk _=>?_);show aI aK (aI fC (eY .ow _))=_;rw[dA,dA];rfl
include T in
theorem Fx{n:Nat}{rs:af}{Ds:List Dw}(L:LB n rs Ds)(k:Nat)(A:mv 8 ((3,D.int (k:Int))::UJ ns n rs Ds) ρ):Go Φ zA ρ (mv 8 (UJ ns n rs Ds)):=by
 refine Go.k_ A (Y:=.int (iC ns k)) (.k (QK T A.2.2.1.v A.2.1.v.i)) λg A=>?_;ext(⟨d,x,y,s,e1,e2,e3,o,m⟩:T.abu n rs Ds (iC ns k) L);have e:∀{ρ:aS},b_ Φ (.v 1) ρ (cB n rs)->b_ Φ (.v 2) ρ (.fz\(bh .fz Ds))->aZ Φ (.v 4) ρ=ok ↑(iC ns k)->b_ Φ GO ρ (.fz\[x,y,.str s]):=λ{ρ} t q p=>by
  ext(⟨r,r1,l⟩:T.VO (n,rs));have c1:b_ Φ (.call 215 [(.v 1)]) ρ (cB n rs):=by
   have:=bP.call (f:=215) (.cons t .nil) r1;rw[l]at this;exact this
  ext(h:bP.call (f:=221) (.cons c1 (.cons (Q_ T.VO q (by have:=L.ln;have:=L.n3;left)) (.cons (.k p) .nil))) e1)
  rwa [e2]at h
 ext(⟨C,w,u⟩:e A.2.2.2.2.1.v A.2.2.2.2.2.1.v A.2.1.v.i)(⟨c,u1,A⟩:YO (i:=5) (j:=6) (k:=7) w u rfl A);refine Go.cons u1 (Go.UX ?_ (Go.UX ?_ (Go.nil ⟨A.1,A.2.2.2.2.2.2.1,A.2.2.2.2.2.2.2.1,A.2.2.2.2.2.2.2.2.1,trivial⟩)))
 ·have h:b_ Φ (.call 253 [(.v 5),(.v 6)]) c (.str s):=bP.call (.cons A.2.2.2.1.v (.cons A.2.2.1.v .nil)) (T.abt x y s e3);exact uw h.s A.2.1.v.s (by show ok (D.bl (!(s==s)))=_;rw[zbd];rfl)
 ·ext(⟨a,a1,a2⟩:bP.lst (.cons (A.2.2.2.1.v (Φ:=Φ)) (.cons A.2.2.1.v (.cons A.2.1.v .nil))))(⟨b,B,z⟩:e A.2.2.2.2.2.2.2.1.v A.2.2.2.2.2.2.2.2.1.v A.2.2.2.2.1.v.i);exact uw a1 B (ZU a2 z (by show(cq 39 x&&(cq 39 y&&(cq 39 (.str s)&&true)))=true;rw[o,m];rfl))
end
def UE(Φ:aV)(T:T48 Φ)(ns:ae):mk Φ 1 8 uN [.sc\(aq ns)]=ok (.bl true):=by
 have A:mv 8 [(0,.sc\(aq ns))] [↥(.sc\(aq ns)),none,none,none,none,none,none,none]:=⟨rfl,⟨_,rfl,Ue aK rfl⟩,trivial⟩
 ext(⟨c,C,I,u,H,s⟩:T.P9 (iC ns 0) 3 ⇑4 ⇑4);obtain⟨g,L,ρ,eq,A⟩:∃g,LB c.1 c.2 g/\Go Φ ED [↥(.sc\(aq ns)),none,none,none,none,none,none,none] (mv 8 (UJ ns c.1 c.2 g)):=by
  have F:b_ Φ (.call 200 [(.v 0),↑0]) [↥(.sc\(aq ns)),none,none,none,none,none,none,none] ↑(iC ns 0):=.k (QK T (k:=0) A.2.1.v rfl);ext(c1:bP.call (f:=212) (.cons F (.cons (b_.k (e:=.int 3) rfl) .nil)) C);rw[dA]at c1;obtain⟨l,q1,q⟩:Go Φ [.asg (.nm 1) yD] [↥(.sc\(aq ns)),none,none,none,none,none,none,none] (mv 8 [(1,cB c.1 c.2),(0,.sc\(aq ns))]):=Go.k_ A c1 λl A=>Go.nil A;ext(⟨g,L,h⟩:OY T I.n1 s I u q);exact⟨g,L,by
   obtain⟨j,o,G⟩:Go Φ [.asg (.nm 2) uy] l (mv 8 (UJ ns c.1 c.2 g)):=Go.k_ q h λj A=>Go.nil ⟨A.1,A.2.2.2.1,A.2.2.1,A.2.1,trivial⟩;exact⟨j,(rq Φ [.asg (.nm 1) yD] [.asg (.nm 2) uy] _ _ q1).trans o,G⟩⟩
 obtain⟨M,z,J,K⟩:∃M:Int,aZ Φ (.bf .max2 [↑6,(.bf .min2 [↑16,(.bf .len [(.v 0)])])]) ρ=ok ↑M/\6<=M/\M<=16:=by
  have w:aZ Φ (.bf .len [(.v 0)]) ρ=ok ↑ns.length:=by
   have:=b_.len (A.2.1.v (Φ:=Φ))
   rwa [show(aq ns).length=ns.length from Ci _]at this
  refine⟨if (if (ns.length:Int)<16 then(ns.length:Int)else 16)>6 then(if (ns.length:Int)<16 then(ns.length:Int)else 16)else 6,?_,by split<;>left,by split<;>split<;>left⟩;rw[Ct,bL,bL,Ct,bL,bL,w];rfl
 have p:cI Φ MC _=_:=UQ (Φ:=Φ) (a:=.int 4) (m:=4) (n:=M) rfl z ⇑4 ⇑4 ⋯ ⋯;obtain⟨r,E,_⟩:=Gg (Φ:=Φ) (t:=.nm 3) (bb:=zA) (P:=mv 8 (UJ ns c.1 c.2 g)) (((eg (M - 4).toNat).map λ(k:Nat)=>4+(k:Int)).map D.int) (λd hd ρ B=>by
  ext(⟨x,y,rfl⟩:dz.mp hd)(⟨k,_,rfl⟩:dz.mp y)(⟨q1,o⟩:B.set (i:=3) (d:=.int (4+(k:Int))) (Y:=.int ((4+k:Nat):Int)) rfl);exact⟨_,q1,Fx T L (4+k) o⟩) _ A
 ext(hf:gv (Φ:=Φ) (t:=.nm 3) (b:=zA) p E);rw[mk_eq (ar:=1) (ds:=[.sc\(aq ns)]) rfl];show iU (bE Φ (ED++Ec) [↥(.sc\(aq ns)),none,none,none,none,none,none,none])=_;rw[rq Φ _ _ _ _ eq];unfold Ec;rw[bD,hf,dq];rfl
end DI
end
namespace PySem.W.Fast
universe tw13261570912694355337 tw12529499900698159847 tw3351232699358167704 tw2479428273786243804 tw9435381093499784589 tw15362422921502375741 tw14444623583219400235 tw5980509620674247850 tw3940797890942272631 tw5480114541776599514 tw4374152100343534600 tw18345425150607522674 tw18145692323894471940 tw4046222702013654154 tw5268797356043531747 tw7953755608234558274 tw340839607601277376 tw3439102764963767167 tw11481385725349555641 tw4248760859615813814 tw4970181788891681894 tw12910497391883083220 tw1159035870073581773 tw9119403356592415079 tw15721136940154228000 tw16481234994927785270 tw9667859435960129924 tw11359673126574966698 tw10452709825540142030 tw42297194545538351 tw12144011684214696258 tw11057457222882658022 tw4844823505377906077 tw714143010979022834 tw9217804401698228428 tw3403806476164064444 tw13405239158783725632 tw5682790259845120059 tw8206168561370045992 tw14575143790940474347 tw5872217195697339130 tw13660261856677205497 tw3792460379609022600 tw15696468375882330139 tw10717519418043822096 tw7323023611544573541 tw2085681756500873803 tw4721953544112255659 tw11013285607225457907 tw198202810071546172 tw16540849289114064013 tw15260978945795780496 tw10679374529245534030 tw7599526787066878264 tw10193844905060316188 tw5816299957313195480 tw1152604252647762689 tw13114169982704818625 tw8867284765753929183 tw11829827327473290459 tw4846693713169685850 tw15851115015348208808 tw13804878415711075258 tw632951052781976885 tw10641852187022533181 tw16999192300399259312 tw11669117858670229599 tw10175731232451077627 tw11338617023985646165 tw17722958471782892164 tw16449411884343016197 tw4697157855928412317 tw1192200921282634205 tw7597343365918437275 tw6376181288954526853 tw15675296867045979055 tw14169043273328327384 tw14633705298170710299 tw7959852659390162778 tw17119759293872542014 tw2719491270764615132 tw7859905744940013348 tw949626109707160717 tw10985456553620054112 tw7492849180446462748 tw7439380284423992245 tw15875410646654748317 tw10862565093058932503 tw2220421226328440155 tw12403492123546494220 tw16196674082782391617 tw8901370892570691796 tw6341369004794332865 tw7834271674156837740 tw2498537051111181997 tw2413770443899742210 tw9495952182222561128 tw8929809321762213766 tw12686154014819769549 tw2241739782278159681 tw7018119126098243924 tw8983677177077862965 tw18207063829311698796 tw1822349072423329484 tw17373982508352725650 tw8640821953033950745 tw11028920247841445601 tw7276419931129604770 tw8908585469653280580 tw3083333401831755164 tw6586259925460470515 tw5801167884171339641 tw2654716882632445508 tw10710248960427442249 tw16145243576008268667 tw12171926114137891246 tw9179916135864093188 tw13219564498233035274 tw15040000980747402945 tw15740133252233773517 tw13712686040690652427 tw1997091443108600008 tw2032966415151391444 tw1364041617792539135 tw803392053200335044 tw14692495545287752509 tw14939610629760673841 tw18230064810394980237 tw14520108526115792893 tw2562508986190396616 tw5992061072621532152 tw16879968168656679076 tw8799634719158618426 tw4912656576286219444 tw8991920871194118764 tw15185164670400424331 tw9709618915947350418 tw11599544307713540366 tw16256882459263517360 tw786952636477514710 tw7814575528065498876 tw13497334091906615983 tw8121127256904172629 tw3823164794758297832 tw6703541512929027783 tw11472005124484797534 tw8344306926514670122 tw9653525347017614123 tw12532287469806292714 tw9776649438780036677 tw14525488941653874562 tw10799421703008057956 tw2790313954655497765 tw17677457319299459739 tw4433067581341912534 tw389222308155227337 tw13301073472775564377 tw15207021627221944738 tw2497766568294808987 tw8970674092187056770 tw1459372933207008182 tw1409181933348709085 tw10049817780806687637 tw17288555360657515573 tw5552018116138301645 tw10654446887961474311 tw1028679644592327147 tw15801930667154287659 tw674151958022406646 tw6525162424353534695 tw9189204628598419341 tw13113491588275355652 tw17202689355844144603 tw5445949986447129512 tw17142573367141084114 tw9636556529527918679 tw7739776555250356444 tw4619282676232209084 tw11718577566264537490 tw15994967578349402892 tw6586327657871116472 tw5879374880884235506 tw10048782894917822710 tw14291987801541995322 tw2828044648241910752 tw15255389634397402279 tw4500978635445837468 tw17242106325742100760 tw13206017053373052399 tw16485386177503580977 tw3391256629282596599 tw2962999586165389206 tw18124794461726678583 tw16541675542349750934 tw14176955463870021533 tw17887649808355782174 tw14490453420580549015 tw2992180728158489184 tw10233497675135314776 tw16095507679268970029 tw9182536193948113419 tw1643862752611724607 tw582727602612740993 tw8217110458005145509 tw13045311854471926037 tw10064679669353585414 tw10487157642470817060 tw17700383862450912514 tw6072345236808343703 tw12451675074400392749 tw12601741255640173539 tw1004191401895728694 tw7673623571171657243 tw13489068337189384511 tw13426400538464507680 tw16807811300729850952 tw16216730975190450493 tw9719000980874283297 tw15122257091761468452 tw14594617463869949882 tw3483863076803892134 tw5446507358943099595 tw16844189984931556274 tw9270086202668009586 tw7194679560397769167 tw11981770173296966464 tw16952747347239922062 tw15719800911940909696 tw4273592105262125586 tw6290915113657629235 tw8685185203968589608 tw8258490992855733386 tw17598232921807834797 tw1001791790292217775 tw17166366539251849386 tw7796020151241596876 tw15966160723646833915 tw7206879625107945854 tw17853740935896343160 tw7993807521949883704 tw9515254366106347571 tw4156693182723355224 tw13299607455267606011 tw9689566484340870253 tw15051013015941317162 tw14636616900183567143 tw9424344590837552211 tw16274810584600974718 tw1779935604659387806 tw9818837115720652047 tw10114651389228499291 tw5108528498352190012 tw14854072230095082357 tw8391708642811481016 tw17349412429823221199 tw1942043606005348034 tw8219831569346463694 tw4990883880163859273 tw8453838892488284355 tw14552086417168422760 tw4804597121181378523 tw11809348790453289781 tw10385168295418639512 tw13104490722068141794 tw7975431209656667149 tw9615261842301927712 tw7940202231602483019 tw7986105545083608257
end PySem.W.Fast
namespace Asm
open PySem PySem.Spec PyProof.Rows L2 DI
meta def top(i:Nat):Stmt:=ZB.main.body.getD i (.Pass ⟨0,0,0,0⟩)
def px:Px:=⟨λn a bl e=>if n=1017 then k9 "sorted" a bl e else if n=1020 then nh true a bl e else if n=1021 then nh false a bl e else if n=1022 then Ha a bl e else if n=1030 then uD a bl e else if n=1032 then ng a bl e else if n=1035 then k9 "sorted" a bl e else if n=1038 then AU a bl e else if n=1039 then ng a bl e else if n=1040 then G_ a bl e else if n=1083 then nh true a bl e else none,λn a bl e=>if n=1000 then qr a bl e else none,λn a bl e=>if n=1010 then oP a bl e else if n=1013 then Hb a bl e else if n=1033 then uC a bl e else none,λn a bl e=>if n=1201 then yO a bl e else none⟩
def PT:aV
 |1000=>Ii
 |1010=>rW
 |1013=>Co
 |1017=>pd
 |1020=>(cutD true)
 |1021=>(cutD false)
 |1022=>Sh
 |1030=>GW
 |1032=>GY
 |1033=>wU
 |1035=>qh
 |1038=>RL
 |1039=>yE
 |1040=>UA
 |1083=>su
 |1201=>xP
 |_=>λ_=>none
def pr(F:aV)(i:Nat)(m:aE):og px (xm PT F i m)/\HE px (xm PT F i m):=⟨⟨(λX j bl k L p e args a F o b=>FN a (λa=>DN rfl L a b) λa=>FN a (λa=>G0 rfl L a b) λa=>FN a (λa=>G0 rfl L a b) λa=>FN a (λa=>VY rfl L a b) λa=>FN a (λa=>KW rfl L a b) λa=>FN a (λa=>Q8 rfl L a b) λa=>FN a (λa=>GR rfl L a b) λa=>FN a (λa=>Ti rfl L a b) λa=>FN a (λa=>QX rfl L a b) λa=>FN a (λa=>Uz rfl L a b) λa=>FN a (λa=>K1 rfl L a b) λa=>nomatch a),(λX j bl k L p e args a F o s r b=>by
  dsimp only[px]at a;by_cases n:p=1000
  ·subst n;rw[zac rfl]at a;exact Nh rfl L a r b
  rw[zab n]at a;clear n;cases a)⟩,⟨(λX j bl k L h c p q x l args a i g f d F o b=>ifM a (λa=>Kc rfl L h c a g f d b) λa=>ifM a (λa=>QI rfl L h c a g f d b) λa=>ifM a (λa=>KV rfl L h c a g f d b) λa=>nomatch a),(λX j bl k L h c p q x l args a i g f d F c1 c2 b=>aai a (λa=>NB rfl L h c a g f d b) λa=>nomatch a)⟩⟩
noncomputable abbrev xt(F:aV)(i a b:Nat)(c:ai):aV:=xm PT F i (mk F a b c)
meta def BL:ao:=["ValueError","abs","all","bool","int","isinstance","len","list","max","min","range","set","sorted","sum","tuple","zip"]
meta def CC:List (Str×GK):=[("MOST_CHOICES",GK.i 500),("MOST_HOUSES",GK.i 12)]
meta def gn:aV:=xm PT PT 0 λ_=>none
meta def iZ:aV:=xt gn 254 2 4 (Hm)
meta def lq:aV:=xt iZ 252 2 7 (jK)
meta def ll:aV:=xt lq 221 3 6 (qy)
meta def i_:aV:=xt ll 200 2 4 (fE)
meta def lj:aV:=xt i_ 215 1 1 (jL)
meta def g_:aV:=xt lj 201 2 4 (me)
meta def xr:aV:=xt g_ 212 2 8 (Li)
meta def fG:aV:=xm PT xr 210 λ_=>none
meta def cR:aV:=xt fG 99 2 4 (Lm)
meta def jc:aV:=xt cR 98 2 2 (uO)
meta def jf:aV:=xt jc 0 1 1 (iW)
meta def eW:aV:=xt jf 43 2 2 (cX)
meta def hJ:aV:=xt eW 1 2 3 (dF)
meta def qF:aV:=xt hJ 3 1 1 (b6)
meta def jQ:aV:=xt qF 12 2 2 (eL)
meta def fH:aV:=xt jQ 44 1 3 (fm)
meta def jP:aV:=xt fH 9 1 3 (c_)
meta def gm:aV:=xt jP 10 2 2 (gL)
meta def gY:aV:=xt gm 14 1 4 (kh)
meta def lr:aV:=xt gY 15 1 2 (eZ)
meta def qG:aV:=xt lr 45 1 4 (eU)
meta def fQ:aV:=xt qG 11 2 2 (iE)
meta def ck:aV:=xt fQ 16 1 1 (dE)
meta def bO:aV:=xt ck 17 1 1 (bR)
meta def fb:aV:=xt bO 97 2 3 (ri)
meta def je:aV:=xt fb 2 2 3 (df)
meta def hU:aV:=xt je 6 2 2 (oQ 2)
meta def lh:aV:=xt hU 101 2 6 (Ll)
meta def jd:aV:=xt lh 41 1 2 (iV)
meta def gZ:aV:=xt jd 42 1 2 (fN)
meta def gp:aV:=xt gZ 100 1 4 (Lg)
meta def dR:aV:=xt gp 102 2 8 (Lj)
meta def dg:aV:=xt dR 104 2 2 (qx)
meta def HI:aV:=xm PT dg 253 (nE dg)
def t0:=x5 jc
def t1:=mL eW
def t2:=qP fb t1
def t3:=qO hJ t0 t1
def t6:=Jb je (f:=2) t2.1
def t9:=nW fH t1
def t10:=vI jP
def t41:=x4 lh t9 t10
def t42:=tx jd t2 t41
def t43:=tE jf t0
def t11:=DZ qG t43
def t12:=N5 qF t3 t43
def t44:=Jc jQ rfl rfl rfl
def t14:=BA gm t9 t10 rfl
def t15:=N4 gY t14
def t45:=D1 lr t0 t12 t15 t44
def t16:=tw fQ t11 (Q3 t45)
def y16:∀d,LF d->(ck 16) [d]=ok (.bl false):=z16 fQ t45
def IP:=nX ck t16
def BV:∀e a,Lu e a->(bO 17) a=↥(.error e):=r17 ck y16
def Th:=Zq bO IP
def UL:∀e a,Hv e a->(fb 97) a=↥(.error e):=r97 bO IP BV
def Y2:=Zr fG rfl
def t98:=Zt cR Y2
def UK:∀e a,Sr e a->(jc 98) a=↥(.error e):=r98 cR Y2
def Zd:=Zm gZ
def Zc:=Zp hU t6 rfl
def Zb:=Zo gp ⟨rfl,rfl,rfl,rfl⟩ t42 Zd Zc rfl rfl
def Za:=Zk dR IP Th t98 Zb
def O5:∀e a,qz e a->(dg 104) a=↥(.error e):=ZI dR IP Th BV UL UK
def Y_:=N6 ll
def Y9:=Je lj
def Y8:=Zn g_ ⟨rfl,rfl,rfl,rfl⟩ Y9 rfl
def Y7:=TH i_
def Y5:=DY iZ rfl rfl rfl
def Y3:=Zu gn rfl rfl
def Y4:=Jd dg Za O5
def Y6:=N7 lq rfl rfl Y5 Y3
def BQ:∀a:ae,(mk HI 1 8 (uN)) [.sc\(aq a)]=ok (.bl true):=UE HI ⟨Y_,Y8,Y7,Y6,Y4⟩
meta def HG:List (Str×Bool):=[("ShareError",true),("NoBottom",false),("NoDrawing",true),("NoShares",false),("NoWeights",false),("NoWorths",false),("NoSize",false),("NoPair",false),("NoLot",false),("NoGuess",false),("NoGroups",false),("TooMany",false),("NoText",false),("NoLine",false)]
def Rw:Yx (aD (top 52)) "_law_error" "_law_told" HG=true:=by decide +kernel
def Rg:Xb (top 52) "_law_error" "_law_told" HG [false,true,false] [false,false,false] [false,false,false] [false,false,false] [false]:=.mk rfl ⇑6
meta def HF:List (Str×Bool):=[("ShareError",true),("NoBottom",false),("NoDrawing",false),("NoShares",false),("NoWeights",false),("NoWorths",false),("NoSize",false),("NoPair",false),("NoLot",false),("NoGuess",false),("NoGroups",true),("TooMany",false),("NoText",false),("NoLine",false)]
def Rv:Yx (aD (top 52)) "_law_error" "_law_told" HF=true:=by decide +kernel
def Rf:Xb (top 52) "_law_error" "_law_told" HF [false,false,true] [false,false,false] [false,false,false] [false,false,false] [false]:=.mk rfl ⇑6
meta def y_:List (Str×Bool):=[("ShareError",true),("NoBottom",false),("NoDrawing",false),("NoShares",false),("NoWeights",false),("NoWorths",false),("NoSize",false),("NoPair",false),("NoLot",false),("NoGuess",false),("NoGroups",false),("TooMany",true),("NoText",false),("NoLine",false)]
def Lr:Yx (aD (top 52)) "_law_error" "_law_told" y_=true:=by decide +kernel
def K6:Xb (top 52) "_law_error" "_law_told" y_ [false,false,false] [false,false,false] [false,false,false] [false,false,false] [true]:=.mk rfl ⇑6
def kK:uV (gq (aD (top 39)) "TooMany" && !(("TooMany" : Str)==⇑9)) 10 "TooMany" (uO) (bB (top 39))=true:=by decide +kernel
def jn:K7 (top 39) ["drawing","inner"] (ML 2 ["drawing","inner"]) [(99,"count_choices")] BL CC px (uO)=true:=by decide +kernel
def kJ:uV (gq (aD (top 35)) "NoDrawing" && !(("NoDrawing" : Str)==⇑9)) 1 "NoDrawing" (bR) (bB (top 35))=true:=by decide +kernel
def iz:K7 (top 35) ["thing"] (ML 1 ["thing"]) [(16,"is_drawing")] BL CC px (bR)=true:=by decide +kernel
def lD:uV (gq (aD (top 38)) "NoDrawing" && !(("NoDrawing" : Str)==⇑9)) 1 "NoDrawing" (ri) (bB (top 38))=true:=by decide +kernel
def lC:uV (gq (aD (top 38)) "NoGroups" && !(("NoGroups" : Str)==⇑9)) 9 "NoGroups" (ri) (bB (top 38))=true:=by decide +kernel
def fD:K7 (top 38) ["thing","many","drawing"] (ML 2 ["thing","many","drawing"]) [(17,"check_drawing")] BL CC px (ri)=true:=by decide +kernel
def vd:uV (gq (aD (top 44)) "NoDrawing" && !(("NoDrawing" : Str)==⇑9)) 1 "NoDrawing" (qx) (bB (top 44))=true:=by decide +kernel
def vc:uV (gq (aD (top 44)) "NoGroups" && !(("NoGroups" : Str)==⇑9)) 9 "NoGroups" (qx) (bB (top 44))=true:=by decide +kernel
def sQ:uV (gq (aD (top 44)) "TooMany" && !(("TooMany" : Str)==⇑9)) 10 "TooMany" (qx) (bB (top 44))=true:=by decide +kernel
def kg:K7 (top 44) ["drawing","inner"] (ML 2 ["drawing","inner"]) [(17,"check_drawing"),(97,"check_groups"),(98,"check_bounds"),(102,"drawn_within")] BL CC px (qx)=true:=by decide +kernel
def p9:V3 ["_law_drawing_here","_law_inner","_law_told","_law_error","e"] ["_law_drawing_here","_law_inner"] (aD (top 54))=true:=by decide +kernel
def qq:∃f d c b j i h g a1 a2 a3 w v u a c1 c2 t s r q p o m x y l k,(bB (top 54)=Tw "_law_told" "_law_error" "_law_alone" "told" "none of these" f [d,c,b] j i h g a1 a2 a3 w v u a c1 c2 t s r q p o m x y l k/\(XF (aD (top 54)) ["_law_drawing_here","_law_inner","_law_told","_law_error","e"] "e" "_law_told" "_law_error" "_law_alone" 4 2 3&&(qt ⟨aD (top 54),["_law_drawing_here","_law_inner","_law_told","_law_error","e"],λn=>Ch n [(104,"within")],BL,CC,px⟩ Yo f&&ID Yo))=true)/\LK "e" "_law_told" "_law_error" d=↥(("NoDrawing" : Str),("drawing" : Str))/\LK "e" "_law_told" "_law_error" c=↥(("NoGroups" : Str),("groups" : Str))/\LK "e" "_law_told" "_law_error" b=↥(("TooMany" : Str),("many" : Str)):=⟨_,_,_,_,_,_,_,_,_,_,_,_,_,_,_,_,_,_,_,_,_,_,_,_,_,_,_,_,⟨rfl,by decide +kernel⟩,rfl,rfl,rfl⟩
def Rc:K7 (top 57) ["_law_script","_law_drawing_here","_law_inner","_law_k","_law_number","_law_one","_law_other","_law_due"] ["_law_script"] [(200,"_law_cell"),(212,"_law_drawing"),(215,"_law_copied"),(221,"_law_bent"),(253,"_law_refusal")] BL CC px (uN)=true:=by decide +kernel
def all_mk{l:wP}{w:World}{K:av}{h:Heap}{mg:aT}{fa V U d T S R Q O M L b c Z Ya:Addr}{D C:Value}(X:K.In h)(G:h.Ns cr mg)(hfa:mg "law" = ↥(.ref fa))
  (a0:Df K "_law_all_lots" (top 55))
  (a1:Df K "_law_spoilt" (top 53))
  (a2:Df K "_law_bent" (top 56))
  (a3:Df K "_law_cell" (top 46))
  (a4:Df K "_law_copied" (top 51))
  (a5:Df K "_law_frac" (top 47))
  (a6:Df K "_law_drawing" (top 50))
  (a7:Df K "_law_alone" (top 52))
  (a8:Df K "count_choices" (top 40))
  (a9:Df K "check_bounds" (top 39))
  (a10:Df K "is_whole" (top 16))
  (a11:Df K "are_houses" (top 27))
  (a12:Df K "common_divisor" (top 17))
  (a13:Df K "is_fraction" (top 19))
  (a14:Df K "is_row" (top 29))
  (a15:Df K "rows_rise" (top 30))
  (a16:Df K "common_bottom" (top 21))
  (a17:Df K "tops_over" (top 22))
  (a18:Df K "weighed_lots" (top 31))
  (a19:Df K "sums_to_one" (top 32))
  (a20:Df K "is_drawn" (top 33))
  (a21:Df K "is_lot" (top 28))
  (a22:Df K "is_drawing" (top 34))
  (a23:Df K "check_drawing" (top 35))
  (a24:Df K "check_groups" (top 38))
  (a25:Df K "fraction_of" (top 18))
  (a26:Df K "frac_times" (top 20))
  (a27:Df K "chosen_rows" (top 42))
  (a28:Df K "over_one" (top 23))
  (a29:Df K "frac_total" (top 24))
  (a30:Df K "rows_behind" (top 41))
  (a31:Df K "drawn_within" (top 43))
  (a32:Df K "within" (top 44))
  (a33:Df K "_law_refusal" (top 54))
  (a34:Df K "law" (top 57))
  (z:bM (λy=>eO K cr y=↥none) BL)
  (q0:eO K cr "MOST_CHOICES" = ↥↥D) (r0:RelV ↑500 D)
  (q1:eO K cr "MOST_HOUSES" = ↥↥C) (r1:RelV ↑12 C)
  (e0:eO K cr "ShareError" = ↥↥(.ref V))
  (e1:eO K cr "NoBottom" = ↥↥(.ref U))
  (e2:eO K cr "NoDrawing" = ↥↥(.ref d))
  (e3:eO K cr "NoShares" = ↥↥(.ref T))
  (e4:eO K cr "NoWeights" = ↥↥(.ref S))
  (e5:eO K cr "NoWorths" = ↥↥(.ref R))
  (e6:eO K cr "NoSize" = ↥↥(.ref Q))
  (e7:eO K cr "NoPair" = ↥↥(.ref O))
  (e8:eO K cr "NoLot" = ↥↥(.ref M))
  (e9:eO K cr "NoGuess" = ↥↥(.ref L))
  (e10:eO K cr "NoGroups" = ↥↥(.ref b))
  (e11:eO K cr "TooMany" = ↥↥(.ref c))
  (e12:eO K cr "NoText" = ↥↥(.ref Z))
  (e13:eO K cr "NoLine" = ↥↥(.ref Ya))
  (v1_0:bi K (.ref d) (.ref V)=↥true) (v1_1:bi K (.ref d) (.ref U)=↥false) (v1_2:bi K (.ref d) (.ref d)=↥true) (v1_3:bi K (.ref d) (.ref T)=↥false) (v1_4:bi K (.ref d) (.ref S)=↥false) (v1_5:bi K (.ref d) (.ref R)=↥false) (v1_6:bi K (.ref d) (.ref Q)=↥false) (v1_7:bi K (.ref d) (.ref O)=↥false) (v1_8:bi K (.ref d) (.ref M)=↥false) (v1_9:bi K (.ref d) (.ref L)=↥false) (v1_10:bi K (.ref d) (.ref b)=↥false) (v1_11:bi K (.ref d) (.ref c)=↥false) (v1_12:bi K (.ref d) (.ref Z)=↥false) (v1_13:bi K (.ref d) (.ref Ya)=↥false)
  (vv1:bi K (.ref d) (.type "ValueError")=↥true) (xx1:lz K d LJ "ValueError.__new__" = true)
  (w1_1:hY K (.ref d) "__getattribute__" = ↥↥(.builtin "BaseException.__getattribute__")) (w2_1:hY K (.ref d) "__getattr__" = ↥none) (w3_1:hY K (.ref d) "__class__" = ↥↥(.builtin "object.__class__")) (w4_1:gj K d (.type "BaseException")=↥true) (w5_1:gj K d (.type "object")=↥true)
  (v9_0:bi K (.ref b) (.ref V)=↥true) (v9_1:bi K (.ref b) (.ref U)=↥false) (v9_2:bi K (.ref b) (.ref d)=↥false) (v9_3:bi K (.ref b) (.ref T)=↥false) (v9_4:bi K (.ref b) (.ref S)=↥false) (v9_5:bi K (.ref b) (.ref R)=↥false) (v9_6:bi K (.ref b) (.ref Q)=↥false) (v9_7:bi K (.ref b) (.ref O)=↥false) (v9_8:bi K (.ref b) (.ref M)=↥false) (v9_9:bi K (.ref b) (.ref L)=↥false) (v9_10:bi K (.ref b) (.ref b)=↥true) (v9_11:bi K (.ref b) (.ref c)=↥false) (v9_12:bi K (.ref b) (.ref Z)=↥false) (v9_13:bi K (.ref b) (.ref Ya)=↥false)
  (vv9:bi K (.ref b) (.type "ValueError")=↥true) (xx9:lz K b LJ "ValueError.__new__" = true)
  (w1_9:hY K (.ref b) "__getattribute__" = ↥↥(.builtin "BaseException.__getattribute__")) (w2_9:hY K (.ref b) "__getattr__" = ↥none) (w3_9:hY K (.ref b) "__class__" = ↥↥(.builtin "object.__class__")) (w4_9:gj K b (.type "BaseException")=↥true) (w5_9:gj K b (.type "object")=↥true)
  (v10_0:bi K (.ref c) (.ref V)=↥true) (v10_1:bi K (.ref c) (.ref U)=↥false) (v10_2:bi K (.ref c) (.ref d)=↥false) (v10_3:bi K (.ref c) (.ref T)=↥false) (v10_4:bi K (.ref c) (.ref S)=↥false) (v10_5:bi K (.ref c) (.ref R)=↥false) (v10_6:bi K (.ref c) (.ref Q)=↥false) (v10_7:bi K (.ref c) (.ref O)=↥false) (v10_8:bi K (.ref c) (.ref M)=↥false) (v10_9:bi K (.ref c) (.ref L)=↥false) (v10_10:bi K (.ref c) (.ref b)=↥false) (v10_11:bi K (.ref c) (.ref c)=↥true) (v10_12:bi K (.ref c) (.ref Z)=↥false) (v10_13:bi K (.ref c) (.ref Ya)=↥false)
  (vv10:bi K (.ref c) (.type "ValueError")=↥true) (xx10:lz K c LJ "ValueError.__new__" = true)
  (w1_10:hY K (.ref c) "__getattribute__" = ↥↥(.builtin "BaseException.__getattribute__")) (w2_10:hY K (.ref c) "__getattr__" = ↥none) (w3_10:hY K (.ref c) "__class__" = ↥↥(.builtin "object.__class__")) (w4_10:gj K c (.type "BaseException")=↥true) (w5_10:gj K c (.type "object")=↥true)
  (m1_0:gj K b (.ref d)=↥false)
  (m2_0:gj K c (.ref d)=↥false)
  (m2_1:gj K c (.ref b)=↥false) :
  ∃fd:hD,(∀(s:ap) (v:Value),Tk s fd ⟨[v],[]⟩ [("_law_script",v)])/\∀base:Heap,K.In base->base.Ns cr mg->fP l.prog w K mg base u_ 36 fa fd ["_law_script"] (HK K 1 t4):=by
 ext(⟨f,fd,Fu,a⟩:a34)(e:hfa.symm.trans (acA X G a));cases e;ext(⟨oc,od,kV,dc,pm,an,cd,ct,sl,rfl,_,_⟩:id Fu.ex)(Y:bM.nn X G z);have j:∃u,mg "MOST_CHOICES" = ↥u/\xE K (GK.i 500) u:=⟨_,acA X G q0,r0⟩
 have g:∃u,mg "MOST_HOUSES" = ↥u/\xE K (GK.i 12) u:=⟨_,acA X G q1,r1⟩
 refine⟨hV "law" "law" (eK (top 57)) (bB (top 57)) (aD (top 57)) .none kV dc pm an cd ct,λs v=>.of_eq rfl,λbase B GB=>?_⟩;ext(N:@en7 l.prog w K h base mg BL CC px PT X G pr Y ⟨j,g,dS⟩);have xc1:XC K d:=⟨w1_1,w2_1,w3_1,w4_1,w5_1,by
  unfold gj at w5_1;cases q:ul K d with
  |none=>rw[q]at w5_1;cases w5_1
  |some _=>rfl⟩
 have A:oh "NoDrawing" d mg base:=tQ B GB e2 xx1;have xc9:XC K b:=⟨w1_9,w2_9,w3_9,w4_9,w5_9,by
  unfold gj at w5_9;cases q:ul K b with
  |none=>rw[q]at w5_9;cases w5_9
  |some _=>rfl⟩
 have O9:oh "NoGroups" b mg base:=tQ B GB e10 xx9;have YH:XC K c:=⟨w1_10,w2_10,w3_10,w4_10,w5_10,by
  unfold gj at w5_10;cases q:ul K c with
  |none=>rw[q]at w5_10;cases w5_10
  |some _=>rfl⟩
 have p:oh "TooMany" c mg base:=tQ B GB e11 xx10;have ZH:nu b d false base:=mT B xx9 m1_0;have ZG:nu c d false base:=mT B xx10 m2_0;have ZF:nu c b false base:=mT B xx10 m2_1;ext(E0:N 1 gn a0 ["_law_many","_law_count","_law_lots","_law_house"] 2 [] (Hm) dS)(E1:N 2 iZ a1 ["_law_drawing_here","_law_number","_law_many","_law_rows","_law_chance","_law_lot","_law_some"] 2 [] (jK) dS)(E2:N 3 lq a2 ["_law_drawing_here","_law_inner","_law_number","_law_mode","_law_due","_law_at"] 3 [(252,"_law_spoilt"),(254,"_law_all_lots")] (qy) ⟨E1.u,E0.u,dS⟩)(E3:N 4 ll a3 ["_law_script","_law_k","_law_cell_here","_law_number"] 2 [] (fE) dS)(E4:N 5 i_ a4 ["_law_drawing_here"] 1 [] (jL) dS)(E5:N 6 lj a5 ["_law_top","_law_bottom","_law_one","_law_other"] 2 [] (me) dS)(E6:N 7 g_ a6 ["_law_number","_law_most","_law_many","_law_count","_law_weights","_law_k","_law_lot","_law_whole"] 2 [(201,"_law_frac")] (Li) ⟨E5.u,dS⟩)(Xd:QS (P:=l.prog) (w:=w) (base:=base) X G (l:=HG) xc1 8 a7 ⟨⟨_,e0,v1_0⟩,⟨_,e1,v1_1⟩,⟨_,e2,v1_2⟩,⟨_,e3,v1_3⟩,⟨_,e4,v1_4⟩,⟨_,e5,v1_5⟩,⟨_,e6,v1_6⟩,⟨_,e7,v1_7⟩,⟨_,e8,v1_8⟩,⟨_,e9,v1_9⟩,⟨_,e10,v1_10⟩,⟨_,e11,v1_11⟩,⟨_,e12,v1_12⟩,⟨_,e13,v1_13⟩,dS⟩ vv1 (Y.mem _ ⇑4) (Y.mem _ ⇑4) (Y.mem _ ⇑4) Rw Rg ⇑4 rfl)(acB:QS (P:=l.prog) (w:=w) (base:=base) X G (l:=HF) xc9 8 a7 ⟨⟨_,e0,v9_0⟩,⟨_,e1,v9_1⟩,⟨_,e2,v9_2⟩,⟨_,e3,v9_3⟩,⟨_,e4,v9_4⟩,⟨_,e5,v9_5⟩,⟨_,e6,v9_6⟩,⟨_,e7,v9_7⟩,⟨_,e8,v9_8⟩,⟨_,e9,v9_9⟩,⟨_,e10,v9_10⟩,⟨_,e11,v9_11⟩,⟨_,e12,v9_12⟩,⟨_,e13,v9_13⟩,dS⟩ vv9 (Y.mem _ ⇑4) (Y.mem _ ⇑4) (Y.mem _ ⇑4) Rv Rf ⇑4 rfl)(Xc:QS (P:=l.prog) (w:=w) (base:=base) X G (l:=y_) YH 8 a7 ⟨⟨_,e0,v10_0⟩,⟨_,e1,v10_1⟩,⟨_,e2,v10_2⟩,⟨_,e3,v10_3⟩,⟨_,e4,v10_4⟩,⟨_,e5,v10_5⟩,⟨_,e6,v10_6⟩,⟨_,e7,v10_7⟩,⟨_,e8,v10_8⟩,⟨_,e9,v10_9⟩,⟨_,e10,v10_10⟩,⟨_,e11,v10_11⟩,⟨_,e12,v10_12⟩,⟨_,e13,v10_13⟩,dS⟩ vv10 (Y.mem _ ⇑4) (Y.mem _ ⇑4) (Y.mem _ ⇑4) Lr K6 ⇑4 rfl)(E8:N 9 fG a8 ["inner","groups","count","group"] 2 [] (Lm) dS)(E9:N 10 cR a9 ["drawing","inner"] 2 [(99,"count_choices")] (uO) ⟨E8.u,dS⟩ jn)(WV:QR (P:=l.prog) (w:=w) X G p 10 10 cR (qC 10) (qC 10 98) a9 jn kK (pr _ _ _) Y ⟨j,g,dS⟩ ⟨E8.u,dS⟩ ⟨Ui,dS⟩ (λx h=>We (Φ:=cR) (Ψ:=qC 10) Y2 h))(t:N 11 jc a10 ["thing"] 1 [] (iW) dS)(J:N 12 jf a11 ["thing","many"] 2 [(0,"is_whole")] (cX) ⟨t.u,dS⟩)(r:N 13 eW a12 ["one","other","rest"] 2 [] (dF) dS)(E13:N 14 hJ a13 ["thing"] 1 [(0,"is_whole"),(1,"common_divisor")] (b6) ⟨t.u,r.u,dS⟩)(E14:N 15 qF a14 ["thing","many"] 2 [(3,"is_fraction"),(43,"are_houses")] (eL) ⟨E13.u,J.u,dS⟩)(E15:N 16 jQ a15 ["rows","ahead","behind"] 1 [] (fm) dS)(I:N 17 fH a16 ["some","bottom","part"] 1 [(1,"common_divisor")] (c_) ⟨r.u,dS⟩)(H:N 18 jP a17 ["some","bottom"] 2 [] (gL) dS)(E18:N 19 gm a18 ["rows","chances","lots","bottom"] 1 [(9,"common_bottom"),(10,"tops_over")] (kh) ⟨I.u,H.u,dS⟩)(E19:N 20 gY a19 ["rows","weighed"] 1 [(14,"weighed_lots")] (eZ) ⟨E18.u,dS⟩)(E20:N 21 lr a20 ["thing","many","rows","row"] 1 [(0,"is_whole"),(12,"is_row"),(15,"sums_to_one"),(44,"rows_rise")] (eU) ⟨t.u,E14.u,E19.u,E15.u,dS⟩)(E21:N 22 qG a21 ["thing","many"] 2 [(43,"are_houses")] (iE) ⟨J.u,dS⟩)(F:N 23 fQ a22 ["thing"] 1 [(11,"is_lot"),(45,"is_drawn")] (dE) ⟨E21.u,E20.u,dS⟩)(o:N 24 ck a23 ["thing"] 1 [(16,"is_drawing")] (bR) ⟨F.u,dS⟩ iz)(Na:QR (P:=l.prog) (w:=w) X G A 1 24 ck (qC 1) (qC 1 17) a23 iz kJ (pr _ _ _) Y ⟨j,g,dS⟩ ⟨F.u,dS⟩ ⟨Ui,dS⟩ (λx h=>Wf (Φ:=ck) (Ψ:=qC 1) y16 h))(YC:N 25 bO a24 ["thing","many","drawing"] 2 [(17,"check_drawing")] (ri) ⟨o.u,dS⟩ fD)(WZ:QR (P:=l.prog) (w:=w) X G A 1 25 bO (qC 1) (qC 1 97) a24 fD lD (pr _ _ _) Y ⟨j,g,dS⟩ ⟨o.u,dS⟩ ⟨λ_=>Na.u,dS⟩ (λx h=>QQ (Φ:=bO) (Ψ:=qC 1) IP (λ_ h=>h) h))(WY:QR (P:=l.prog) (w:=w) X G O9 9 25 bO (qC 9) (qC 9 97) a24 fD lC (pr _ _ _) Y ⟨j,g,dS⟩ ⟨o.u,dS⟩ ⟨(λh=>Uj h),dS⟩ (λx h=>QQ (Φ:=bO) (Ψ:=qC 9) IP (λ_ h=>h) h))(E:N 26 fb a25 ["top","bottom","divisor"] 2 [(1,"common_divisor")] (df) ⟨r.u,dS⟩)(E26:N 27 je a26 ["one","other"] 2 [(2,"fraction_of")] (oQ 2) ⟨E.u,dS⟩)(E27:N 28 hU a27 ["chance","layers","chosen","rows","longer","made"] 2 [(6,"frac_times")] (Ll) ⟨E26.u,dS⟩)(E28:N 29 lh a28 ["some","bottom"] 1 [(9,"common_bottom"),(10,"tops_over")] (iV) ⟨I.u,H.u,dS⟩)(E29:N 30 jd a29 ["some","tops"] 1 [(2,"fraction_of"),(41,"over_one")] (fN) ⟨E.u,E28.u,dS⟩)(E30:N 31 gZ a30 ["inner","ahead","told","drawing"] 1 [] (Lg) dS)(YB:N 32 gp a31 ["drawing","inner","layers","ways","chance","groups","part","lot"] 2 [(42,"frac_total"),(100,"rows_behind"),(101,"chosen_rows")] (Lj) ⟨E29.u,E30.u,E27.u,dS⟩)(E32:N 33 dR a32 ["drawing","inner"] 2 [(17,"check_drawing"),(97,"check_groups"),(98,"check_bounds"),(102,"drawn_within")] (qx) ⟨o.u,YC.u,E9.u,YB.u,dS⟩ kg)(WX:QR (P:=l.prog) (w:=w) X G A 1 33 dR (qC 1) (qC 1 104) a32 kg vd (pr _ _ _) Y ⟨j,g,dS⟩ ⟨o.u,YC.u,E9.u,YB.u,dS⟩ ⟨λ_=>Na.u,λ_=>WZ.u,(λh=>Uj h),Ui,dS⟩ (λx h=>AG (Φ:=dR) (Ψ:=qC 1) IP Th (λ_ h=>h) (λ_ h=>h) (λ_ h=>h) h))(WW:QR (P:=l.prog) (w:=w) X G O9 9 33 dR (qC 9) (qC 9 104) a32 kg vc (pr _ _ _) Y ⟨j,g,dS⟩ ⟨o.u,YC.u,E9.u,YB.u,dS⟩ ⟨(λh=>Uj h),λ_=>WY.u,(λh=>Uj h),Ui,dS⟩ (λx h=>AG (Φ:=dR) (Ψ:=qC 9) IP Th (λ_ h=>h) (λ_ h=>h) (λ_ h=>h) h))(Rx:QR (P:=l.prog) (w:=w) X G p 10 33 dR (qC 10) (qC 10 104) a32 kg sQ (pr _ _ _) Y ⟨j,g,dS⟩ ⟨o.u,YC.u,E9.u,YB.u,dS⟩ ⟨(λh=>Uj h),(λh=>noG h),λ_=>WV.u,Ui,dS⟩ (λx h=>AG (Φ:=dR) (Ψ:=qC 10) IP Th (λ_ h=>h) (λ_ h=>h) (λ_ h=>h) h))(⟨_,n,m,k,_,_,_,_,_,_,_,_,_,_,_,_,_,_,_,_,_,_,_,_,_,_,_,_,hT,z0,z1,z2⟩:qq);have H0:C9 mg base (aD (top 54)) _ "e" "_law_told" "_law_error" "drawing" [n,m,k]:=.here z0 A ⇑6;have H1:C9 mg base (aD (top 54)) _ "e" "_law_told" "_law_error" "groups" [n,m,k]:=.next z0 A ZH ⇑6 (.here z1 O9 ⇑6);have H2:C9 mg base (aD (top 54)) _ "e" "_law_told" "_law_error" "many" [n,m,k]:=.next z0 A ZG ⇑6 (.next z1 O9 ZF ⇑6 (.here z2 p ⇑6));have E33:=enW (P:=l.prog) (w:=w) (Wd:=xI) X G 4 2 3 34 dg qC (nE dg) a33 p9 hT (pr _ _ _) Y ⟨j,g,dS⟩ ⟨E32.u,dS⟩ H0 Xd.u (λe s q=>by
  ext((⟨rfl,rfl⟩|⟨rfl,rfl⟩|⟨rfl,rfl⟩):Bi q)
  ·exact⟨_,H0,Xd.u,⟨λ_=>WX.u,dS⟩⟩
  ·exact⟨_,H1,acB.u,⟨λ_=>WW.u,dS⟩⟩
  ·exact⟨_,H2,Xc.u,⟨λ_=>Rx.u,dS⟩⟩) aaR
 exact enL 35 HI t4 Fu Rc (pr _ _ _) Y ⟨j,g,dS⟩ ⟨E3.u,E6.u,E4.u,E2.u,E33.u,dS⟩ (Fj λns _=>(yg _ _ (BQ ns)).2)
def walk{l:wP}{q:aG}{loose:ao}{p:(aT)->Heap->Prop}{c:World->Heap->Prop}{d:DefRec}{K:Params->av}(hn:l.most=↥63)(r:d.params.defaults=[])
  (j:∀(w:World) (h:Heap),c w h->(K w.params).In h)
  (F:∀(w:World) (mg:aT) (fa:Addr) (h:Heap),(K w.params).In h->h.Ns cr mg->mg d.name=↥(.ref fa) ->
   ∃b:hD,(∀(s:ap) (u:Value),Tk s b ⟨[u],[]⟩ [("_law_script",u)])/\∀base:Heap,(K w.params).In base->base.Ns cr mg->fP l.prog w (K w.params) mg base u_ 36 fa b ["_law_script"] (HK (K w.params) 1 t4)) :
  VQ q loose p c l.row.toRowW d [] (λf e=>Rs f e) :=
 L2.Iq (n:=63) (k:=36) (x:="_law_script") (CX:=λ_=>u_) (sp:=λw=>HK (K w.params) 1 t4) hn ⇑4 r ⟨rfl,by decide,by decide⟩ j F (λw H a g i o m=>OX (K w.params) H a g t4 (JO i) o m) λ_ _ _ _ _ z=>z
end Asm
end
open PySem PySem.W PyProof.Rows
set_option maxRecDepth 100000 in
set_option maxHeartbeats 0 in
theorem PySem.Challenge.cw_sharesample_k48_refused_drawings_within_holds : PySem.Challenge.rw_sharesample_k48_refused_drawings_within.Holds := by
 w_on;o_law;k_head;(case hw=>w_witness2)
 k_fill
 refine Asm.walk (l:=PySem.Challenge.rw_sharesample_k48_refused_drawings_within) rfl rfl (fun w h Y=>PySem.W.kIn_of Y) ?F
 case F =>
  intro w mg fa h KX G hmg
  refine' Asm.all_mk KX G hmg ?a0 ?a1 ?a2 ?a3 ?a4 ?a5 ?a6 ?a7 ?a8 ?a9 ?a10 ?a11 ?a12 ?a13 ?a14 ?a15 ?a16 ?a17 ?a18 ?a19 ?a20 ?a21 ?a22 ?a23 ?a24 ?a25 ?a26 ?a27 ?a28 ?a29 ?a30 ?a31 ?a32 ?a33 ?a34 ?zz ?q0 ?r0 ?q1 ?r1 ?e0 ?e1 ?e2 ?e3 ?e4 ?e5 ?e6 ?e7 ?e8 ?e9 ?e10 ?e11 ?e12 ?e13 ?v1_0 ?v1_1 ?v1_2 ?v1_3 ?v1_4 ?v1_5 ?v1_6 ?v1_7 ?v1_8 ?v1_9 ?v1_10 ?v1_11 ?v1_12 ?v1_13 ?vv1 ?xx1 ?w1_1 ?w2_1 ?w3_1 ?w4_1 ?w5_1 ?v9_0 ?v9_1 ?v9_2 ?v9_3 ?v9_4 ?v9_5 ?v9_6 ?v9_7 ?v9_8 ?v9_9 ?v9_10 ?v9_11 ?v9_12 ?v9_13 ?vv9 ?xx9 ?w1_9 ?w2_9 ?w3_9 ?w4_9 ?w5_9 ?v10_0 ?v10_1 ?v10_2 ?v10_3 ?v10_4 ?v10_5 ?v10_6 ?v10_7 ?v10_8 ?v10_9 ?v10_10 ?v10_11 ?v10_12 ?v10_13 ?vv10 ?xx10 ?w1_10 ?w2_10 ?w3_10 ?w4_10 ?w5_10 ?m1_0 ?m2_0 ?m2_1
  case a0 | a1 | a2 | a3 | a4 | a5 | a6 | a7 | a8 | a9 | a10 | a11 | a12 | a13 | a14 | a15 | a16 | a17 | a18 | a19 | a20 | a21 | a22 | a23 | a24 | a25 | a26 | a27 | a28 | a29 | a30 | a31 | a32 | a33 | a34 =>
   refine' DI.dmk ?x ?y ?z ?w
   case x | y | z | w=>k_is
  (case zz=>refine' ⟨?_,?_,?_,?_,?_,?_,?_,?_,?_,?_,?_,?_,?_,?_,?_,?_,trivial⟩ <;> show PySem.W.nsIn _ _ _ = some none <;> k_is)
  (case q0=>k_is);(case r0=>exact ⟨_,rfl⟩)
  (case q1=>k_is);(case r1=>exact ⟨_,rfl⟩)
  (case e0=>k_is)
  (case e1=>k_is)
  (case e2=>k_is)
  (case e3=>k_is)
  (case e4=>k_is)
  (case e5=>k_is)
  (case e6=>k_is)
  (case e7=>k_is)
  (case e8=>k_is)
  (case e9=>k_is)
  (case e10=>k_is)
  (case e11=>k_is)
  (case e12=>k_is)
  (case e13=>k_is)
  case v1_0 | v1_1 | v1_2 | v1_3 | v1_4 | v1_5 | v1_6 | v1_7 | v1_8 | v1_9 | v1_10 | v1_11 | v1_12 | v1_13=>kit_is
  (case vv1=>kit_is)
  (case xx1=>k_exc)
  case w1_1 | w2_1 | w3_1 | w4_1 | w5_1=>k_is
  case v9_0 | v9_1 | v9_2 | v9_3 | v9_4 | v9_5 | v9_6 | v9_7 | v9_8 | v9_9 | v9_10 | v9_11 | v9_12 | v9_13=>kit_is
  (case vv9=>kit_is)
  (case xx9=>k_exc)
  case w1_9 | w2_9 | w3_9 | w4_9 | w5_9=>k_is
  case v10_0 | v10_1 | v10_2 | v10_3 | v10_4 | v10_5 | v10_6 | v10_7 | v10_8 | v10_9 | v10_10 | v10_11 | v10_12 | v10_13=>kit_is
  (case vv10=>kit_is)
  (case xx10=>k_exc)
  case w1_10 | w2_10 | w3_10 | w4_10 | w5_10=>k_is
  (case m1_0=>k_is)
  (case m2_0=>k_is)
  (case m2_1=>k_is)
