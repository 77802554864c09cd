import PyProof.Rows.All
import Wide.All
import OpenK.AllK
import Wide.FinOn
import PyProof.EqAt
import PyProof.EqKinds
import PyProof.TupleCall
import KE.BitLaws
import KE.KTupSum
import Open.SpecLaws
import KE.OsHead
import KE.OsGo
import VbexabSpec
import PySem.Challenge.RW_stormhome_s01_answers
set_option Elab.async false
set_option linter.all false
set_option maxRecDepth 100000
theorem Ws0_:PySem.Challenge.rw_stormhome_s01_answers.wellSaid=true:=by decide+kernel
structure PySem.W.Fast:Prop where(tw16183868844749959592 tw6384099086649380946 tw18143131717868794006 tw15450080851705289378 tw9260576509260591512 tw5489100325312687543 tw18410273762248495041 tw203588649676296226 tw9524507537124207813 tw15072316914885255280 tw8030387961121671583 tw10547773873460957015 tw9119309181236536351 tw12323050494629138738 tw7145374837834925301 tw17856415632869968926 tw9677651356012515809 tw6119027025203762782 tw10297111009413006299 tw14836738945570737078 tw12425098427534801675 tw10899797362004627518 tw17600887764671650695 tw4374878301053978152 tw17896509706595914452 tw17911263579723131402 tw2584005164473589177 tw5141784623623089670 tw16319800572098784830 tw10187314759554650711 tw2303521823629811700 tw12584782082302105596 tw11491508729411054492 tw17650236582913034016 tw10165679376418087761 tw9915148282444774394 tw16329893626343457429 tw8498583294031742607 tw8269069246785830718 tw697964510580838467 tw12656210238619884402 tw15460548569363874982 tw4147118852406091670 tw14002712744072357811 tw8585883949595728384 tw7882652860774251129 tw13330571762311651636 tw2356993529176291909 tw5082453431689409386 tw10951771308583400103 tw14448173071966515776 tw106115026669012972 tw17262059806520423041 tw17114779161736753155 tw14639303612668472928 tw8891749206320436244 tw2225213461173656142 tw3510785232700632742 tw8222368628730219271 tw9679537269688829022 tw18298915106620638431 tw16232438050531991969 tw5773847911111916291 tw16242787719079367132 tw15805891645770993268 tw3705064783668128791 tw11865918659132291216 tw4518810300365753443 tw9187488944392276502 tw6263297982421495524 tw13681126306132930541 tw10766775929119677351 tw10459403279222602534 tw7390337018154570392 tw10657149760880747341 tw18135013953737810005 tw10256115762248858505 tw9241053929017186954 tw15638905593565319052 tw1820375211444579733 tw6460915086897677733 tw6187694115285562913 tw11198388805354357777 tw13457316983366734628 tw4184050380992720239 tw2962648485763358633 tw4246137653291228610 tw16498429632078576065 tw15998867253854591407 tw13594423926689700800 tw15075252293908137151 tw16675201347921264300 tw5374513960067530367 tw14451507013588455744 tw15735809816395575782 tw3839152537396069165 tw2401188180062314909 tw3195446178709788851 tw18145370174151113745 tw6595215643564466816 tw4116490161551397758 tw17487327745438725074 tw17302381632257366615 tw5296558361464441705 tw18386493708138713979 tw11182504327758673948 tw9518946104906509491 tw17406788647044764608 tw1459078228886048215 tw5316148936938002506 tw17051221388837981432 tw3364851740889613061 tw9606122671897877697 tw17890724316607192831 tw16284643687595020510 tw1980508735376492790 tw12810196711273323364 tw11445322320646887278 tw11652269041424226434 tw10495475744382897859 tw5308286829234827608 tw3021299293531658510 tw4447687606582438538 tw16090833876213751941 tw10983229888671115343 tw3255503202399244612 tw4916692783655622675 tw4728491112909027000 tw10192746586885914387 tw5979082093261337912 tw5529812543143879823 tw3385812869940370111 tw9648071844022833485 tw8580483361948412950 tw16618910942192863761 tw11001437581177453790 tw13019756674144193516 tw12847997125116584898 tw11197502478279401660 tw15861653826616218587 tw2987312343229558055 tw5260864432312375802 tw17934043818987432486 tw15005836880196665344 tw707186658947907636 tw11067297308050687248 tw9734934461898463929 tw1211153544652862466 tw15217649052666442101 tw8625446186674907976 tw14973676917904639395 tw2383450720019837080 tw2703364476863452165 tw14009382490033007167 tw1704668590382302069 tw1994146505978313560 tw9155213021641437618 tw8786037632883391569 tw5151473649582153845 tw5097908408256055138 tw2821425893420627316 tw9823223253710178787 tw17681163420160882642 tw7114098155250341565 tw662095324110325249 tw8827775050216702750 tw11899286085497044702 tw18090508735735760330 tw10853399577801343470 tw5131117067029034554 tw2993680703836199808 tw1401841531909895190 tw3086031684376505089 tw3622761328938924853 tw10691517229878337382 tw11551764420435176381 tw1939419906297720477 tw8554619344399563524 tw10010592837462935929 tw2467569434640350542 tw6732219768954448532 tw16220705766922875580 tw7492392735911183277 tw868703219402783621 tw2522296614156732644 tw16136005931419408858 tw13141318445666674787 tw298210169594663734 tw5239081760222897588 tw3524866190788279080 tw1562049304917532334 tw15284620403335456159 tw1846646551109779447 tw1615689408531908384 tw3232241798370075514 tw9424954083697287087 tw1919571388288839695 tw5561283982469550952 tw13712550219248156753 tw5689089351020915448 tw6670688451665817980 tw730262565879086202 tw17601062668322111119 tw16095111294054600094 tw3742409701633030142 tw15765310678901995776 tw12470211320766530078 tw8796922588036061225 tw11413915705818294959 tw8291503240793791404 tw4278369684065326567 tw11495678926629894193 tw3974072393488583933 tw14243326178102556691 tw18350903192064047659 tw1134586570454832467 tw3161454878606292589 tw13102399174859602602 tw1564359965164497502 tw14647185739838740943 tw218856910364119207 tw14099160478121158341 tw13165363557866287248 tw11943164973132763403 tw9644373637092798963 tw16817735337043495137 tw2183184220304186553 tw1990976771157338581 tw18042024712146678067 tw15100982423265162567 tw2551525687711850919 tw1635975148610947598 tw17567551486890790624 tw4237021427586341262 tw15739057296701616764 tw5273980549329082817 tw12592881005521046739 tw5623329219646291652 tw9454285529782006698 tw3841167820196703397 tw18339297292394768753 tw10897274421393968835 tw17730118754185146210 tw16676653795878650971 tw904909206263326768 tw17995744094452369988 tw9111084607293772396 tw12118712932771106302 tw11544636523676641638 tw10080607722618644750 tw17176673683077291170 tw3107272669326844886 tw1122669486055207501 tw14546138450003241713 tw5001538097627368582 tw16394857552743087459 tw11687188292509334799 tw12387077262399145482 tw1892662482396235795 tw1564069062755813361 tw2379841945587865225 tw7047848934465151987 tw15731760829263340301 tw15788238054338865628 tw17091898032563938772 tw13670326188966307293 tw14372346891202423018 tw16608529943795477026 tw7776716054486621144 tw11491641415201165314 tw16643016708364558141 tw12280352568418519697 tw18120731318732434496 tw4280524805928284961 tw7935553455832008820 tw1700368487406420462 tw4981472985278876080 tw4556514339587294605 tw1574745465799398241 tw13378215820910073920 tw3652138068087763215 tw16707093102412368263 tw16425712054534037890 tw3519097448221726401 tw18333129156310714 tw15296979495302963490 tw9488238033221514199 tw12593807519389601883 tw17781955027823585265 tw17416415974633677760 tw8723909386600284045 tw5924012445773828193 tw76296180468195910 tw2427565720510165864 tw8027648815233937635 tw15634444310124186005 tw9389501036274916248 tw9339035693284537817 tw5300839622968921668 tw17984885867166129122 tw4240075057631293676 tw17553079547873027697 tw3912246484531737411 tw7106855001025385842 tw6721380976792496286 tw3168267421824394763 tw9485299204998595842 tw15829665622781682345 tw13065024427184009618 tw7693351978385952441 tw17861002596594260824 tw6632454519894147335 tw14735975070078912326 tw6025865288262655711 tw898534120788155451 tw8762110628109012908 tw4939406294920182105 tw1060168986863246042 tw14500472768007237519 tw17248749967915912404 tw8650956277160917683 tw13025466338540834969 tw5338076785498881539 tw12004460007536888281 tw13084287941725135321:True)
namespace X
def PySem.W.holds_os:=fun{G:Prop}{r q loose Xt XP α Yf Ya YP d kwd N} l a b c e f g h i j(k:_∧G)m n o(p:G→_)=>@_root_.PySem.W.holds_os r q loose Xt XP α Yf Ya YP d kwd N l a b c e f g h i j k.1 m n o (p k.2)
open PySem PySem.W PyProof.Rows
set_option maxHeartbeats 0 in
noncomputable def E0:(G:Prop)×'(G→PySem.Challenge.rw_stormhome_s01_answers.Holds):=⟨_,fun h=>by
 have:=And.intro Ws0_ h;w_on;k_headS;(case hw=>exact⟨[.list [.int 1]],by decide+kernel,by decide+kernel⟩)
 exact id⟩
end X
open Array renaming length_toList->u1,toList->Lm,mem_toList_iff->Zj,getElem?_eq_none->abW
open Bool renaming false_ne_true->cb,false_and->i3,eq_iff_iff->iJ,and_eq_true->dA,or_false->Mp,and_false->xW,false_eq_true->Ft,or_eq_true->mC,true_or->abl,false_or->gE,not_eq_true'->h8,noConfusion->lN,and_eq_true_iff->adL,not_true->OF,true_and->eE,and_true->IF,not_eq_false'->gU,or_eq_false_iff->lV,not_false->aoj
open Classical renaming epsilon->apP,byContradiction->R9,epsilon_spec->apQ
open Decidable renaming not_not->aj0
open Eq renaming mp->zj
open False renaming elim->iZ
open ForInStep renaming yield->Fp
open Int renaming toNat_natCast->ml,natCast_nonneg->ai_,zero_add->uc,toNat->DQ
open Int.ofNat renaming inj->KA
open List renaming range->bP,mem_filter->rW,mem_range->ip,filterMap_cons->Ea,mem_cons_self->cI,mem_cons_of_mem->c_,mem_cons->b_,mem_append->e_,mem_append_left->Yi,getElem?_eq_some_iff->du,getElem_inj->Yj,getElem?_set_self->xy,getElem?_set_ne->xA,mem_filterMap->AJ,mem_append_right->sh,length_cons->b6,lookup->sy,map_cons->dw,length_map->aB,append_nil->gi,nodup_cons->vm,of_mem_zip->L7,replicate->fj,length->i5,length_take->eW,getElem?_append_right->Ma,getElem?_replicate->ZM,getElem?_append_left->EO,getElem?_map->cR,getElem?_take_of_lt->ZN,mem_of_getElem?->dI,length_append->bT,length_replicate->vo,size_toArray->c7,length_drop->gj,length_set->sI,all_cons->mr,any_cons->mv,replicate_succ->vF,flatten_cons->AZ,foldl->Mv,append_assoc->mx,foldl_cons->nv,length_singleton->jB,nil_append->xX,map_nil->My,take_of_length_le->A2,all_eq_true->jC,getElem?_eq_getElem->di,getD_eq_getElem?_getD->eS,range_succ_eq_map->E9,all_map->sO,forIn_nil->A6,forIn_cons->Fc,lookup_cons->vH,getElem?_eq_none->x5,mem_map->mB,find?_cons->qp,cons_append->mD,length_nil->ja,nodup_nil->M2,getElem?_cons_zero->Nh,getElem?_cons_succ->ach,drop_zero->vT,drop_eq_getElem_cons->FZ,take_succ_cons->acE,drop_drop->yl,length_pos_iff->vU,drop_length->qw,isEmpty_iff->F2,toList_toArray->acO,any_eq_true->acX,mem_singleton->cA,map_append->b9,zipIdx_cons->ac_,zipIdx_nil->ada,mem_of_find?_eq_some->Bt,find?_some->Gn,getElem?_range->j_,length_range->ia,filter_cons->lO,range_succ->tH,foldl_append->OH,reverse_reverse->aia,reverse_cons->Sd,takeWhile_cons->aie,map_map->jf,take_length->fD,sum_cons->ph,length_filter_le->qS,filter_append->ID,filter_nil->aij,contains_cons->wA,map_id->CB,flatMap_cons->pj,idxOf_cons->SE,contains_iff_mem->zf,idxOf_lt_length_of_mem->SG,getElem_idxOf->SH,idxOf_lt_length_iff->IJ,getElem?_of_mem->wF,find?_eq_none->SK,flatMap_append->JF,all_append->aj3,findIdx?_cons->aj5,getElem?_drop->uw,take_append_drop->zY,take_left->aks,mem_of_mem_drop->Vo,map_drop->akA,map_take->akB,length_eq_zero_iff->akE,length_reverse->J_,getElem_range->alH,find?->amQ,eq_nil_of_length_eq_zero->anv,take_add_one->Xr,getElem_map->anS,drop_left->anZ,mem_map_of_mem->an5
open List.Pairwise renaming filter->ap4
open List.cons renaming injEq->Sk
open Nat renaming lt_of_lt_of_le->dG,lt_irrefl->m3,ne_of_lt->fU,le_trans->dU,le_of_lt->D9,ne_of_gt->va,le_refl->a9,zero_le->bu,le_of_eq->ED,lt_succ_self->EE,succ_mul->aaz,add_comm->A0,mul_comm->aaD,le_of_succ_le->Fg,lt_succ_of_lt->Fj,succ_ne_self->acu,le_add_right->vQ,add_zero->acD,lt_of_le_of_lt->qB,le_antisymm->ad5,eq_of_testBit_eq->Gq,testBit_and->Bv,testBit_lt_two_pow->Bw,pow_le_pow_right->jc,and_le_right->tG,not_lt_zero->mH,sub_self->aec,testBit->ud,and_le_left->Je,and_assoc->Tv,max_le->T5,min_eq_left->Ds,sub_zero->JU,add_assoc->anW,le_succ_of_le->aoo
open Option renaming isSome_iff_exists->EN,getD_none->aai,map_eq_some_iff->fP,isSome_some->aaX,map_some->i_,isSome_map->MW,isNone_iff_eq_none->zi,map_none->zW,map_eq_none_iff->zZ
open Option.some renaming inj->bS,injEq->gF
open Or renaming inl->j7,inr->iO
open Prod renaming ext->ZS
open Prod.mk renaming injEq->iG
open PyFlat renaming row->XH,call->KY,rows->aos,calls->KZ,told->XJ,played->aov
open PyProof.Rows renaming callWith_type1->qf,callWith_builtin1->ao1,slot_tuple_getitem->xS,signs_ofString->apt,split_le->acL,join_list->apu,join_tuple->apv,boot_int->apR,boot_ord->apS,boot_sum->IY,boot_min->Jg,boot_max->zr,boot_str->zM,boot_list->am_,boot_all->aqy,AllBare->uV,Call_->sd,boot_range->LB,envOfC->oH,slicePart_none->ZU,entry_tuple_getitem->ZZ,args_tuple_getitem->Z0,tupleItemsOf_->Z2,Subscript_->Mh,subscriptTail->Mi,subscriptTail_builtinR->aaa,boot_enumerate->acs
open PySem renaming Value->aA,World->cD,Program->cQ,Addr->ae,Heap->bU,sizeLine->bf,sysModules->jx,tupleKind->uR,mainGlobals->jT,builtinsNs->K_,bootBuiltins->uU,Around->eB,Shared->aS,Scope->iI,wpAny->aD,storeName->Lf,Expr->aY,model->aP,isTrue->Az,backTo->g9,starEach->bo,Stmt->aK,wpAny_mono->lD,wpAny_Name->Lj,wpAny_loadName_local->Yo,wpAny_loadName_cell->Yp,CmpOp->uY,compareOp->gy,behindInMarks->xB,wpAny_Compare1->Ys,wpAny_isTrue_Compare1->Yt,wpAny_truthy_bool->p_,standAt->Eh,holding->xC,wpAny_execs_nil->Ei,wpAny_execs_cons->YD,swapsWith->rZ,assign->u5,assignEach->r8,Operator->Lr,wpAny_assign_Name->YM,wpAny_bind->ay,wpAny_holding->r9,wpAny_standAt->El,wpAny_passesOwn->u_,pyNext->m8,letOwnedTupleGo->En,pyIter->AI,wpAny_pure->bc,rawInt->kK,IsRangeIter->Er,wpAny_pyNext_range_end->YY,wpAny_pyIter_rangeiter->YZ,wpAny_pyIter_list->Ly,wpAny_pyIter_range->Y1,foldedSetIterable->Eu,binaryOp->sr,sizeLine_eq->LM,getMethod->EA,codeAny->vj,attributeBase->oG,callWith->LR,backToKw->EG,keywordEach->EH,recursionLimit->Zw,cLine->lH,FuncData->aM,BindsTo->xO,bindArgs->LW,codeAny_mono->EK,wpAny_Call_Name_kw->xP,NameKind->vk,bindL->sC,bindC->sD,cellsFrom->gP,IsPart->oK,wpAny_field->j3,getItem->oM,wpAny_sequenceKey->ZY,wpAny_callSpecial?_slot->sF,wpAny_call_entry->oN,wpAny_typeOf->Mg,wpAny_newObj_type->oO,evalPart_none->Z5,seqIndex_of->Mm,subscripted->EV,slot_list_getitem->aab,typeIs_str->vz,sliceBounds->vA,call_list_seq->aao,typeIs_int->Mt,call_meets->ql,intItems->E5,nums_intItems->MA,PyData->xY,pushCells->sP,pushCells_keeps->Ff,newFunctionEnv->aaW,compEnvC->lJ,notedBy->x_,compPost->MK,comprehension->aa7,valueAt->sS,atKey->qt,wpAny_getItem_of->abp,tupleKind_room_in1->FC,wpAny_notIn_of->abt,wpAny_Dict_empty->abG,wpAny_pyIter_revIter->abS,wpAny_pyIter_slot->abY,Builtin->yg,wpAny_dictEntries->Nd,wpAny_dictEpoch->Nf,wpAny_attempt->FF,wpAny_typeNameOfWhole_keyiter->FG,wpAny_typeNameOf_keyiter->FH,wpAny_fieldsOf->ab4,wpAny_isOneOf_keyiter->ab7,wpAny_setField->FJ,firstArgMember->FN,wpAny_handled->acd,wpAny_isInstance->ace,isSubtype_stop->acf,DictEntry->sT,wpAny_letOwnedTupleGo_enum->acq,wpAny_pyIter_enum->FR,IsZip->jb,IsPair->fX,wpAny_letOwnedTupleGo_zip->acx,wpAny_pyIter_zip->FW,strValues->NG,field->tj,wpAny_seqItems->tp,wpAny_rule->Gb,Draws->qC,wpAny_pyIter_tuple->Gc,wpAny_setField_rec->yn,wpAny_onRaise->Ge,wpAny_updateSeq_pair->NW,wpAny_letGo->NY,pairTrees->Bj,callerA->yu
open PySem.Around renaming under->LS
open PySem.AutoListH renaming list___mul___list_int_3->api
open PySem.Builtin renaming bitAnd->oC
open PySem.Builtin.Dict renaming dictSlotNone->aps,showsAll->ab0
open PySem.Builtin.Dict_items renaming ownsTuple->ab5
open PySem.Builtin.List renaming listTooLong->xV
open PySem.Builtin.Range renaming rangeSize->Es,small->abM
open PySem.Builtin.Slice renaming sliceAdjust->Md,slicePlaces->ER,slicePartIndex->ao2,sliceApplied->ZV,sliceFields->ao3
open PySem.Builtin.SmallTypes renaming nextOf->tf,ownedTupleIsFree->Gd,ownedTupleHandOut->adb
open PySem.Builtin.Str renaming strKind->qA,partsBetween->acM,occurrences->NH
open PySem.Builtin.Tuple renaming tupleItemsOf->Z1,tupleExact->ET,tupleIsExact->apA
open PySem.Calls renaming Name_function_global->Yq,spliced_nil->ZC,spliced_cons->ZD,callWith_builtin->Mu,evalArgs_plain->aas
open PySem.Code renaming frames->Zy,isFrame->LU
open PySem.Data renaming seq->Gh,dict->adX
open PySem.DictEntry renaming refKey->aoV
open PySem.Draws renaming list->ado
open PySem.F renaming slot_list_extend->aav,entry_list_extend->aaw,args_list_extend_2->aax,slot_int_rmul->aaC,slot_dict_iter->abZ,slot_dict_keyiterator_next->yh,entry_dict_keyiterator_next->ab2,args_dict_keyiterator_next_1->ab3,slot_dict_keyiterator_iter->acm,slot_str_split->F6,entry_str_split->NI,args_str_split_2->NJ,plainAttrs_str->acU,slot_tuple_iterator_next->Ga,entry_tuple_iterator_next->acZ,args_tuple_iterator_next_1->ac0,slot_zip_next->Gf,entry_zip_next->adg,args_zip_next_1->adh
open PySem.Heap renaming lt_size->cN,SameBut->xx,get?_push_of_some->dW,get?_push_size->eP,size_push->g_,get?_update_self->Mq,get?_update_other->aaf,ExtBut->aca,IsTuple->ac3
open PySem.Heap.DictOf renaming new->apr
open PySem.Heap.IsList renaming push->apx
open PySem.Heap.IsSliceOf renaming new->ao4
open PySem.Heap.SameBut renaming update->FL
open PySem.IsRange renaming new->Y2
open PySem.NameKind renaming free->xZ,cell->MG
open PySem.NumText renaming AllDigits->aiv
open PySem.Obj renaming mapSeq->xT,mapFields->ab8,isFreed_of_fields->ab9,data_mapFields->FK,cls_mapFields->ab_
open PySem.PassesOwn renaming never->d8
open PySem.SeqAt renaming EqAt->aam
open PySem.SeqAt.EqAt renaming int_str->X4,str_int->X5,same->ao5,none_bool->ao6,none_int->ao7,none_str->ao8,bool_none->ao9,bool_bool->ao_,bool_int->apa,bool_str->apb,int_none->apc,int_bool->apd,int_int->ape,str_none->apf,str_bool->apg,str_str->aph
open PySem.Shared renaming heap->NR
open PySem.Str renaming ofString->aZ,length->aac,join->NE
open PySem.Unicode renaming isAlnum->ail,isAlpha->Sl,isDigit->aio
open PySem.Value renaming isInt->XS,isStrOf->XT,bytes->X8,float->X9,ref->dF,type->rS
open PySem.Value.type renaming inj->adQ
open PySem.Walks renaming range->YX
open PyVbexab renaming answers_asked->R8,answers->Iy,shape->Aq,whole->D4
open Sum renaming inl->bL,inr->dq
open Sum.inl renaming inj->K7
open Sum.inr renaming inj->K8
open Vbexab renaming bare->fR,wordsOf->kT,letter->kd,digit->ke,text->aw,KEYS->ait,isName->nT,number->cB,joined->iR,lined->jM,Leg->cK,Cache->aiE,Land->aJ,legTo->d9,placeOf->bW,cacheOf->fE,free->nV,addLeg->lU,landLine->gH,has->jh,cacheAt->mQ,members->qX,worth->kW,total->Tn,blank->To,linesOf->wJ,lines->jN,takes->fY,CACHES->aji,takings->gI,At->ee,loaded->dS,extras->a_,Need->wL,look->cq,table->a8,legsFrom->Jt,safeAt->ku,Cond->jR,holds->Dj,Rule->k9,Plan->iE,setOf->rp,dec->pJ,placeName->pK,landForm->zN,readLand->zQ,cond->ek,takeList->rz,conds->rA,planLine->akx,readPlan->J0,RULES->akP,condWords->uB,ruleWords->J5,cacheName->Dx,planForm->J6,applies->uC,Seen->mV,same->ak_,after_->ala,check->Kd,addSeen->lu,checked->rE,listed->mX,follow->iV,before->alU,legNeed->uG,routeNeed->Af,Journey->ly,St->cM,Call->gN,there->Ks,ranged->Kt,act->cv,needRow->rK,inR->me,placeIn->WQ,setIn->WR,stormsIn->amg,foodIn->amh,better->DO,times->WT,Row->WU,ofParty->DP,ofLand->kG,pairs->amn,ofJourney->uL,safeLeg->amy,choices->amA,resist->DR,atRow->jw,textIn->Xj,step->gv,cut->Ap
open Vbexab.Call renaming land->aqA,plan->aqB,follow->aqC,route->aqD
open Vbexab.Land renaming bad->aqc
open VbexabNeutral renaming row->aqz,asked1->aou,step->XM,asked->aqE
noncomputable section
set_option tactic.hygienic false
local macro_rules| `(def $i:declId $s:optDeclSig $v:declVal)=> `(noncomputable def $i:declId $s:optDeclSig $v:declVal)
namespace L2
open PySem PySem.Spec PyProof.Rows
abbrev Key:=Sum Int Str
def oo:Key→aA→Bool
 | .inl k,v=>XS k v
 | .inr x,v=>XT x v
def K6(w:cD):Key→Int
 | .inl k=>hashInt k
 | .inr x=>hashStr w x
theorem mZ:∀{k}{v},oo k v=true→(∃i t,k=bL i∧v=Value.int i t)∨(∃x t,k=dq x∧v=Value.str x t)
 | .inl i,v,h=>by
  obtain⟨t,e⟩:=Value.isInt_shape (k:=i) (v:=v) h;exact .inl ⟨i,t,rfl,e⟩
 | .inr x,v,h=>by
  obtain⟨t,e⟩:=Value.isStrOf_shape (x:=x) (v:=v) h;exact .inr ⟨x,t,rfl,e⟩
theorem XU i t:oo (.inl i) (.int i t)=true:=by simp[oo,XS]
theorem XW x t:oo (.inr x) (.str x t)=true:=by simp[oo,XT]
theorem XX a b:decide ((bL a:Key)=bL b)=(a==b):=by
 by_cases e:a=b
 ·subst e;simp
 ·have h:¬(bL a:Key)=bL b:=fun q=>e (K7 q);rw[decide_eq_false h];exact(beq_eq_false_iff_ne.mpr e).symm
theorem XY a b:decide ((dq a:Key)=dq b)=decide (a=b):=by
 by_cases e:a=b
 ·subst e;simp
 ·have h:¬(dq a:Key)=dq b:=fun q=>e (K8 q);rw[decide_eq_false h,decide_eq_false e]
theorem XZ a b:decide ((bL a:Key)=dq b)=false:=decide_eq_false (fun q=>nomatch q)
theorem X0 a b:decide ((dq a:Key)=bL b)=false:=decide_eq_false (fun q=>nomatch q)
def g7(prog:cQ)(w:cD):PySem.KeyKind prog w Key where
 is:=oo
 hash:=K6 w
 inj:=fun v a b ha hb=>by
  rcases mZ ha with⟨i,t,rfl,rfl⟩|⟨x,t,rfl,rfl⟩
  ·rcases mZ hb with⟨j,u,rfl,e⟩|⟨y,u,rfl,e⟩
   ·injection e with e1 _;rw[e1]
   ·exact nomatch e
  ·rcases mZ hb with⟨j,u,rfl,e⟩|⟨y,u,rfl,e⟩
   ·exact nomatch e
   ·injection e with e1 _;rw[e1]
 byValue:=fun k v h=>by
  rcases mZ h with⟨i,t,rfl,rfl⟩|⟨x,t,rfl,rfl⟩<;>rfl
 pyHash:=fun hv h=>by
  rcases mZ hv with⟨i,t,rfl,rfl⟩|⟨x,t,rfl,rfl⟩
  ·exact wpAny_pyHash_int h
  ·exact wpAny_pyHash_str h
 eqBool:=fun hu hv h=>by
  rcases mZ hu with⟨i,t,rfl,rfl⟩|⟨x,t,rfl,rfl⟩
  ·rcases mZ hv with⟨j,u,rfl,rfl⟩|⟨y,u,rfl,rfl⟩
   ·rw[XX]at h;exact wpAny_eqBool_int h
   ·rw[XZ]at h;exact X4 i t y u _ _ _ _ h
  ·rcases mZ hv with⟨j,u,rfl,rfl⟩|⟨y,u,rfl,rfl⟩
   ·rw[X0]at h;exact X5 x t j u _ _ _ _ h
   ·rw[XY]at h;exact wpAny_eqBool_str h
 «strs»:=fun k x t v h=>by
  rcases mZ h with⟨i,u,rfl,e⟩|⟨y,u,rfl,e⟩
  ·exact nomatch e
  ·injection e with e1 _;subst e1;cases v <;>rfl
theorem X6 prog w i t:(g7 prog w).is (.inl i) (.int i t)=true:=XU i t
theorem X7 prog w x t:(g7 prog w).is (.inr x) (.str x t)=true:=XW x t
inductive V where
 |aC|bl (b:Bool)|int (i:Int)|str (x:Str)|iY (b:Array UInt8)|As (b:UInt64)|ref (a:ae)|ty (n:String)
 deriving DecidableEq
def RelV:V→aA→Prop
 | .aC,u=>u=Value.none
 | .bl b,u=>u=Value.bool b
 | .int i,u=>∃t,u=Value.int i t
 | .str x,u=>∃t,u=Value.str x t
 | .iY b,u=>∃t,u=X8 b t
 | .As b,u=>∃t,u=X9 b t
 | .ref a,u=>u=dF a
 | .ty n,u=>u=rS n
abbrev a7:List V→List aA→Prop:=Paired RelV
theorem a7.length(r:a7 xs us):xs.length=us.length:=Paired.length r
theorem a7.get:∀{xs}{us}{i:Nat}{x},a7 xs us→xs[i]?=some x→∃u,us[i]?=some u∧RelV x u
 |_,_,_,_,.nil,e=>by simp at e
 |_,_,0,_,.cons r _,e=>by simp at e;subst e;exact⟨_,rfl,r⟩
 |_,_,i+1,x,.cons _ t,e=>by
  obtain⟨u,h1,h2⟩:=a7.get (i:=i) (x:=x) t (by simpa using e);exact⟨u,by simpa using h1,h2⟩
theorem a7.set(r:RelV x u):∀{xs}{us}i,a7 xs us→a7 (xs.set i x) (us.set i u)
 |_,_,_,.nil=>.nil
 |_,_,0,.cons _ t=>.cons r t
 |_,_,i+1,.cons q t=>.cons q (a7.set r i t)
theorem a7.append:∀{xs ys}{us ws},a7 xs us→a7 ys ws→a7 (xs++ys) (us++ws)
 |_,_,_,_,.nil,s=>s
 |_,_,_,_,.cons r t,s=>.cons r (a7.append t s)
theorem a7.take:∀{xs}{us}n,a7 xs us→a7 (xs.take n) (us.take n)
 |_,_,0,_=>.nil
 |_,_,_+1,.nil=>.nil
 |_,_,n+1,.cons r t=>.cons r (a7.take n t)
theorem a7.drop:∀{xs}{us}n,a7 xs us→a7 (xs.drop n) (us.drop n)
 |_,_,0,r=>r
 |_,_,_+1,.nil=>.nil
 |_,_,n+1,.cons _ t=>a7.drop n t
def iH:Option V→Option aA→Prop
 |some v,some u=>RelV v u
 |none,none=>True
 |_,_=>False
def KV{κ:Type}:List (κ×V)→List (κ×aA)→Prop:=Paired fun p q=>p.1=q.1∧RelV p.2 q.2
def kV:Key→V
 | .inl i=>.int i
 | .inr x=>.str x
inductive HO where
 |lst (xs:List V)
 |tup (xs:List V)
 |dK (aq:List (Key×V))|dT (aq:List (List Key×V))
 |set (S:Int→Bool) (n:Nat)
 |ins (C dx:ae) (fs:List (Str×V))
 |own (x:ae)
 |xd (fs:List (Str×V))
 |met (f x:ae)
 |g8 (lo hi:Int)
 |bE (o:Obj) (u:HO)
 |rT (ps:Array aA)
 |ext (φ:bU→Prop)
abbrev Hp:=ae→Option HO
def upd(H:Hp)(a:ae)(o:HO):Hp:=fun b=>if b=a then some o else H b
theorem ah:upd H a o a=some o:=by unfold upd;rw[if_pos rfl]
theorem ao(h:b≠a):upd H a o b=H b:=by unfold upd;rw[if_neg h]
theorem D7:upd (upd H a o) a u=upd H a u:=by
 funext b;unfold upd;split <;>rfl
theorem cE{H:Hp}(h:H a=some o)(h':H b=some u)(d:o≠u):a≠b:=by
 intro e;subst e;rw[h]at h';exact d (bS h')
theorem cy{H:Hp}(h:H a=some o)(h':H b=none):a≠b:=by
 intro e;subst e;rw[h]at h';cases h'
section
variable (P:cQ)(w:cD)
def eN(H:Hp)(h:bU)(a:ae):HO→Prop
 | .lst xs=>xs.length≤bf∧∃(au:List aA) (n:Nat),a7 xs au∧h.get? a=some {cls:=.type "list",data:=.seq au.toArray n}
 | .tup xs=>xs.length≤bf∧∃au:List aA,a7 xs au∧IsTup h a au.toArray
 | .dK aq=>aq.length≤bf∧(a==jx)=false∧∃vs,KV aq vs∧h.DictOf (g7 P w) a vs
 | .dT aq=>aq.length≤bf∧(a==jx)=false∧∃xs:List (List Key×ae×aA),
   Paired (fun(p:List Key×V) (q:List Key×ae×aA)=>p.1=q.1∧H q.2.1=some (.tup (p.1.map kV))∧RelV p.2 q.2.2) aq xs∧
   ∃o es ep,h.get? a=some o∧o.ExactDict∧o.data=.dict es ep∧es.toList=xs.map (entryOfKey (uR (g7 P w)))∧(xs.map (·.1)).Nodup
 | .set S n=>h.SetOf (intKind P w) a S n
 | .ins C dx fs=>H dx=some (.own a)∧fs.length≤1000∧dx≠a∧h.get? a=some (PySem.W.instObj C dx)∧
   ∃mA,h.Ns1 dx mA∧(∀f,iH (fs.lookup f) (mA f))∧PySem.Within mA (fs.map (·.1))
 | .own _=>∃o,h.get? a=some o
 | .xd fs=>∃mA,h.Ns1 a mA∧∀f,iH (fs.lookup f) (mA f)
 | .g8 lo hi=>∃t u v,h.get? a=some {cls:=.type "range",data:=.fields #[.int lo t,.int hi u,.int 1 v]}
 | .bE o u=>h.get? a=some o∧eN H h a u
 | .rT ps=>h.get? a=some {cls:=.none,data:=.fields ps}
 | .met f x=>h.get? a=some (PySem.W.methodObj (.ref f) (.ref x))
 | .ext φ=>φ h∧(∃o,h.get? a=some o)∧∀h1 h2:bU,φ h1→(∀o,h1.get? a=some o→h2.get? a=some o)→φ h2
def dr(H:Hp)(h:bU):Prop:=∀a o,H a=some o→eN P w H h a o
end
section
variable {P:cQ}{w:cD}{H H':Hp}{h h':bU}{a:ae}{o:HO}
theorem eN.lt(x:eN P w H h a o):a<h.objs.size:=by
 cases o with
 |lst xs=>obtain⟨_,_,_,_,e⟩:=x;exact cN e
 |tup xs=>obtain⟨_,_,_,p⟩:=x;exact p.lt
 |dK aq=>obtain⟨_,_,_,_,o,_,_,e,_⟩:=x;exact cN e
 |dT aq=>obtain⟨_,_,_,_,o,_,_,e,_⟩:=x;exact cN e
 |set S n=>obtain⟨o,_,_,_,e,_⟩:=x;exact cN e
 |ins C dx fs=>obtain⟨_,_,_,e,_⟩:=x;exact cN e
 |own y=>obtain⟨_,e⟩:=x;exact cN e
 |xd fs=>obtain⟨_,⟨_,_,_,e,_⟩,_⟩:=x;exact cN e
 |g8 lo hi=>obtain⟨_,_,_,e⟩:=x;exact cN e
 |bE ob u=>obtain⟨e,_⟩:=x;exact cN e
 |rT ps=>exact cN (show h.get? a=some _ from x)
 |met f y=>exact cN (show h.get? a=some _ from x)
 |ext φ=>obtain⟨_,⟨_,e⟩,_⟩:=x;exact cN e
theorem Paired.D8{α β:Type}{F G:α→β→Prop}:∀{l₁}{l₂},Paired F l₁ l₂→(∀a b,F a b→G a b)→Paired G l₁ l₂
 |_,_,.nil,_=>.nil
 |_,_,.cons r t,f=>.cons (f _ _ r) (Paired.D8 t f)
theorem eN.kI(x:eN P w H h a o)(k:∀b u,(b=a∨H b=some (.own a))→h.get? b=some u→h'.get? b=some u)
  (ho:∀b,H b=some (.own a)→H' b=some (.own a)) (ht:∀b xs,H b=some (.tup xs)→H' b=some (.tup xs)):eN P w H' h' a o:=by
 induction o with
 |lst xs=>obtain⟨z,au,n,r,e⟩:=x;exact⟨z,au,n,r,k _ _ (.inl rfl) e⟩
 |tup xs=>obtain⟨z,au,r,ob,e,c⟩:=x;exact⟨z,au,r,ob,k _ _ (.inl rfl) e,c⟩
 |dK aq=>obtain⟨z,y,vs,r,ob,es,ep,e,c⟩:=x;exact⟨z,y,vs,r,ob,es,ep,k _ _ (.inl rfl) e,c⟩
 |dT aq=>
  obtain⟨z,y,xs,r,ob,es,ep,e,c⟩:=x;exact⟨z,y,xs,Paired.D8 r fun p q z=>⟨z.1,ht _ _ z.2.1,z.2.2⟩,ob,es,ep,k _ _ (.inl rfl) e,c⟩
 |set S n=>obtain⟨ob,es,ep,t,e,c⟩:=x;exact⟨ob,es,ep,t,k _ _ (.inl rfl) e,c⟩
 |ins C dx fs=>
  obtain⟨d,z,ne,e,mA,⟨od,es,ep,e2,c⟩,r⟩:=x;exact⟨ho _ d,z,ne,k _ _ (.inl rfl) e,mA,⟨od,es,ep,k _ _ (.inr d) e2,c⟩,r⟩
 |own y=>obtain⟨ob,e⟩:=x;exact⟨ob,k _ _ (.inl rfl) e⟩
 |xd fs=>obtain⟨mA,⟨od,es,ep,e,c⟩,r⟩:=x;exact⟨mA,⟨od,es,ep,k _ _ (.inl rfl) e,c⟩,r⟩
 |g8 lo hi=>obtain⟨t,u,v,e⟩:=x;exact⟨t,u,v,k _ _ (.inl rfl) e⟩
 |bE ob u ih=>obtain⟨e,q⟩:=x;exact⟨k _ _ (.inl rfl) e,ih q⟩
 |rT ps=>
  have e:h.get? a=some {cls:=.none,data:=.fields ps}:=x;show h'.get? a=some {cls:=.none,data:=.fields ps};exact k a _ (.inl rfl) e
 |met f y=>
  have e:h.get? a=some (PySem.W.methodObj (.ref f) (.ref y)):=x;show h'.get? a=some (PySem.W.methodObj (.ref f) (.ref y));exact k a _ (.inl rfl) e
 |ext φ=>obtain⟨p,⟨o,e⟩,st⟩:=x;exact⟨st _ _ p fun o q=>k _ _ (.inl rfl) q,⟨o,k _ _ (.inl rfl) e⟩,st⟩
theorem dr.lt(x:dr P w H h)(e:H a=some o):a<h.objs.size:=(x a o e).lt
theorem dr.fresh(x:dr P w H h)(e:h.objs.size≤a):H a=none:=by
 cases q:H a with
 |none=>rfl
 |some u=>exact absurd (dG (x.lt q) e) (m3 _)
theorem dr.kept(x:dr P w H h)(k:∀b u,h.get? b=some u→h'.get? b=some u):dr P w H h':=fun a o e=>
 (x a o e).kI (fun b u _ q=>k b u q) (fun _ q=>q) fun _ _ q=>q
theorem dr.laid(x:dr P w H h)(k:∀b u,h.get? b=some u→h'.get? b=some u)(hp:h.objs.size≤a)(new:eN P w (upd H a o) h' a o):dr P w (upd H a o) h':=fun b u e=>by
 have hn:=x.fresh hp;by_cases hb:b=a
 ·subst hb;rw[ah]at e;cases e;exact new
 ·rw[ao hb]at e;exact(x b u e).kI (fun c v _ q=>k c v q) (fun c q=>by rw[ao (cy q hn)];exact q) fun c xs q=>by rw[ao (cy q hn)];exact q
end
def Rd(H:Hp)(a:ae)(u:HO):Prop:=H a=some u∨∃o,H a=some (.bE o u)
theorem Rd.ok(r:Rd H a u)(x:dr P w H h):eN P w H h a u:=by
 rcases r with r|⟨o,r⟩
 ·exact x a u r
 ·obtain⟨_,q⟩:=x a _ r;exact q
def oq:Option HO→Prop
 |some (.lst _)=>True
 |some (.dK _)=>True
 |some (.dT _)=>True
 |some (.set _ _)=>True
 |some (.ins _ _ _)=>True
 |some (.ext _)=>True
 |_=>False
section
variable {P:cQ}{w:cD}{H:Hp}{h h':bU}{x e:ae}{o':HO}
theorem dr.write(ok:dr P w H h)(mu:oq (H x))(he:e=x∨H e=some (.own x))(k:∀b u,b≠e→h.get? b=some u→h'.get? b=some u)(uS:∃u,h'.get? e=some u)
  (new:eN P w (upd H x o') h' x o'):dr P w (upd H x o') h':=fun b u q=>by
 have K9:∀c y,H c=some (.own y)→c≠x:=fun c y r z=>by subst z;rw[r]at mu;exact mu
 have X_:∀c xs,H c=some (.tup xs)→c≠x:=fun c xs r z=>by subst z;rw[r]at mu;exact mu
 by_cases hb:b=x
 ·subst hb;rw[ah]at q;cases q;exact new
 ·rw[ao hb]at q;by_cases rV:b=e
  ·have q':H b=some (.own x):=by
    rcases he with z|z
    ·exact absurd (rV.trans z) hb
    ·rw[rV];exact z
   rw[q]at q';cases q';obtain⟨v,hv⟩:=uS;exact⟨v,by rw[rV];exact hv⟩
  ·refine(ok b u q).kI (fun c v hc r=>k c v ?_ r) (fun c r=>by rw[ao (K9 c b r)];exact r) fun c xs r=>by rw[ao (X_ c xs r)];exact r
   rcases hc with rfl|hc
   ·exact rV
   ·rintro rfl;rcases he with z|z
    ·exact K9 c b hc z
    ·rw[hc]at z;cases z;exact hb rfl
end
structure Un(fs ex:List ae)(H H':Hp)(h h':bU):Prop where
 keep:∀b o,h.get? b=some o→H b=none→b∉fs→b∉ex→h'.get? b=some o
 slot:∀b o,h.get? b=some o→H b=none→b∈fs→b∉ex→∃sl,h'.get? b=some {o with slots:=sl}
 free:∀b o,h.get? b=some o→H b=none→b∉ex→H' b=none
 there:∀b o,h.get? b=some o→b∉ex→∃o',h'.get? b=some o'
 ou:∀b xs,H b=some (.tup xs)→H' b=some (.tup xs)
 mi:∀b o u,H b=some (.bE o u)→H' b=some (.bE o u)
 ow:∀b ps,H b=some (.rT ps)→∃more,H' b=some (.rT (ps++more))
section
variable {fs xo ex ex':List ae}{H H1 H2:Hp}{h h1 h2 h':bU}{a x e:ae}{o:HO}
theorem Un.any(u:Un fs ex H H1 h h1)(q:h.get? b=some ob)(n:H b=none)(hx:b∉ex):∃sl,h1.get? b=some {ob with slots:=sl}:=by
 by_cases hb:b∈fs
 ·exact u.slot b ob q n hb hx
 ·exact⟨ob.slots,u.keep b ob q n hb hx⟩
theorem Un.kept(k:∀b u,h.get? b=some u→h'.get? b=some u):Un fs ex H H h h':=
 ⟨fun b ob q _ _ _=>k b ob q,fun b ob q _ _ _=>⟨ob.slots,k b ob q⟩,fun _ _ _ n _=>n,fun b ob q _=>⟨ob,k b ob q⟩,fun _ _ q=>q,fun _ _ _ q=>q,fun _ ps q=>⟨#[],by rw[q];simp⟩⟩
theorem Un.refl:Un fs ex H H h h:=Un.kept fun _ _ q=>q
theorem Un.laid(k:∀b u,h.get? b=some u→h'.get? b=some u)(hp:h.objs.size≤a)(hn:H a=none):Un fs ex H (upd H a o) h h' where
 keep:=fun b u q _ _ _=>k b u q
 slot:=fun b u q _ _ _=>⟨u.slots,k b u q⟩
 free:=fun b u q n _=>by rw[ao (fU (dG (cN q) hp))];exact n
 there:=fun b u q _=>⟨u,k b u q⟩
 ou:=fun b xs q=>by rw[ao (cy q hn)];exact q
 mi:=fun b u xs q=>by rw[ao (cy q hn)];exact q
 ow:=fun b ps q=>⟨#[],by rw[ao (cy q hn),q];simp⟩
theorem Un.write(mu:oq (H x))(he:e=x∨H e=some (.own x))(k:∀b u,b≠e→h.get? b=some u→h'.get? b=some u)(uS:∃u,h'.get? e=some u):Un fs ex H (upd H x o) h h':=by
 have hx:∀b,H b=none→b≠x:=fun b n z=>by subst z;rw[n]at mu;exact mu
 have hb:∀b,H b=none→b≠e:=fun b n z=>by
  subst z;rcases he with r|r
  ·exact hx b n r
  ·rw[n]at r;cases r
 have hm:∀b u,H b=some u→¬oq (some u)→b≠x:=fun b u q nm z=>by subst z;rw[q]at mu;exact nm mu
 refine⟨fun b u q n _ _=>k b u (hb b n) q,fun b u q n _ _=>⟨u.slots,k b u (hb b n) q⟩,fun b u q n _=>by rw[ao (hx b n)];exact n,fun b u q _=>?_,
  fun b xs q=>by rw[ao (hm b _ q fun z=>z)];exact q,fun b u xs q=>by rw[ao (hm b _ q fun z=>z)];exact q,fun b ps q=>⟨#[],by rw[ao (hm b _ q fun z=>z),q];simp⟩⟩
 by_cases rV:b=e
 ·subst rV;exact uS
 ·exact⟨u,k b u rV q⟩
end
def Au(h:bU)(H:Hp):List ae:=(bP h.objs.size).filter fun a=>(H a).isSome
def ox(h:bU)(H:Hp):bU:=PySem.W.hideAll h (Au h H)
theorem Ya h H:(ox h H).objs.size=h.objs.size:=PySem.W.hideAll_size _ _
theorem Yb(e:h.get? b=some o)(n:H b=none):(ox h H).get? b=some o:=
 PySem.W.hideAll_get _ e fun hm=>by
  have q:(H b).isSome=true:=(rW.mp hm).2;rw[n]at q;simp at q
theorem Yc(e:(ox h H).get? b=some o):h.get? b=some o∧H b=none:=by
 have e':h.get? b=some o:=PySem.W.of_hideAll (Au h H) e;refine⟨e',?_⟩;cases q:H b with
 |none=>rfl
 |some x=>
  have hm:b∈Au h H:=rW.mpr ⟨ip.mpr (cN e'),by simp[q]⟩;have z:(ox h H).get? b=none:=PySem.W.hideAll_none (Au h H) hm;rw[z]at e;cases e
structure Mod(K:PySem.W.Frag)(mg:Str→Option aA)(base:bU):Prop where
 uT:K.In base
 glob:base.Ns jT mg
 blt:∃mb,base.Ns K_ mb∧∀x:Str,x≠"__name__"→mb x=uU x
 nolimit:base.NoLimit
structure Cx where
 prog:cQ
 w:cD
 K:PySem.W.Frag
 mg:Str→Option aA
 base:bU
 A:eB
 N:List Str
 s_0:aS
 H_0:Hp
 env:Env
 outer:List Env
 stack:List Env
 ex:List ae
 fn:Str→Bool
 calm:Bool
 pn:List (ae×Obj)
 xe:aA→aS→Prop
def mj(l:List Env):List ae:=l.filterMap (·.frame)
abbrev Cx.fs(X:Cx):List ae:=mj X.outer
def p5(sc:iI)(x:Str):Prop:=sc.names.lookup x=some .local∨sc.names.lookup x=some .cell∨sc.names.lookup x=some .free
def Loc(sc:iI)(x:Str):Prop:=sc.names.lookup x=some .local∨sc.names.lookup x=some .cell
def Look(env:Env)(h:bU)(m:Str→Option aA)(x:Str)(u:aA):Prop:=
 (env.kindOf x=some .local∧m x=some u)∨((env.kindOf x=some .cell∨env.kindOf x=some .free)∧∃c,env.cells.lookup x=some c∧h.IsCell c (some u))
structure Cx.Ok(X:Cx):Prop where
 mod:Mod X.K X.mg X.base
 kind:X.env.scope.kind=.function
 glob:X.env.globals=jT
 blt:X.env.builtins=K_
 above:X.s_0.heap.objs.size≤X.env.locals
 inj:∀x y c,X.env.cells.lookup x=some c→X.env.cells.lookup y=some c→x=y
 has:∀x,(X.env.kindOf x=some .cell∨X.env.kindOf x=some .free)→∃c,X.env.cells.lookup x=some c
 xp:∀x c,X.fn x=true→X.env.cells.lookup x=some c→X.s_0.heap.objs.size≤c
 hd:X.calm=true→X.A.handled=none
 frames:X.A.frames=some X.stack
 Av:X.stack=X.outer∨(X.stack=X.env::X.outer∧X.env.frame=some X.env.locals)
 Aw:∀b∈X.ex,b≠X.env.locals∧∀x c,X.env.cells.lookup x=some c→c≠b
 bs:∀b o,X.base.get? b=some o→X.s_0.heap.get? b=some o∧X.H_0 b=none
 m4:X.base.objs.size≤X.s_0.heap.objs.size
 xq:∀b o,X.base.get? b=some o→b∉X.ex
 xr:∀b∈X.ex,b∉X.fs
 lC:X.s_0.heap.FunFrames X.base X.outer
 rX:∀b∈X.fs,X.H_0 b=none
structure Inv(X:Cx)(pins:List (ae×Obj))(σ:List (Option V))(H:Hp)(s:aS):Prop where
 ok:X.Ok
 os:s.os=X.s_0.os
 bare:uV s.gens
 base:Un X.fs X.ex X.H_0 H X.s_0.heap s.heap
 loc:∃m,s.heap.Ns X.env.locals m∧∀(i:Nat) (x:Str) (v:V),X.N[i]?=some x→σ[i]?=some (some v)→p5 X.env.scope x→∃u,RelV v u∧Look X.env s.heap m x u
 cell:∀x c,X.env.cells.lookup x=some c→∃v,s.heap.IsCell c v
 free:H X.env.locals=none
 kJ:∀x c,X.env.cells.lookup x=some c→H c=none
 pin:∀p∈X.pn++pins,s.heap.get? p.1=some p.2∧H p.1=none∧p.1≠X.env.locals∧p.1∉X.fs∧∀v,p.2.data≠.cell v
 aU:dr X.prog X.w H s.heap
 len:σ.length=X.N.length
section
variable {X:Cx}{pins:List (ae×Obj)}{σ:List (Option V)}{H H':Hp}{s:aS}{h':bU}
theorem Cx.Ok.Yd(ok:X.Ok)(e:X.base.get? b=some o):b∉X.fs:=fun hb=>by
 have:=(ok.lC.mem hb).1;rw[e]at this;cases this
theorem Inv.bs(I:Inv X pins σ H s):∀b o,X.base.get? b=some o→s.heap.get? b=some o∧H b=none:=fun b o e=>
 ⟨I.base.keep b o (I.ok.bs b o e).1 (I.ok.bs b o e).2 (I.ok.Yd e) (I.ok.xq b o e),I.base.free b o (I.ok.bs b o e).1 (I.ok.bs b o e).2 (I.ok.xq b o e)⟩
theorem Inv.bk(I:Inv X pins σ H s):∀b o,X.base.get? b=some o→s.heap.get? b=some o:=fun b o e=>(I.bs b o e).1
theorem Inv.mod(I:Inv X pins σ H s):Mod X.K X.mg X.base:=I.ok.mod
theorem Inv.iq(I:Inv X pins σ H s):X.K.In s.heap:=I.ok.mod.uT.keeps I.bk
theorem Inv.fr(I:Inv X pins σ H s):∃m,Fr X.base X.env.locals s.heap m:=
 let ⟨m,hn,_⟩:=I.loc
 ⟨m,hn,I.bk,dU I.ok.m4 I.ok.above⟩
theorem Inv.lt(I:Inv X pins σ H s):X.env.locals<s.heap.objs.size:=let ⟨_,hn,_⟩:=I.loc;hn.lt
theorem Inv.sz(I:Inv X pins σ H s):X.s_0.heap.objs.size≤s.heap.objs.size:=dU I.ok.above (D9 I.lt)
theorem Inv.Ye(I:Inv X pins σ H s){a:ae}(h:s.heap.objs.size≤a):a∉X.fs:=fun hb=>by
 obtain⟨_,o,ho,_⟩:=I.ok.lC.mem hb;exact absurd (dG (cN ho) (dU I.sz h)) (m3 _)
theorem Inv.rY(I:Inv X pins σ H s):∀x c,X.env.cells.lookup x=some c→c≠X.env.locals:=fun x c e z=>by
 obtain⟨v,o,ho,hd⟩:=I.cell x c e;obtain⟨m,⟨o',es,ep,jU,D_,_⟩,_⟩:=I.loc;rw[z,jU]at ho;cases ho;rw[D_]at hd;cases hd
theorem Inv.lC(I:Inv X pins σ H s):s.heap.FunFrames X.base X.outer:=by
 have all:∀(l:List Env),(∀b∈mj l,b∈X.fs)→X.s_0.heap.FunFrames X.base l→s.heap.FunFrames X.base l:=by
  intro l;induction l with
  |nil=>intro _ _;trivial
  |cons env r ih=>
   intro hs hl;obtain⟨hk,⟨L,o,hf,hn,ho,hd⟩,hr⟩:=hl;have hL:L∈X.fs:=hs L (by unfold mj;rw[Ea,hf];exact cI);obtain⟨sl,e⟩:=I.base.slot L o ho (I.ok.rX L hL) hL fun z=>I.ok.xr L z hL;exact⟨hk,⟨L,_,hf,hn,e,hd⟩,ih (fun b hb=>hs b (by unfold mj;rw[Ea,hf];exact c_ _ hb)) hr⟩
 exact all X.outer (fun _ hb=>hb) I.ok.lC
theorem Inv.stack(I:Inv X pins σ H s):s.heap.FunFrames X.base X.stack:=by
 rcases I.ok.Av with e|⟨e,hf⟩
 ·rw[e];exact I.lC
 ·rw[e];obtain⟨m,hn,_⟩:=I.loc;refine .cons (by rw[I.ok.kind];decide) hf hn ?_ I.lC;exact Heap.get?_none_of_le (dU I.ok.m4 I.ok.above)
theorem Inv.Eb(I:Inv X pins σ H s):∀b∈mj X.stack,b∈X.env.locals::X.fs:=fun b hb=>by
 rcases I.ok.Av with e|⟨e,hf⟩
 ·rw[e]at hb;exact c_ _ hb
 ·rw[e]at hb;unfold mj at hb;rw[Ea,hf]at hb;exact hb
theorem Inv.La(I:Inv X pins σ H s):∀b∈mj X.stack,H b=none:=fun b hb=>by
 rcases b_.mp (I.Eb b hb)with e|hb
 ·rw[e];exact I.free
 ·obtain⟨_,o,ho,_⟩:=I.ok.lC.mem hb;exact I.base.free b o ho (I.ok.rX b hb) fun z=>I.ok.xr b z hb
theorem Inv.step{ch:List ae}(I:Inv X pins σ H s)
  (m5:∀b∈ch,(b∈X.ex∨X.s_0.heap.objs.size≤b)∧b≠X.env.locals∧(∀x c,X.env.cells.lookup x=some c→c≠b)∧∀p∈X.pn++pins,p.1≠b)
  (keep:∀b o,b≠X.env.locals→b∉X.fs→b∉ch→s.heap.get? b=some o→H b=none→h'.get? b=some o)
  (slot:∀b o,b≠X.env.locals→b∈X.fs→b∉ch→s.heap.get? b=some o→H b=none→∃sl,h'.get? b=some {o with slots:=sl}) (free:∀b o,b∉ch→s.heap.get? b=some o→H b=none→H' b=none)
  (there:∀b o,b∉ch→s.heap.get? b=some o→∃o',h'.get? b=some o')
  (ou:∀b xs,H b=some (.tup xs)→H' b=some (.tup xs)) (mi:∀b o u,H b=some (.bE o u)→H' b=some (.bE o u)) (ow:∀b ps,H b=some (.rT ps)→∃more,H' b=some (.rT (ps++more)))
  (ns:∀m,s.heap.Ns X.env.locals m→h'.Ns X.env.locals m) (aU:dr X.prog X.w H' h') (hg:uV g'):
  Inv X pins σ H' {s with heap:=h',gens:=g',drawn:=d',toks:=t'}:=by
 have Lb:∀b o,X.s_0.heap.get? b=some o→b≠X.env.locals:=fun b o e=>fU (dG (cN e) I.ok.above);have Ax:∀b o,X.s_0.heap.get? b=some o→b∉X.ex→b∉ch:=fun b o e hx hb=>by
  rcases(m5 b hb).1 with z|z
  ·exact hx z
  ·exact absurd (dG (cN e) z) (m3 _)
 have cellK:∀x c,X.env.cells.lookup x=some c→∀v,s.heap.IsCell c v→h'.IsCell c v:=fun x c e v ⟨o,ho,hd⟩=>by
  have xw:c∉ch:=fun z=>(m5 c z).2.2.1 x c e rfl;by_cases hc:c∈X.fs
  ·obtain⟨sl,q⟩:=slot c o (I.rY x c e) hc xw ho (I.kJ x c e);exact⟨_,q,hd⟩
  ·exact⟨o,keep c o (I.rY x c e) hc xw ho (I.kJ x c e),hd⟩
 refine⟨I.ok,I.os,hg,⟨fun b o e n hb hx=>?_,fun b o e n hb hx=>?_,fun b o e n hx=>?_,fun b o e hx=>?_,fun b xs e=>ou b xs (I.base.ou b xs e),fun b o xs e=>mi b o xs (I.base.mi b o xs e),fun b ps e=>?_⟩,?_,fun x c e=>?_,?_,fun x c e=>?_,fun p hp=>?_,aU,I.len⟩
 ·exact keep b o (Lb b o e) hb (Ax b o e hx) (I.base.keep b o e n hb hx) (I.base.free b o e n hx)
 ·obtain⟨sl,e1⟩:=I.base.slot b o e n hb hx;obtain⟨Yf,e2⟩:=slot b _ (Lb b o e) hb (Ax b o e hx) e1 (I.base.free b o e n hx);exact⟨Yf,e2⟩
 ·obtain⟨o',e1⟩:=I.base.there b o e hx;exact free b o' (Ax b o e hx) e1 (I.base.free b o e n hx)
 ·obtain⟨o',e1⟩:=I.base.there b o e hx;exact there b o' (Ax b o e hx) e1
 ·obtain⟨m1,e1⟩:=I.base.ow b ps e;obtain⟨m2,e2⟩:=ow b _ e1;exact⟨m1++m2,by rw[e2,Array.append_assoc]⟩
 ·obtain⟨m,hn,hl⟩:=I.loc;refine⟨m,ns m hn,fun i x v e1 e2 e3=>?_⟩;obtain⟨u,r,l⟩:=hl i x v e1 e2 e3;refine⟨u,r,?_⟩;rcases l with l|⟨k,c,e,z⟩
  ·exact .inl l
  ·exact .inr ⟨k,c,e,cellK x c e _ z⟩
 ·obtain⟨v,z⟩:=I.cell x c e;exact⟨v,cellK x c e v z⟩
 ·obtain⟨m,⟨o,_,_,ho,_⟩,_⟩:=I.loc;exact free _ o (fun z=>(m5 _ z).2.1 rfl) ho I.free
 ·obtain⟨v,o,ho,hd⟩:=I.cell x c e;exact free c o (fun z=>(m5 c z).2.2.1 x c e rfl) ho (I.kJ x c e)
 ·obtain⟨e,n,ne,nf,d⟩:=I.pin p hp;have xw:p.1∉ch:=fun z=>(m5 p.1 z).2.2.2 p hp rfl;exact⟨keep p.1 p.2 ne nf xw e n,free p.1 p.2 xw e n,ne,nf,d⟩
theorem Inv.un(I:Inv X pins σ H s)(u:Un X.fs [] H H' s.heap h')(aU:dr X.prog X.w H' h'):Inv X pins σ H' {s with heap:=h',toks:=t'}:=by
 obtain⟨m,⟨o,es,ep,ho,r⟩,_⟩:=id I.loc;obtain⟨sl,hL⟩:=u.any ho I.free (by simp);exact I.step (g':=s.gens) (d':=s.drawn) (ch:=[]) (fun _ z=>nomatch z) (fun b o _ hb _ e n=>u.keep b o e n hb (by simp)) (fun b o _ hb _ e n=>u.slot b o e n hb (by simp)) (fun b o _ e n=>u.free b o e n (by simp)) (fun b o _ e=>u.there b o e (by simp)) u.ou u.mi u.ow (fun m' hm=>by
  obtain⟨o',oy,oA,jU,r'⟩:=hm;rw[ho]at jU;cases jU;exact⟨_,oy,oA,hL,r'⟩) aU I.bare
theorem Inv.call(I:Inv X pins σ H s)(u:Un (mj X.stack) ch H H' s.heap h')(aU:dr X.prog X.w H' h')(hg:uV g')
  (m5:∀b∈ch,(b∈X.ex∨X.s_0.heap.objs.size≤b)∧b≠X.env.locals∧(∀x c,X.env.cells.lookup x=some c→c≠b)∧∀p∈X.pn++pins,p.1≠b):
  Inv X pins σ H' {s with heap:=h',gens:=g',drawn:=d',toks:=t'}:=by
 obtain⟨m,⟨o,es,ep,ho,r⟩,_⟩:=id I.loc;obtain⟨sl,hL⟩:=u.any ho I.free fun z=>(m5 _ z).2.1 rfl;exact I.step (ch:=ch) m5 (fun b o hL hb hc e n=>u.keep b o e n (fun z=>(b_.mp (I.Eb b z)).elim hL hb) hc) (fun b o _ _ hc e n=>u.any e n hc) (fun b o hc e n=>u.free b o e n hc) (fun b o hc e=>u.there b o e hc) u.ou u.mi u.ow (fun m' hm=>by
  obtain⟨o',oy,oA,jU,r'⟩:=hm;rw[ho]at jU;cases jU;exact⟨_,oy,oA,hL,r'⟩) aU hg
theorem Inv.turned(I:Inv X pins σ H s)(k:∀b o,b≠it→s.heap.get? b=some o→h'.get? b=some o)(hn:H it=none)(hL:it≠X.env.locals)
  (h1:it∈X.ex∨X.s_0.heap.objs.size≤it) (h2:∀x c,X.env.cells.lookup x=some c→c≠it) (h3:∀p∈X.pn++pins,p.1≠it):Inv X pins σ H {s with heap:=h',toks:=t'}:=by
 have p8:∀b u,H b=some u→b≠it:=fun b u e z=>by rw[z,hn]at e;cases e
 refine I.step (g':=s.gens) (d':=s.drawn) (ch:=[it]) (fun b hb=>?_) (fun b o _ _ hc e _=>k b o (fun z=>hc (by simp[z])) e) (fun b o _ _ hc e _=>⟨o.slots,k b o (fun z=>hc (by simp[z])) e⟩) (fun _ _ _ _ n=>n)
  (fun b o hc e=>⟨o,k b o (fun z=>hc (by simp[z])) e⟩) (fun _ _ e=>e) (fun _ _ _ e=>e) (fun b ps e=>⟨#[],by rw[e];simp⟩) (fun m hm=>?_) (fun b u e=>?_) I.bare
 ·have e:b=it:=by simpa using hb
  subst e;exact⟨h1,hL,h2,h3⟩
 ·obtain⟨o,es,ep,ho,r⟩:=hm;exact⟨o,es,ep,k _ o (Ne.symm hL) ho,r⟩
 ·refine(I.aU b u e).kI (fun c v hc q=>k c v ?_ q) (fun _ q=>q) fun _ _ q=>q;rcases hc with z|z
  ·rw[z];exact p8 b u e
  ·exact p8 c _ z
theorem Inv.tok(I:Inv X pins σ H s)t:Inv X pins σ H {s with toks:=t}:=I.un (h':=s.heap) (t':=t) Un.refl I.aU
theorem Inv.kept(I:Inv X pins σ H s)(k:∀b u,s.heap.get? b=some u→h'.get? b=some u):Inv X pins σ H {s with heap:=h',toks:=t'}:=I.un (Un.kept k) (I.aU.kept k)
theorem Inv.laid{a:ae}(I:Inv X pins σ H s)(k:∀b u,s.heap.get? b=some u→h'.get? b=some u)(hp:s.heap.objs.size≤a)(new:eN X.prog X.w (upd H a o) h' a o):
  Inv X pins σ (upd H a o) {s with heap:=h',toks:=t'}:=I.un (Un.laid k hp (I.aU.fresh hp)) (I.aU.laid k hp new)
theorem Inv.write(I:Inv X pins σ H s)(mu:oq (H x))(he:e=x∨H e=some (.own x))(k:∀b u,b≠e→s.heap.get? b=some u→h'.get? b=some u)(uS:∃u,h'.get? e=some u)
  (new:eN X.prog X.w (upd H x o) h' x o):Inv X pins σ (upd H x o) {s with heap:=h',toks:=t'}:=I.un (Un.write mu he k uS) (I.aU.write mu he k uS new)
theorem Inv.weak(I:Inv X pins σ H s)(hl:σ'.length=σ.length)(w:∀(i:Nat) v,σ'[i]?=some (some v)→σ[i]?=some (some v)):Inv X pins σ' H s:=
 ⟨I.ok,I.os,I.bare,I.base,let ⟨m,hn,Yg⟩:=I.loc;⟨m,hn,fun i x v e1 e2 e3=>Yg i x v e1 (w i v e2) e3⟩,I.cell,I.free,I.kJ,I.pin,I.aU,hl.trans I.len⟩
theorem Inv.Lc(I:Inv X pins σ H s)(h:∀p∈Yh,s.heap.get? p.1=some p.2∧H p.1=none∧p.1≠X.env.locals∧p.1∉X.fs∧∀v,p.2.data≠.cell v):Inv X Yh σ H s:=
 ⟨I.ok,I.os,I.bare,I.base,I.loc,I.cell,I.free,I.kJ,fun p hp=>(e_.mp hp).elim (fun z=>I.pin p (Yi _ z)) (h p),I.aU,I.len⟩
theorem Ec{N:List Str}(hN:N.Nodup){i j:Nat}(a:N[i]?=some x)(b:N[j]?=some x):i=j:=by
 obtain⟨h1,e1⟩:=du.mp a;obtain⟨h2,e2⟩:=du.mp b;exact(Yj hN).mp (e1.trans e2.symm)
theorem Ld{M:Model}{A:eB}{E:aA→aS→Prop}{i:Nat}{x:Str}{v:V}{u:aA}{Q:Unit→aS→Prop}(I:Inv X pins σ H s)(hN:X.N.Nodup)(hi:X.N[i]?=some x)(hx:Loc X.env.scope x)(r:RelV v u)
  (h:∀s',Inv X pins (σ.set i (some v)) H s'→(∃a,xx a s.heap s'.heap∧(a=X.env.locals∨X.env.cells.lookup x=some a))→Q () s') (hf:X.fn x=true∨X.env.scope.names.lookup x=some .local:=by first|exact .inl rfl|exact .inr rfl|assumption):aD M A (Lf X.env x u) Q E s:=by
 obtain⟨m,hn,hl⟩:=id I.loc;have Yk:(X.env.scope.kind==.class||(X.env.scope.kind==.module&&X.env.locals !=X.env.globals))=false:=by rw[I.ok.kind];rfl
 have Lg:i<σ.length:=by rw[I.len];exact(du.mp hi).1
 have rY:=I.rY;have tracked:∀{a:ae}{h':bU},(∃o,s.heap.get? a=some o∧H a=none)→xx a s.heap h'→dr X.prog X.w H h':=fun{a h'} ha hs b ob e=>by
  obtain⟨_,_,uW⟩:=ha;refine(I.aU b ob e).kI (fun c w' hc q=>(hs.2 c ?_).trans q) (fun _ q=>q) fun _ _ q=>q;rintro rfl;rcases hc with rfl|hc
  ·rw[uW]at e;cases e
  ·rw[uW]at hc;cases hc
 rcases hx with hk|hk
 ·refine wpAny_storeName_local hk hn (fun h' Ed hs=>?_) Yk;obtain⟨oL,_,_,Yl,_⟩:=id hn;refine h _ ⟨I.ok,I.os,I.bare,⟨fun b o e n hb hx=>?_,fun b o e n hb hx=>?_,I.base.free,fun b o e hx=>?_,I.base.ou,I.base.mi,I.base.ow⟩,⟨_,Ed,fun j y v' e1 e2 e3=>?_⟩,fun y c e=>?_,I.free,I.kJ,fun p hp=>?_,tracked ⟨oL,Yl,I.free⟩ hs,by simpa using I.len⟩ ⟨_,hs,.inl rfl⟩
  ·exact(hs.2 b (fU (dG (cN e) I.ok.above))).trans (I.base.keep b o e n hb hx)
  ·obtain⟨sl,e1⟩:=I.base.slot b o e n hb hx;exact⟨sl,(hs.2 b (fU (dG (cN e) I.ok.above))).trans e1⟩
  ·obtain⟨o',e1⟩:=I.base.there b o e hx;exact⟨o',(hs.2 b (fU (dG (cN e) I.ok.above))).trans e1⟩
  ·by_cases hj:j=i
   ·subst hj;rw[hi]at e1;cases e1;rw[xy Lg]at e2;cases e2;exact⟨u,r,.inl ⟨hk,by simp⟩⟩
   ·rw[xA (Ne.symm hj)]at e2;obtain⟨u',r',q⟩:=hl j y v' e1 e2 e3;refine⟨u',r',?_⟩;rcases q with⟨k,e⟩|⟨k,c,e,z⟩
    ·refine .inl ⟨k,?_⟩;have:y≠x:=fun e=>hj (Ec hN e1 (e▸hi));simp[this,e]
    ·exact .inr ⟨k,c,e,z.sameBut hs (rY y c e)⟩
  ·obtain⟨w',z⟩:=I.cell y c e;exact⟨w',z.sameBut hs (rY y c e)⟩
  ·obtain⟨e,n,ne,nf,d⟩:=I.pin p hp;exact⟨(hs.2 p.1 ne).trans e,n,ne,nf,d⟩
 ·have Ee:X.fn x=true:=by
   rcases hf with z|z
   ·exact z
   ·rw[z]at hk;cases hk
  obtain⟨c,hc⟩:=I.ok.has x (.inl hk);obtain⟨w',z⟩:=I.cell x c hc;refine wpAny_storeName_cell I.ok.kind hk hc z (fun h' Ay hs=>?_);obtain⟨oc,uX,Ym⟩:=id z;refine h {s with heap:=h'} ⟨I.ok,I.os,I.bare,⟨fun b o e n hb hx=>?_,fun b o e n hb hx=>?_,I.base.free,fun b o e hx=>?_,I.base.ou,I.base.mi,I.base.ow⟩,⟨m,hn.sameBut hs (Ne.symm (rY x c hc)),fun j y v' e1 e2 e3=>?_⟩,fun y c' e=>?_,I.free,I.kJ,fun p hp=>?_,tracked ⟨oc,uX,I.kJ x c hc⟩ hs,by simpa using I.len⟩ ⟨c,hs,.inr hc⟩
  ·exact(hs.2 b (fU (dG (cN e) (I.ok.xp x c Ee hc)))).trans (I.base.keep b o e n hb hx)
  ·obtain⟨sl,e1⟩:=I.base.slot b o e n hb hx;exact⟨sl,(hs.2 b (fU (dG (cN e) (I.ok.xp x c Ee hc)))).trans e1⟩
  ·obtain⟨o',e1⟩:=I.base.there b o e hx;exact⟨o',(hs.2 b (fU (dG (cN e) (I.ok.xp x c Ee hc)))).trans e1⟩
  ·by_cases hj:j=i
   ·subst hj;rw[hi]at e1;cases e1;rw[xy Lg]at e2;cases e2;exact⟨u,r,.inr ⟨.inl hk,c,hc,Ay⟩⟩
   ·rw[xA (Ne.symm hj)]at e2;obtain⟨u',r',q⟩:=hl j y v' e1 e2 e3;refine⟨u',r',?_⟩;rcases q with q|⟨k,c',e,z'⟩
    ·exact .inl q
    ·refine .inr ⟨k,c',e,z'.sameBut hs ?_⟩;rintro rfl;exact hj (Ec hN e1 (I.ok.inj _ _ _ e hc▸hi))
  ·by_cases gf:c'=c
   ·subst gf;exact⟨_,Ay⟩
   ·obtain⟨w2,z2⟩:=I.cell y c' e;exact⟨w2,z2.sameBut hs gf⟩
  ·obtain⟨e,n,ne,nf,d⟩:=I.pin p hp;refine⟨(hs.2 p.1 ?_).trans e,n,ne,nf,d⟩;intro q;rw[q,uX]at e;have q':oc=p.2:=bS e;exact d w' (by rw[←q'];exact Ym)
theorem Ef{M:Model}{A:eB}{E:aA→aS→Prop}{i:Nat}{x:Str}{v:V}{u:aA}{Q:Unit→aS→Prop}(I:Inv X pins σ H s)(hN:X.N.Nodup)(hi:X.N[i]?=some x)(hx:Loc X.env.scope x)(r:RelV v u)
  (h:∀s',Inv X pins (σ.set i (some v)) H s'→Q () s') (hf:X.fn x=true∨X.env.scope.names.lookup x=some .local:=by first|exact .inl rfl|exact .inr rfl|assumption):aD M A (Lf X.env x u) Q E s:=
 Ld I hN hi hx r (fun s' I' _=>h s' I') hf
theorem Inv.Yn(I:Inv X pins σ H s)(ho:s'.os=s.os)(u:Un (mj X.stack) ch H H' s.heap s'.heap)(aU:dr X.prog X.w H' s'.heap)(hg:uV s'.gens)
  (m5:∀b∈ch,(b∈X.ex∨X.s_0.heap.objs.size≤b)∧b≠X.env.locals∧(∀x c,X.env.cells.lookup x=some c→c≠b)∧∀p∈X.pn++pins,p.1≠b):Inv X pins σ H' s':=by
 obtain⟨h',g',d',t',o'⟩:=s';have e:o'=s.os:=ho;subst e;exact I.call (g':=g') (t':=t') (d':=d') u aU hg m5
end
abbrev XK:=aA→Option ae→Hp→Prop
abbrev St:=List (Option V)
abbrev VK:=V→Hp→Prop
abbrev TE:=St→Hp→VK→Prop
abbrev TT:=St→Hp→(Bool→Hp→Prop)→Prop
abbrev TA:=St→Hp→(List V→Hp→Prop)→Prop
structure Ends where
 nx:St→Hp→Prop
 rt:VK
 bk:St→Hp→Prop:=fun _ _=>False
 ct:St→Hp→Prop:=fun _ _=>False
abbrev TS:=Ends→St→Hp→Prop
inductive EP(X:Cx)(pins:List (ae×Obj))(σ:St)(Q:VK)(u:aA)(s':aS):Prop
 |mk:∀v H',Inv X pins σ H' s'→RelV v u→Q v H'→EP X pins σ Q u s'
def TP(X:Cx)(pins:List (ae×Obj))(σ:St)(Q:Bool→Hp→Prop)(b:Bool)(s':aS):Prop:=∃H',Inv X pins σ H' s'∧Q b H'
inductive AP(X:Cx)(pins:List (ae×Obj))(σ:St)(Q:List V→Hp→Prop)(us:List aA)(s':aS):Prop
 |mk:∀vs H',Inv X pins σ H' s'→a7 vs us→Q vs H'→AP X pins σ Q us s'
def SP(X:Cx)(pins:List (ae×Obj))(D:Ends)(f:Flow)(s':aS):Prop:=
 match f with
 | .next=>∃σ' H',Inv X pins σ' H' s'∧D.nx σ' H'
 | .brk=>∃σ' H',Inv X pins σ' H' s'∧D.bk σ' H'
 | .cont=>∃σ' H',Inv X pins σ' H' s'∧D.ct σ' H'
 | .ret u=>∃v σ' H',Inv X pins σ' H' s'∧RelV v u∧D.rt v H'
def PE(X:Cx)(e:aY)(t:TE):Prop:=
 ∀pins s (σ:St) H Q,Inv X pins σ H s→t σ H Q→aD (aP X.prog X.w) X.A (eval e X.env) (EP X pins σ Q) X.xe s
def PT(X:Cx)(e:aY)(t:TT):Prop:=
 ∀pins s (σ:St) H Q,Inv X pins σ H s→t σ H Q→aD (aP X.prog X.w) X.A (Az e X.env (eval e X.env)) (TP X pins σ Q) X.xe s
def PW(X:Cx)(e:aY)(t:TT):Prop:=
 ∀whole pins s (σ:St) H Q,Inv X pins σ H s→t σ H Q→aD (aP X.prog X.w) X.A (Az e X.env whole) (TP X pins σ Q) X.xe s
theorem PW.pt(h:PW X e t):PT X e t:=h _
def PA(X:Cx)(es:List aY)(t:TA):Prop:=
 ∀pos pins s (σ:St) H Q,Inv X pins σ H s→t σ H Q→aD (aP X.prog X.w) X.A (spliced (g9 pos (bo es X.env))) (AP X pins σ Q) X.xe s
def PS(X:Cx)(st:aK)(t:TS):Prop:=
 ∀pins s (σ:St) H D,Inv X pins σ H s→t D σ H→aD (aP X.prog X.w) X.A (exec st X.env) (SP X pins D) X.xe s
def jy(X:Cx)(st:List aK)(t:TS):Prop:=
 ∀pins s (σ:St) H D,Inv X pins σ H s→t D σ H→aD (aP X.prog X.w) X.A (execs st X.env) (SP X pins D) X.xe s
theorem aT{α:Type}{t:Sem α}{Q Q':α→aS→Prop}(h:aD M A t Q E s)(hQ:∀a s,Q a s→Q' a s):aD M A t Q' E s:=lD h hQ fun _ _ x=>x
section
variable {X:Cx}
theorem bin(ha:PE X a ta)(hb:PE X b tb){σ:St}{R:V→V→Hp→Prop}(I:Inv X pins σ H s)(h:ta σ H fun x H1=>tb σ H1 fun y H2=>R x y H2)
  {α:Type}{Q:α→aS→Prop}{f:aA→aA→Sem α}
  (hf:∀v u s2 x y H2,Inv X pins σ H2 s2→RelV x v→RelV y u→R x y H2→aD (aP X.prog X.w) X.A (f v u) Q X.xe s2):
  aD (aP X.prog X.w) X.A (eval a X.env) (fun v s₁=>aD (aP X.prog X.w) X.A (eval b X.env) (fun u s₂=>aD (aP X.prog X.w) X.A (f v u) Q X.xe s₂) X.xe s₁) X.xe s:=by
 refine aT (ha pins s σ H _ I h) fun v s1 ⟨x,H1,I1,r1,q1⟩=>?_;refine aT (hb pins s1 σ H1 _ I1 q1) fun u s2 ⟨y,H2,I2,r2,q2⟩=>?_;exact hf v u s2 x y H2 I2 r1 r2 q2
def Lh(i:Nat)(σ:St)(H:Hp)(Q:VK):Prop:=Option.rec (motive:=fun _=>Prop) False (fun o=>Option.rec (motive:=fun _=>Prop) False (fun v=>Q v H) o) σ[i]?
theorem Lh.mk{i σ H Q}(v:V)(e:σ[i]?=some (some v))(k:Q v H):Lh i σ H Q:=by
 unfold Lh;rw[e];exact k
theorem Lh.ex{i σ H Q}(h:Lh i σ H Q):∃v,σ[i]?=some (some v)∧Q v H:=by
 unfold Lh at h;cases e:σ[i]? with
 |none=>rw[e]at h;exact h.elim
 |some o=>
  rw[e]at h;cases o with
  |none=>exact h.elim
  |some v=>exact⟨v,rfl,h⟩
def AA(i:Nat):TE:=Lh i
def tC(v:V):TE:=fun _ H Q=>Q v H
theorem Li{i:Nat}{x:Str}{pos:Pos}(hN:X.N[i]?=some x)(hv:p5 X.env.scope x)(hd:(x==("__debug__":Str))=false:=by decide)(gw:(x==("__classdict__":Str))=false:=by decide):PE X (.Name x pos) (AA i):=by
 intro pins s σ H Q I h;obtain⟨v,e,h⟩:=Lh.ex h;obtain⟨m,hn,hl⟩:=I.loc;obtain⟨u,r,l⟩:=hl i x v hN e hv;have fin:EP X pins σ Q u s:=⟨v,H,I,r,h⟩
 rcases l with⟨hk,hm⟩|⟨hk,c,hc,AB⟩
 ·exact Lj (Yo I.ok.kind hk hn hm fin) hd
 ·rcases hk with hk|hk
  ·exact Lj (Yp I.ok.kind hk hc AB fin) hd
  ·exact Lj (wpAny_loadName_free I.ok.kind hk hc AB fin gw) hd
theorem aH{i j pos}:PE X (.Constant (.int i) j pos) (tC (.int i)):=fun _ _ _ H _ I h=>wpAny_Constant_int ⟨.int i,H,I.tok _,⟨_,rfl⟩,h⟩
theorem dv{b j pos}:PE X (.Constant (.bool b) j pos) (tC (.bl b)):=fun _ _ _ H _ I h=>Constant_bool ⟨.bl b,H,I,rfl,h⟩
theorem bp{j pos}:PE X (.Constant .none j pos) (tC .aC):=fun _ _ _ H _ I h=>Constant_none ⟨.aC,H,I,rfl,h⟩
theorem bG{x j pos}:PE X (.Constant (.str x) j pos) (tC (.str x)):=fun _ _ _ H _ I h=>Calls.Constant_str ⟨.str x,H,I.tok _,⟨_,rfl⟩,h⟩
def Gl(X:Cx)(x:Str):Prop:=X.env.kindOf x=some .globalImplicit
theorem AC{E:aA→aS→Prop}{pins:List (ae×Obj)}{s:aS}{σ:St}{H:Hp}{x:Str}{u:aA}{pos:Pos}{Q:aA→aS→Prop}(I:Inv X pins σ H s)(hg:Gl X x)(hm:X.mg x=some u)(h:Q u s)
  (hd:(x==("__debug__":Str))=false:=by decide):aD (aP X.prog X.w) X.A (eval (.Name x pos) X.env) Q E s:=
 Yq I.ok.kind hg (Calls.loadGlobal_global (by rw[I.ok.glob];exact I.mod.glob.keeps I.bk) hm h) hd
theorem m6{E:aA→aS→Prop}{pins:List (ae×Obj)}{s:aS}{σ:St}{H:Hp}{x:Str}{u:aA}{pos:Pos}{Q:aA→aS→Prop}(I:Inv X pins σ H s)(hg:Gl X x)(hm:X.mg x=none)(hv:uU x=some u)(h:Q u s)
  (hn:x≠"__name__":=by decide) (hd:(x==("__debug__":Str))=false:=by decide):aD (aP X.prog X.w) X.A (eval (.Name x pos) X.env) Q E s:=by
 obtain⟨mb,h1,h2⟩:=I.mod.blt;exact Yq I.ok.kind hg (Calls.loadGlobal_builtin (by rw[I.ok.glob];exact I.mod.glob.keeps I.bk) hm (by rw[I.ok.blt];exact h1.keeps I.bk) ((h2 x hn).trans hv) h) hd
theorem Eg{x:Str}{v:V}{u:aA}{pos:Pos}(hg:Gl X x)(hm:X.mg x=some u)(r:RelV v u)(hd:(x==("__debug__":Str))=false:=by decide):PE X (.Name x pos) (tC v):=
 fun _ _ _ H _ I h=>AC I hg hm ⟨v,H,I,r,h⟩ hd
variable {a b:aY}{ta tb:TE}{pos:Pos}
def PC(X:Cx)(op:uY)(a b:aY)(t:TE):Prop:=
 ∀pins s (σ:St) H Q,Inv X pins σ H s→t σ H Q→
  aD (aP X.prog X.w) X.A (eval a X.env) (fun v s₁=>aD (aP X.prog X.w) X.A (eval b X.env) (fun u s₂=>aD (aP X.prog X.w) X.A (gy op v u) (EP X pins σ Q) X.xe s₂) X.xe s₁) X.xe s
inductive Bq_(x:V)(H:Hp)(Q:Bool→Hp→Prop):Prop|mk c:x=.bl c→Q c H→Bq_ x H Q
def tB(t:TE):TT:=fun σ H Q=>t σ H fun x H1=>Bq_ x H1 Q
theorem Lk{op:uY}{t:TE}(h:PC X op a b t)(h1:xB op b=false:=by first|exact Yr _ (by decide) (by decide)|rfl):PE X (.Compare a [op] [b] pos) t:=fun pins s σ H Q I hw=>Ys (h pins s σ H Q I hw) h1
theorem uZ{op:uY}{t:TE}(h:PC X op a b t)(h1:xB op b=false:=by first|exact Yr _ (by decide) (by decide)|rfl):PT X (.Compare a [op] [b] pos) (tB t):=by
 intro pins s σ H Q I hw;refine Yt (aT (h pins s σ H _ I hw) fun v s1 h1=>aT h1 fun u s2 h2=>aT h2 fun c s3 ⟨x,H1,I1,r1,q1⟩=>?_) h1;obtain⟨d,rfl,q⟩:=q1;cases r1;exact p_ ⟨H1,I1,q⟩
theorem gg{e:aY}{t:TE}(h:PE X e t)(he:∀whole,Az e X.env whole=(do let v←whole;Eh e.pos;xC [v] (truthy v)):=by intro _;rfl):PT X e (tB t):=by
 intro pins s σ H Q I hw;refine isTrue_plain (aT (h pins s σ H _ I hw) fun v s1 ⟨x,H1,I1,r1,q1⟩=>?_) (he _);obtain⟨d,rfl,q⟩:=q1;cases r1;exact p_ ⟨H1,I1,q⟩
variable {tA AD:TT}{rest:List aY}
def Yu(t u:TT):TT:=fun σ H Q=>t σ H fun c H1=>if c=true then u σ H1 Q else Q false H1
def Yv(t u:TT):TT:=fun σ H Q=>t σ H fun c H1=>if c=true then Q true H1 else u σ H1 Q
def Yw(t:TT):TT:=fun σ H Q=>t σ H fun c H1=>Q (!c) H1
theorem jV(ha:PT X a tA):PW X (.BoolOp .And [a] pos) tA:=by
 intro wh pins s σ H Q I h;refine isTrue_and (aT (ha pins s σ H Q I h) fun c s1 e=>?_);cases c with
 |true=>exact isTrue_and_nil e
 |false=>exact e
theorem gz(ha:PT X a tA):PW X (.BoolOp .Or [a] pos) tA:=by
 intro wh pins s σ H Q I h;refine isTrue_or (aT (ha pins s σ H Q I h) fun c s1 e=>?_);cases c with
 |false=>exact isTrue_or_nil e
 |true=>exact e
theorem jW(ha:PT X a tA)(hb:PW X (.BoolOp .And (b::rest) pos) AD):PW X (.BoolOp .And (a::b::rest) pos) (Yu tA AD):=by
 intro wh pins s σ H Q I h;refine isTrue_and (aT (ha pins s σ H _ I h) fun c s1 ⟨H1,I1,q1⟩=>?_);cases c with
 |true=>exact hb wh pins s1 σ H1 Q I1 q1
 |false=>exact⟨H1,I1,q1⟩
theorem eO(ha:PT X a tA)(hb:PW X (.BoolOp .Or (b::rest) pos) AD):PW X (.BoolOp .Or (a::b::rest) pos) (Yv tA AD):=by
 intro wh pins s σ H Q I h;refine isTrue_or (aT (ha pins s σ H _ I h) fun c s1 ⟨H1,I1,q1⟩=>?_);cases c with
 |true=>exact⟨H1,I1,q1⟩
 |false=>exact hb wh pins s1 σ H1 Q I1 q1
theorem jX(ha:PT X a tA):PT X (.UnaryOp .Not a pos) (Yw tA):=by
 intro pins s σ H Q I h;exact isTrue_not (ha pins s σ H (fun c H1=>Q (!c) H1) I h)
def Yx(ta tb:TE):TE:=fun σ H Q=>ta σ H fun x H1=>Bq_ x H1 fun c H1=>if c=true then tb σ H1 Q else Q (.bl false) H1
def Yy(ta tb:TE):TE:=fun σ H Q=>ta σ H fun x H1=>Bq_ x H1 fun c H1=>if c=true then Q (.bl true) H1 else tb σ H1 Q
theorem xD{op}(h:PE X a t):PE X (.BoolOp op [a] pos) t:=fun pins s σ H Q I hw=>BoolOp_one (h pins s σ H Q I hw)
theorem u0(ha:PE X a ta)(hb:PE X (.BoolOp .And (b::rest) pos) tb):PE X (.BoolOp .And (a::b::rest) pos) (Yx ta tb):=by
 intro pins s σ H Q I h;refine BoolOp_and (aT (ha pins s σ H _ I h) fun v s1 ⟨x,H1,I1,r1,q1⟩=>?_);obtain⟨c,rfl,q1⟩:=q1;cases r1;refine p_ ?_;cases c with
 |true=>exact hb pins s1 σ H1 Q I1 q1
 |false=>exact⟨.bl false,H1,I1,rfl,q1⟩
theorem Ll(ha:PE X a ta)(hb:PE X (.BoolOp .Or (b::rest) pos) tb):PE X (.BoolOp .Or (a::b::rest) pos) (Yy ta tb):=by
 intro pins s σ H Q I h;refine BoolOp_or (aT (ha pins s σ H _ I h) fun v s1 ⟨x,H1,I1,r1,q1⟩=>?_);obtain⟨c,rfl,q1⟩:=q1;cases r1;refine p_ ?_;cases c with
 |false=>exact hb pins s1 σ H1 Q I1 q1
 |true=>exact⟨.bl true,H1,I1,rfl,q1⟩
def Yz(t:TT)(ta tb:TE):TE:=fun σ H Q=>t σ H fun c H1=>if c=true then ta σ H1 Q else tb σ H1 Q
theorem AE(hc:PT X c tA)(ha:PE X a ta)(hb:PE X b tb):PE X (.IfExp c a b pos) (Yz tA ta tb):=by
 intro pins s σ H Q I h;refine wpAny_IfExp (aT (hc pins s σ H _ I h) fun d s1 ⟨H1,I1,q1⟩=>?_);cases d with
 |true=>exact ha pins s1 σ H1 Q I1 q1
 |false=>exact hb pins s1 σ H1 Q I1 q1
end
def ai(K:PySem.W.Frag)(H:Hp)(a:ae)(xs:List V):Prop:=
 Rd H a (.lst xs)∨
  ∃(o:Obj) (au:Array aA) (n:Nat),K.lookup a=some o∧o.cls=.type "list"∧o.dict=none∧o.data=.seq au n∧au.size≤bf∧a7 xs au.toList
def bV(K:PySem.W.Frag)(H:Hp)(a:ae)(xs:List V):Prop:=
 Rd H a (.tup xs)∨
  ∃(o:Obj) (au:Array aA) (n:Nat),K.lookup a=some o∧o.cls=.type "tuple"∧o.data=.seq au n∧au.size≤bf∧a7 xs au.toList
def YA:aA→Option V
 | .none=>some .aC
 | .bool b=>some (.bl b)
 | .int i _=>some (.int i)
 | .str x _=>some (.str x)
 | .bytes b _=>some (.iY b)
 | .float b _=>some (.As b)
 | .ref a=>some (.ref a)
 | .type n=>some (.ty n)
 |_=>none
theorem RelV.abs(r:RelV x u):YA u=some x:=by
 cases x with
 |aC=>cases r;rfl
 |bl _=>cases r;rfl
 |int _=>obtain⟨t,rfl⟩:=r;rfl
 |str _=>obtain⟨t,rfl⟩:=r;rfl
 |iY _=>obtain⟨t,rfl⟩:=r;rfl
 |As _=>obtain⟨t,rfl⟩:=r;rfl
 |ref _=>cases r;rfl
 |ty _=>cases r;rfl
theorem RelV.inj(r:RelV x u)(q:RelV y u):x=y:=bS (r.abs.symm.trans q.abs)
theorem a7.inj:∀{xs ys}{us},a7 xs us→a7 ys us→xs=ys
 |_,_,_,.nil,.nil=>rfl
 |_,_,_,.cons r t,.cons r' t'=>by rw[r.inj r',a7.inj t t']
section
variable {X:Cx}{pins:List (ae×Obj)}{σ:St}{H:Hp}{s:aS}{a:ae}{xs ys:List V}
theorem ai.of{K:PySem.W.Frag}(h:H a=some (.lst xs)):ai K H a xs:=.inl (.inl h)
theorem bV.of{K:PySem.W.Frag}(h:H a=some (.tup xs)):bV K H a xs:=.inl (.inl h)
theorem Inv.list(I:Inv X pins σ H s)(h:ai X.K H a xs):∃au:List aA,a7 xs au∧PlainL s.heap a au.toArray∧xs.length≤bf:=by
 rcases h with h|⟨o,au,n,hk,hc,hd,hs,hz,r⟩
 ·obtain⟨z,au,n,r,e⟩:=h.ok I.aU;exact⟨au,r,⟨_,n,e,rfl,rfl,rfl⟩,z⟩
 ·refine⟨au.toList,r,⟨o,n,I.iq a o hk,hc,hd,by simpa using hs⟩,?_⟩;have e:=r.length;simp only[u1]at e
  lia
theorem Inv.tuple(I:Inv X pins σ H s)(h:bV X.K H a xs):∃au:List aA,a7 xs au∧IsTup s.heap a au.toArray∧xs.length≤bf:=by
 rcases h with h|⟨o,au,n,hk,hc,hs,hz,r⟩
 ·obtain⟨z,au,r,p⟩:=h.ok I.aU;exact⟨au,r,p,z⟩
 ·refine⟨au.toList,r,⟨o,I.iq a o hk,hc,n,by simpa using hs⟩,?_⟩;have e:=r.length;simp only[u1]at e
  lia
theorem Inv.u4(I:Inv X pins σ H s)(h:ai X.K H a xs)(h':ai X.K H a ys):xs=ys:=by
 obtain⟨au,r,⟨o,n,e,_,_,d⟩,_⟩:=I.list h;obtain⟨its',r',⟨o',n',e',_,_,d'⟩,_⟩:=I.list h';rw[e]at e';cases e';rw[d]at d';injection d' with d1 _;have:au=its':=by simpa using congrArg Lm d1
 subst this;exact r.inj r'
theorem Inv.Ln(I:Inv X pins σ H s)(h:bV X.K H a xs)(h':bV X.K H a ys):xs=ys:=by
 obtain⟨au,r,⟨o,e,_,n,d⟩,_⟩:=I.tuple h;obtain⟨its',r',⟨o',e',_,n',d'⟩,_⟩:=I.tuple h';rw[e]at e';cases e';rw[d]at d';injection d' with d1 _;have:au=its':=by simpa using congrArg Lm d1
 subst this;exact r.inj r'
end
abbrev Cx.m7(X:Cx)(E:aA→aS→Prop):Cx:={X with xe:=E}
abbrev Cx.aQ(X:Cx):Cx:=X.m7 fun _ _=>False
theorem Cx.Ok.m7{X:Cx}(ok:X.Ok)E:(X.m7 E).Ok:=
 ⟨ok.mod,ok.kind,ok.glob,ok.blt,ok.above,ok.inj,ok.has,ok.xp,ok.hd,ok.frames,ok.Av,ok.Aw,ok.bs,ok.m4,ok.xq,ok.xr,ok.lC,ok.rX⟩
theorem Cx.Ok.qa{X:Cx}(ok:(X.m7 E).Ok):X.Ok:=
 ⟨ok.mod,ok.kind,ok.glob,ok.blt,ok.above,ok.inj,ok.has,ok.xp,ok.hd,ok.frames,ok.Av,ok.Aw,ok.bs,ok.m4,ok.xq,ok.xr,ok.lC,ok.rX⟩
section
variable {X:Cx}{pins:List (ae×Obj)}{σ:St}{H:Hp}{s:aS}{E:aA→aS→Prop}
theorem Inv.m7(I:Inv X pins σ H s)E:Inv (X.m7 E) pins σ H s:=⟨I.ok.m7 E,I.os,I.bare,I.base,I.loc,I.cell,I.free,I.kJ,I.pin,I.aU,I.len⟩
theorem Inv.qa(I:Inv (X.m7 E) pins σ H s):Inv X pins σ H s:=⟨I.ok.qa,I.os,I.bare,I.base,I.loc,I.cell,I.free,I.kJ,I.pin,I.aU,I.len⟩
theorem SP.qa(h:SP (X.m7 E) pins D f s'):SP X pins D f s':=by
 cases f with
 |next=>obtain⟨σ',H',I,q⟩:=h;exact⟨σ',H',I.qa,q⟩
 |brk=>obtain⟨σ',H',I,q⟩:=h;exact⟨σ',H',I.qa,q⟩
 |cont=>obtain⟨σ',H',I,q⟩:=h;exact⟨σ',H',I.qa,q⟩
 |ret u=>obtain⟨v,σ',H',I,r,q⟩:=h;exact⟨v,σ',H',I.qa,r,q⟩
theorem jy.aQ{st:List aK}(h:jy X.aQ st t):jy X st t:=fun pins s σ H D I hw=>
 lD (h pins s σ H D (I.m7 _) hw) (fun _ _ q=>q.qa) fun _ _ z=>iZ z
end
section
variable {X:Cx}{st:aK}{rest:List aK}{t u:TS}{e:aY}{te:TE}{pos:Pos}
def YB:TS:=fun D σ H=>D.nx σ H
def YC(t u:TS):TS:=fun D σ H=>t {D with nx:=u D} σ H
theorem aW:jy X [] YB:=fun _ _ σ H _ I h=>Ei ⟨σ,H,I,h⟩
theorem af(h1:PS X st t)(h2:jy X rest u):jy X (st::rest) (YC t u):=by
 intro pins s σ H D I h;refine YD (aT (h1 pins s σ H {D with nx:=u D} I h) fun f s1 q=>?_);cases f with
 |next=>
  obtain⟨σ',H',I',q⟩:=q;exact h2 pins s1 σ' H' D I' q
 |ret v=>exact q
 |brk=>exact q
 |cont=>exact q
theorem ak(h1:PS X st t):jy X [st] t:=by
 intro pins s σ H D I h;refine YD (aT (h1 pins s σ H D I h) fun f s1 q=>?_);cases f with
 |next=>exact Ei q
 |ret v=>exact q
 |brk=>exact q
 |cont=>exact q
def YE:TS:=fun D σ H=>D.bk σ H
def YF:TS:=fun D σ H=>D.ct σ H
theorem Lo:PS X (.Break pos) YE:=fun _ _ σ H _ I h=>wpAny_Break ⟨σ,H,I,h⟩
theorem Lp:PS X (.Continue pos) YF:=fun _ _ σ H _ I h=>wpAny_Continue ⟨σ,H,I,h⟩
theorem Inv.quiet{σ:St}(I:Inv X pins σ H s):interactive X.env=false:=by simp[interactive,I.ok.kind]
def YG(te:TE):TS:=fun D σ H=>te σ H fun _ H1=>D.nx σ H1
theorem dH(he:PE X e te)(hs:rZ e none pos.line X.env=pure false:=by rfl):PS X (.Expr e pos) (YG te):=by
 intro pins s σ H D I h;exact wpAny_Expr_any (aT (he pins s σ H _ I h) fun v s1 ⟨x,H1,I1,r1,q1⟩=>⟨σ,H1,I1,q1⟩) I.quiet hs
def YH(te:TE):TS:=fun D σ H=>te σ H D.rt
theorem ax(he:PE X e te):PS X (.Return (some e) pos) (YH te):=by
 intro pins s σ H D I h;exact wpAny_Return_some (aT (he pins s σ H _ I h) fun v s1 ⟨x,H1,I1,r1,q1⟩=>⟨x,σ,H1,I1,r1,q1⟩)
def YI(c:TT)(t u:TS):TS:=fun D σ H=>c σ H fun b H1=>if b=true then t D σ H1 else u D σ H1
theorem aV(hc:PT X c tc)(ha:jy X a t)(hb:jy X b u):PS X (.If c a b pos) (YI tc t u):=by
 intro pins s σ H D I h;refine wpAny_If (aT (hc pins s σ H _ I h) fun d s1 ⟨H1,I1,q1⟩=>?_);cases d with
 |true=>exact ha pins s1 σ H1 D I1 q1
 |false=>exact hb pins s1 σ H1 D I1 q1
def YJ:TS:=fun _ _ _=>False
theorem YK:jy X bZ YJ:=fun _ _ _ _ _ _ h=>h.elim
end
abbrev TG:=V→St→Hp→(St→Hp→Prop)→Prop
abbrev qb:=List V→St→Hp→(St→Hp→Prop)→Prop
def PG(X:Cx)(target:aY)(t:TG):Prop:=
 ∀pins s (σ:St) H v u Q,Inv X pins σ H s→RelV v u→t v σ H Q→
  aD (aP X.prog X.w) X.A (u5 target X.env u) (fun _ s'=>∃σ' H',Inv X pins σ' H' s'∧Q σ' H') X.xe s
def xE(X:Cx)(ts:List aY)(t:qb):Prop:=
 ∀pins s (σ:St) H vs us Q,Inv X pins σ H s→a7 vs us→t vs σ H Q→
  aD (aP X.prog X.w) X.A (assignInOrder ((r8 ts X.env).map (·.2)) us) (fun _ s'=>∃σ' H',Inv X pins σ' H' s'∧Q σ' H') X.xe s
abbrev Ej:=V→V→V→Hp→(Hp→Prop)→Prop
def Lq(X:Cx)(t:Ej):Prop:=
 ∀pins s (σ:St) H o i v ov iv u Q,Inv X pins σ H s→RelV o ov→RelV i iv→RelV v u→t o i v H Q→
  aD (aP X.prog X.w) X.A (setItem ov iv u) (fun _ s'=>∃H',Inv X pins σ H' s'∧Q H') X.xe s
abbrev xF:=V→V→Hp→VK→Prop
def AF(X:Cx)(op:Lr)(t:xF):Prop:=
 ∀pins s (σ:St) H x y v u Q,Inv X pins σ H s→RelV x v→RelV y u→t x y H Q→
  aD (aP X.prog X.w) X.A (inplaceOp op v u) (EP X pins σ Q) X.xe s
section
variable {X:Cx}{pos:Pos}
def u6(i:Nat):TG:=fun v σ H Q=>Q (σ.set i (some v)) H
theorem YL{i:Nat}{x:Str}(hN:X.N.Nodup)(hi:X.N[i]?=some x)(hx:Loc X.env.scope x)(hf:X.fn x=true∨X.env.scope.names.lookup x=some .local:=by first|exact .inl rfl|exact .inr rfl|assumption):PG X (.Name x pos) (u6 i):=by
 intro pins s σ H v u Q I r h;exact YM (Ef I hN hi hx r (fun s' I'=>⟨_,H,I',h⟩) hf)
def YN:qb:=fun vs σ H Q=>vs=[]∧Q σ H
inductive YO(t:TG)(u:qb)(vs:List V)(σ:St)(H:Hp)(Q:St→Hp→Prop):Prop|mk v r:vs=v::r→(t v σ H fun σ' H'=>u r σ' H' Q)→YO t u vs σ H Q
theorem oB:xE X [] YN:=by
 intro pins s σ H vs us Q I r h;obtain⟨e,h⟩:=h;subst e;cases r;exact assignInOrder_nil ⟨σ,H,I,h⟩
theorem ir{e:aY}{es:List aY}{t:TG}{u:qb}(h1:PG X e t)(h2:xE X es u)
  (hs:(r8 (e::es) X.env).map (·.2)=u5 e X.env::(r8 es X.env).map (·.2):=by rfl):xE X (e::es) (YO t u):=by
 intro pins s σ H vs us Q I r h;obtain⟨v,vr,e1,h⟩:=h;subst e1;cases r with
 |cons r rr=>
  rw[hs];refine assignInOrder_cons (aT (h1 pins s σ H _ _ _ I r h) fun _ s1 ⟨σ1,H1,I1,q1⟩=>?_);exact h2 pins s1 σ1 H1 _ _ Q I1 rr q1
inductive Lu(K:PySem.W.Frag)(n:Nat)(t:qb)(v:V)(σ:St)(H:Hp)(Q:St→Hp→Prop):Prop|mk a xs:v=.ref a→bV K H a xs→xs.length=n→t xs σ H Q→Lu K n t v σ H Q
theorem u7{es:List aY}{k:Nat}{t:qb}{n:Nat}(hc:X.calm=true)(h:xE X es t)
  (hn:(r8 es X.env).length=n:=by rfl) (fK:(r8 es X.env).findIdx? (·.1)=none:=by rfl):PG X (.Tuple es k pos) (Lu X.K n t):=by
 intro pins s σ H v u Q I r hw;obtain⟨a,xs,e1,hq,hl,hw⟩:=hw;subst e1;cases r;obtain⟨au,rv,ht,hz⟩:=I.tuple hq;refine assign_Tuple_tuple (I.ok.hd hc) ht (by simp[hn,←hl,rv.length]) fK fun h' hx=>?_;have I1:Inv X pins σ H {s with heap:=h'}:=I.kept (t':=s.toks) fun b o e=>hx b o (fU (cN e)) e;exact h pins _ σ H xs _ Q I1 (by simpa using rv) hw
def YQ(to ti:TE)(t:Ej):TG:=fun v σ H Q=>to σ H fun o H1=>ti σ H1 fun i H2=>t o i v H2 fun H3=>Q σ H3
theorem Ek{o i:aY}{to ti:TE}{t:Ej}(ho:PE X o to)(hi:PE X i ti)(hs:Lq X t)
  (ha:∀v,u5 (.Subscript o i pos) X.env v=(do
   let ov←xC [v] (eval o X.env)
   let iv←xC [v,ov] (eval i X.env)
   Eh pos
   xC [v,ov,iv] (setItem ov iv v)
   release [v,ov,iv] []):=by intro _;rfl):PG X (.Subscript o i pos) (YQ to ti t):=by
 intro pins s σ H v u Q I r h;rw[ha];refine ay (r9 (aT (ho pins s σ H _ I h) fun ov s1 ⟨x,H1,I1,r1,q1⟩=>?_));refine ay (r9 (aT (hi pins s1 σ H1 _ I1 q1) fun iv s2 ⟨y,H2,I2,r2,q2⟩=>?_));refine ay (El (ay (r9 (aT (hs pins s2 σ H2 x y v ov iv u _ I2 r1 r2 r q2) fun _ s3 ⟨H3,I3,q3⟩=>?_))));exact wpAny_release ⟨σ,H3,I3,q3⟩
def AG(te:TE)(g:TG):TS:=fun D σ H=>te σ H fun x H1=>g x σ H1 D.nx
theorem Em{tg e:aY}{te:TE}{g:TG}(he:PE X e te)(hg:PG X tg g)(hs:swapsWithSole [tg] e pos.line X.env=pure false:=by rfl)(hw:swappedStores [tg] e X.env=pure none:=by rfl)
  (h1:(r8 [tg] X.env).map (·.2)=[u5 tg X.env]:=by rfl):PS X (.Assign [tg] e pos) (AG te g):=by
 intro pins s σ H D I h;refine wpAny_Assign_stores (aT (he pins s σ H _ I h) fun v s1 ⟨x,H1,I1,r1,q1⟩=>?_) hs hw;rw[h1];exact aT (hg pins s1 σ H1 x v _ I1 r1 q1) fun _ s2 q=>q
theorem YR{i:Nat}{x:Str}{e:aY}{te:TE}{pos':Pos}(hN:X.N.Nodup)(hi:X.N[i]?=some x)(hx:Loc X.env.scope x)(he:PE X e te)(hs:rZ e (some (.Name x pos')) pos.line X.env=pure false:=by rfl)(hf:X.fn x=true∨X.env.scope.names.lookup x=some .local:=by first|exact .inl rfl|exact .inr rfl|assumption):
  PS X (.Assign [.Name x pos'] e pos) (AG te (u6 i)):=by
 intro pins s σ H D I h;refine wpAny_Assign_Name (aT (he pins s σ H _ I h) fun v s1 ⟨y,H1,I1,r1,q1⟩=>?_) hs;exact Ef I1 hN hi hx r1 (fun s2 I2=>⟨_,H1,I2,q1⟩) hf
def Lv(i:Nat)(te:TE)(ti:xF):TS:=fun D σ H=>∃x,σ[i]?=some (some x)∧te σ H fun y H1=>ti x y H1 fun z H2=>D.nx (σ.set i (some z)) H2
theorem YS{i:Nat}{x:Str}{e:aY}{te:TE}{op:Lr}{ti:xF}{pos':Pos}(hN:X.N.Nodup)(hi:X.N[i]?=some x)(hx:Loc X.env.scope x)(he:PE X e te)(ho:AF X op ti)(hf:X.fn x=true∨X.env.scope.names.lookup x=some .local:=by first|exact .inl rfl|exact .inr rfl|assumption):
  PS X (.AugAssign (.Name x pos') op e pos) (Lv i te ti):=by
 intro pins s σ H D I h;obtain⟨v,e1,h⟩:=h;obtain⟨m,hn,hl⟩:=I.loc;have YT:p5 X.env.scope x:=by rcases hx with k|k;exact .inl k;exact .inr (.inl k)
 obtain⟨u,r,l⟩:=hl i x v hi e1 YT;refine wpAny_AugAssign_Name ?_;have go:aD (aP X.prog X.w) X.A (eval e X.env) (fun w s₂=>aD (aP X.prog X.w) X.A (inplaceOp op u w) (fun r s₃=>aD (aP X.prog X.w) X.A (Lf X.env x r) (fun _=>SP X pins D .next) X.xe s₃) X.xe s₂) X.xe s:=by
  refine aT (he pins s σ H _ I h) fun w s1 ⟨y,H1,I1,r1,q1⟩=>?_;refine aT (ho pins s1 σ H1 v y u w _ I1 r r1 q1) fun z s2 ⟨zv,H2,I2,r2,q2⟩=>?_;exact Ef I2 hN hi hx r2 (fun s3 I3=>⟨_,H2,I3,q2⟩) hf
 rcases l with⟨hk,hm⟩|⟨hk,c,hc,AB⟩
 ·exact Yo I.ok.kind hk hn hm go
 ·rcases hk with hk|hk
  ·exact Yp I.ok.kind hk hc AB go
  ·rcases hx with k|k
   ·have:X.env.scope.names.lookup x=some .free:=hk;rw[k]at this;cases this
   ·have:X.env.scope.names.lookup x=some .free:=hk;rw[k]at this;cases this
inductive Lw(f:Int→Int→Int)(x y:V)(H:Hp)(Q:VK):Prop|mk i j:x=.int i→y=.int j→Q (.int (f i j)) H→Lw f x y H Q
theorem u9:AF X .Add (Lw fun i j=>i+j):=by
 intro pins s σ H x y v u Q I r1 r2 h;obtain⟨i,j,e1,e2,q⟩:=h;subst e1;subst e2;obtain⟨t,rfl⟩:=r1;obtain⟨t',rfl⟩:=r2;exact iadd_int ⟨.int _,H,I.tok _,⟨_,rfl⟩,q⟩
theorem YU:AF X .Sub (Lw fun i j=>i-j):=by
 intro pins s σ H x y v u Q I r1 r2 h;obtain⟨i,j,e1,e2,q⟩:=h;subst e1;subst e2;obtain⟨t,rfl⟩:=r1;obtain⟨t',rfl⟩:=r2;exact isub_int ⟨.int _,H,I.tok _,⟨_,rfl⟩,q⟩
end
section
variable {X:Cx}{pos:Pos}
def Lx(c:TT)(tb:TS):TS:=fun D σ H=>∃W:Nat→St→Hp→Prop,(∃m,W m σ H)∧∀m σ H,W m σ H→
 c σ H fun b H1=>if b=true then ∃N:St→Hp→Prop,(∀σ' H',N σ' H'→∃m',m'<m∧W m' σ' H')∧tb {D with nx:=N,ct:=N,bk:=D.nx} σ H1 else D.nx σ H1
theorem AH(hp:PassesOwn (aP X.prog X.w) X.A X.env X.xe)(hc:PT X c tc)(hb:jy X body tb):PS X (.While c body [] pos) (Lx tc tb):=by
 intro pins s σ H D I h;obtain⟨W,⟨m0,w0⟩,turn⟩:=h;refine wpAny_While (codeAny_whileLoop (fun n s'=>∃σ' H',Inv X pins σ' H' s'∧W n σ' H') ?_ m0 ⟨σ,H,I,w0⟩);rintro n s1 ⟨σ1,H1,I1,w1⟩;refine u_ hp (aT (hc pins s1 σ1 H1 _ I1 (turn n σ1 H1 w1)) fun b s2 ⟨H2,I2,q2⟩=>?_);cases b with
 |true=>
  obtain⟨N,hN,q2⟩:=q2;rw[if_pos rfl];refine u_ hp (aT (hb pins s2 σ1 H2 _ I2 q2) fun f s3 q3=>?_);cases f with
  |next=>
   obtain⟨σ3,H3,I3,n3⟩:=q3;obtain⟨m',hm,w3⟩:=hN σ3 H3 n3;exact⟨m',hm,σ3,H3,I3,w3⟩
  |cont=>
   obtain⟨σ3,H3,I3,n3⟩:=q3;obtain⟨m',hm,w3⟩:=hN σ3 H3 n3;exact⟨m',hm,σ3,H3,I3,w3⟩
  |brk=>exact q3
  |ret v=>exact q3
 |false=>
  rw[if_neg cb];exact Ei ⟨σ1,H2,I2,q2⟩
end
structure It where
 go:Nat→Hp→Prop
 lE:Nat→Hp→V→Hp→Prop
 stop:Nat→Hp→Prop
def lG(X:Cx)(pins:List (ae×Obj))(H:Hp)(b:ae):Prop:=
 H b=none∧b≠X.env.locals∧b∉X.fs∧(b∈X.ex∨X.s_0.heap.objs.size≤b)∧(∀x c,X.env.cells.lookup x=some c→c≠b)∧∀p∈X.pn++pins,p.1≠b
theorem Inv.qc{σ:St}{b:ae}(I:Inv X pins σ H s)(hb:s.heap.objs.size≤b)(hn:H' b=none):lG X pins H' b:=by
 refine⟨hn,va (dG I.lt hb),I.Ye hb,.inr (dU I.sz hb),fun x c e z=>?_,fun p hp z=>?_⟩
 ·obtain⟨v,q⟩:=I.cell x c e;exact absurd (dG q.lt (by rw[z];exact hb)) (m3 _)
 ·exact absurd (dG (cN (I.pin p hp).1) (by rw[z];exact hb)) (m3 _)
structure Turn(P:cQ)(w:cD)(K:PySem.W.Frag)(tg:aY)(J:It)(fp:List ae)(it:ae)(tn:Nat→bU→Prop):Prop where
 mem:it∈fp
 obj:∀i h,tn i h→∀b∈fp,∃o,h.get? b=some o∧∀v,o.data≠.cell v
 keep:∀i h h',tn i h→(∀b∈fp,∀o,h.get? b=some o→h'.get? b=some o)→tn i h'
 item:∀(X:Cx),X.prog=P→X.w=w→X.K=K→X.calm=true→∀(i:Nat) (pins:List (ae×Obj)) (s:aS) (σ:St) (H:Hp) (E:aA→aS→Prop),Inv X pins σ H s→(∀b∈fp,lG X pins H b)→tn i s.heap→J.go i H→
  aD (aP P w) X.A (m8 (.ref it)) (fun r s1=>∃u,r=some u∧
   aD (aP P w) X.A (En tg (.ref it) u) (fun _ s2=>∃x H',Inv X pins σ H' s2∧RelV x u∧J.lE i H x H'∧tn (i+1) s2.heap∧∀b∈fp,H' b=none) E s1) E s
 done:∀(X:Cx),X.prog=P→X.w=w→X.K=K→X.calm=true→∀(i:Nat) (pins:List (ae×Obj)) (s:aS) (σ:St) (H:Hp) (E:aA→aS→Prop),Inv X pins σ H s→(∀b∈fp,lG X pins H b)→tn i s.heap→J.stop i H→
  aD (aP P w) X.A (m8 (.ref it)) (fun r s1=>r=none∧Inv X pins σ H s1) E s
 self:∀(A:eB) (i:Nat) (s:aS) (Q:aA→aS→Prop) (E:aA→aS→Prop),tn i s.heap→Q (.ref it) s→aD (aP P w) A (AI (.ref it)) Q E s
abbrev TI:=St→Hp→(It→Hp→Prop)→Prop
def Eo(X:Cx)(pins:List (ae×Obj))(σ:St)(tg:aY)(R:It→Hp→Prop)(Ep:aA)(s2:aS):Prop:=
 ∃(it:ae) (fp:List ae) (tn:Nat→bU→Prop) (J:It) (H':Hp),Ep=.ref it∧Inv X pins σ H' s2∧Turn X.prog X.w X.K tg J fp it tn∧tn 0 s2.heap∧(∀b∈fp,lG X pins H' b)∧R J H'
def PI(X:Cx)(tg iter:aY)(wi:TI):Prop:=
 ∀pins s (σ:St) H R,Inv X pins σ H s→wi σ H R→
  aD (aP X.prog X.w) X.A (eval iter X.env) (fun v s1=>aD (aP X.prog X.w) X.A (AI v) (Eo X pins σ tg R) X.xe s1) X.xe s
theorem r_(ho:s.heap.get? it=some o)(hc:o.cls=.type n)(hd:o.data=.fields vs)
  (hn:["enumerate","zip","dict_itemiterator","dict_reverseitemiterator","odict_iterator","itertools.zip_longest","itertools.pairwise"].contains n=false) (hQ:Q () s):aD M A (En tg (.ref it) u) Q E s:=by
 unfold En;cases tg <;>first
  |exact bc hQ
  |(cases u <;>first
    |exact bc hQ
    |(refine ay (wpAny_load ho ?_)
      rw[hc,hd];show aD M A (if(["enumerate","zip","dict_itemiterator","dict_reverseitemiterator","odict_iterator","itertools.zip_longest","itertools.pairwise"].contains n&&vs[0]?==some (kK _))=true then _ else _) Q E s;rw[if_neg (by intro h;rw[hn,i3]at h;cases h)];exact bc hQ))
def qd(K:PySem.W.Frag)(a:ae):It:=
 ⟨fun i H=>∃xs x,ai K H a xs∧xs[i]?=some x,fun i H x H'=>H'=H∧∀xs,ai K H a xs→xs[i]?=some x,fun i H=>∃xs,ai K H a xs∧xs.length≤i⟩
def m9(lo:Int)(n:Nat):It:=⟨fun i _=>i<n,fun i H x H'=>H'=H∧x=.int (lo+i),fun i _=>n≤i⟩
theorem YV{P:cQ}{w:cD}{K:PySem.W.Frag}{tg:aY}(a it:ae):Turn P w K tg (qd K a) [it] it (fun i h=>h.IsListIter it a i) where
 mem:=by simp
 obj:=fun i h st b hb=>by
  have e:b=it:=by simpa using hb
  subst e;obtain⟨o,e,c,d⟩:=st;exact⟨o,e,fun v z=>by rw[d]at z;cases z⟩
 keep:=fun i h h' st k=>st.at fun o e=>k it (by simp) o e
 item:=by
  intro X hP hw hK hc i pins s σ H E I hf st hg;subst hP hw hK;obtain⟨xs,x,hq,hx⟩:=hg;obtain⟨au,rv,p,hz⟩:=I.list hq;obtain⟨u,hu,ru⟩:=rv.get hx;obtain⟨f0,f1,f2,f3,f4,f5⟩:=hf it (by simp);refine wpAny_pyNext_list_item st p.isList (x:=u) (by simpa using hu) fun h' ci sb=>?_;have I1:Inv X pins σ H {s with heap:=h'}:=I.turned (t':=s.toks) (fun b o hb e=>(sb.2 b hb).trans e) f0 f1 f3 f4 f5;obtain⟨o,e,c,d⟩:=id ci;exact⟨u,rfl,r_ (s:={s with heap:=h'}) e c d (by decide) ⟨x,H,I1,ru,⟨rfl,fun ys hy=>by rw[I.u4 hy hq];exact hx⟩,ci,fun b hb=>(hf b hb).1⟩⟩
 done:=by
  intro X hP hw hK hc i pins s σ H E I hf st hg;subst hP hw hK;obtain⟨xs,hq,hx⟩:=hg;obtain⟨au,rv,p,hz⟩:=I.list hq;obtain⟨f0,f1,f2,f3,f4,f5⟩:=hf it (by simp);have hl:=rv.length;exact wpAny_pyNext_list_end (I.ok.hd hc) st p.isList (by simp;lia) fun h' eb=>⟨rfl,I.turned (t':=s.toks) (fun b o hb e=>eb b o hb e) f0 f1 f3 f4 f5⟩
 self:=fun _ _ _ _ _ st h=>wpAny_pyIter_listiter st h
theorem YW{P:cQ}{w:cD}{K:PySem.W.Frag}{tg:aY}(it:ae)(lo:Int)(n:Nat):Turn P w K tg (m9 lo n) [it] it (fun i h=>Er h it (lo+(i:Nat)*1) ((n:Int)-(i:Nat)) 1) where
 mem:=by simp
 obj:=fun i h st b hb=>by
  have e:b=it:=by simpa using hb
  subst e;exact⟨_,st,fun v z=>by
   have z':Data.fields _=Data.cell v:=z;cases z'⟩
 keep:=fun i h h' st k=>k it (by simp) _ st
 item:=by
  intro X hP hw hK hc i pins s σ H E I hf st hg;subst hP hw hK;obtain⟨f0,f1,f2,f3,f4,f5⟩:=hf it (by simp);have W:=YX (prog:=X.prog) (w:=X.w) (I.ok.hd hc) it lo 1 n;refine W.item i s _ _ hg st fun v h' tk hv ci kk=>?_;obtain⟨t,rfl⟩:=hv;have I1:Inv X pins σ H {s with heap:=h',toks:=tk}:=I.turned (fun b o hb e=>kk b o (by simpa using hb) e) f0 f1 f3 f4 f5;refine⟨_,rfl,r_ (s:={s with heap:=h',toks:=tk}) (n:="range_iterator") ci rfl rfl (by decide) ⟨.int (lo+i),H,I1,⟨t,?_⟩,⟨rfl,rfl⟩,ci,fun b hb=>(hf b hb).1⟩⟩;rw[Int.mul_one]
 done:=by
  intro X hP hw hK hc i pins s σ H E I hf st hg;subst hP hw hK;obtain⟨f0,f1,f2,f3,f4,f5⟩:=hf it (by simp);exact YY (I.ok.hd hc) st (by have:n≤i:=hg;lia) fun h' eb=>⟨rfl,I.turned (t':=s.toks) (fun b o hb e=>eb b o hb e) f0 f1 f3 f4 f5⟩
 self:=fun _ _ _ _ _ st h=>YZ st h
section
variable {X:Cx}{tg:aY}
inductive Y0_(K:PySem.W.Frag)(x:V)(H:Hp)(R:It→Hp→Prop):Prop|mk a:x=.ref a→(∃xs,ai K H a xs)→R (qd K a) H→Y0_ K x H R
def Y0(K:PySem.W.Frag)(tl:TE):TI:=fun σ H R=>tl σ H fun x H1=>Y0_ K x H1 R
theorem fL(hl:PE X l tl):PI X tg l (Y0 X.K tl):=by
 intro pins s σ H R I h;refine aT (hl pins s σ H _ I h) fun v s1 ⟨x,H1,I1,r1,q1⟩=>?_;obtain⟨a,e,⟨xs,hq⟩,q⟩:=q1;subst e;cases r1;obtain⟨au,rv,p,hz⟩:=I1.list hq;refine Ly p.isList ?_;refine⟨s1.heap.objs.size,[s1.heap.objs.size],_,_,H1,rfl,I1.kept (t':=s1.toks) fun b o e=>dW _ e,YV a _,⟨_,eP _ rfl,rfl,rfl⟩,fun b hb=>?_,q⟩;have e:b=s1.heap.objs.size:=by simpa using hb
 subst e;exact I1.qc (a9 _) (I1.aU.fresh (a9 _))
theorem Lz{σ:St}{lo hi:Int}(I:Inv X pins σ H s)(h1: -(2^62)≤lo)(h2:lo<2^62)(h3: -(2^62)≤hi)(h4:hi<2^62)
  (q:R (m9 lo (hi-lo).toNat) H):aD (aP X.prog X.w) X.A (AI (.ref s.heap.objs.size)) (Eo X pins σ tg R) E {s with heap:=s.heap.push {cls:=.type "range",data:=.fields #[.int lo t,.int hi u,.int 1 v]},toks:=tk}:=by
 refine Y1 (Y2 ..) (small_one h1 h2 h3 h4) ?_;have I1:Inv X pins σ H {s with heap:=s.heap.push {cls:=.type "range",data:=.fields #[.int lo t,.int hi u,.int 1 v]},toks:=tk}:=I.kept fun b o e=>dW _ e;refine⟨(s.heap.push {cls:=.type "range",data:=.fields #[.int lo t,.int hi u,.int 1 v]}).objs.size,[(s.heap.push {cls:=.type "range",data:=.fields #[.int lo t,.int hi u,.int 1 v]}).objs.size],_,_,H,rfl,
  I1.kept (t':=tk) fun b o e=>dW _ e,YW _ lo (hi-lo).toNat,?_,fun b hb=>?_,q⟩
 ·have e1:lo+((0:Nat):Int)*1=lo:=by simp
  have e2:(((hi-lo).toNat:Nat):Int)-((0:Nat):Int)=Es lo hi 1:=by rw[rangeSize_one];split <;>lia
  show Er _ _ (lo+((0:Nat):Int)*1) ((((hi-lo).toNat:Nat):Int)-((0:Nat):Int)) 1;rw[e1,e2];exact eP _ rfl
 ·have e:b=(s.heap.push {cls:=.type "range",data:=.fields #[.int lo t,.int hi u,.int 1 v]}).objs.size:=by simpa using hb
  subst e;exact I1.qc (a9 _) (I1.aU.fresh (a9 _))
inductive Y3_(vs:List V)(H:Hp)(R:It→Hp→Prop):Prop|mk (j:Int):vs=[.int j]→ -(2^62)≤j→j<2^62→R (m9 0 j.toNat) H→Y3_ vs H R
def Y3(ta:TA):TI:=fun σ H R=>ta σ H fun vs H1=>Y3_ vs H1 R
inductive Y4_(vs:List V)(H:Hp)(R:It→Hp→Prop):Prop|mk (i j:Int):vs=[.int i,.int j]→(-(2^62)≤i∧i<2^62∧ -(2^62)≤j∧j<2^62)→R (m9 i (j-i).toNat) H→Y4_ vs H R
def Y4(ta:TA):TI:=fun σ H R=>ta σ H fun vs H1=>Y4_ vs H1 R
theorem qe{a:aY}{ta:TA}{p pos:Pos}(hg:Gl X "range")(hm:X.mg "range"=none)(ha:PA X [a] ta)(hs:bo [a] X.env=[(false,eval a X.env)]:=by rfl):PI X tg (.Call (.Name "range" p) [a] [] pos) (Y3 ta):=by
 intro pins s σ H R I h;refine sd (m6 I hg hm LB (qf (aT (ha pos pins s σ H _ I h) fun us s1 ⟨vs,H1,I1,r1,q1⟩=>?_) hs rfl));obtain⟨j,e,q1,q2,q⟩:=q1;subst e;cases r1 with
 |cons r rr=>
  cases rr;obtain⟨t,rfl⟩:=r;exact call_range_1 (Lz I1 (by lia) (by lia) q1 q2 (by simpa using q))
theorem Y5{a b:aY}{ta:TA}{p pos:Pos}(hg:Gl X "range")(hm:X.mg "range"=none)(ha:PA X [a,b] ta)(hs:bo [a,b] X.env=[(false,eval a X.env),(false,eval b X.env)]:=by rfl)(se:bo [b] X.env=[(false,eval b X.env)]:=by rfl):
  PI X tg (.Call (.Name "range" p) [a,b] [] pos) (Y4 ta):=by
 intro pins s σ H R I h;refine sd (m6 I hg hm LB (qf (aT (ha pos pins s σ H _ I h) fun us s1 ⟨vs,H1,I1,r1,q1⟩=>?_) (by rw[hs,se]) (by rw[se];rfl)));obtain⟨i,j,e,⟨q1,q2,q3,q4⟩,q⟩:=q1;subst e;cases r1 with
 |cons r rr=>
  cases rr with
  |cons r' rr=>
   cases rr;obtain⟨t,rfl⟩:=r;obtain⟨t',rfl⟩:=r';exact call_range_2 (Lz I1 q1 q2 q3 q4 q)
def Y6(wi:TI)(g:TG)(tb:TS):TS:=fun D σ H=>wi σ H fun J H1=>∃W:Nat→Nat→St→Hp→Prop,(∃m,W 0 m σ H1)∧∀i m σ H,W i m σ H→
 (J.stop i H∧D.nx σ H)∨(J.go i H∧∃N:St→Hp→Prop,(∀σ' H',N σ' H'→∃m',m'<m∧W (i+1) m' σ' H')∧∀x H',J.lE i H x H'→g x σ H' fun σ2 H2=>tb {D with nx:=N,ct:=N,bk:=D.nx} σ2 H2)
def xG(fp:List ae)(h:bU):List (ae×Obj):=fp.filterMap fun b=>(h.get? b).map fun o=>(b,o)
theorem Et(hb:b∈fp)(e:h.get? b=some o):(b,o)∈xG fp h:=AJ.mpr ⟨b,hb,by rw[e];rfl⟩
theorem Y7(hp:p∈xG fp h):p.1∈fp∧h.get? p.1=some p.2:=by
 obtain⟨b,hb,e⟩:=AJ.mp hp;cases q:h.get? b with
 |none=>rw[q]at e;cases e
 |some o=>
  rw[q]at e;have e':(b,o)=p:=bS e;subst e';exact⟨hb,q⟩
theorem Inv.pinned{σ:St}(I:Inv X pins σ H s)(hf:∀b∈fp,lG X pins H b)(ho:∀b∈fp,∃o,s.heap.get? b=some o∧∀v,o.data≠.cell v):Inv X (pins++xG fp s.heap) σ H s:=
 I.Lc fun p hp=>(e_.mp hp).elim (fun z=>I.pin p (sh _ z)) fun z=>by
  obtain⟨hb,e⟩:=Y7 z;obtain⟨f0,f1,f2,_⟩:=hf p.1 hb;obtain⟨o,e',d⟩:=ho p.1 hb;rw[e]at e';cases e';exact⟨e,f0,f1,f2,d⟩
theorem Inv.AK{σ:St}(I:Inv X (pins++pl) σ H s):Inv X pins σ H s:=I.Lc fun p hp=>I.pin p (sh _ (Yi _ hp))
theorem eV{iter:aY}{body:List aK}{wi:TI}{g:TG}{tb:TS}{pos:Pos}(hp:PassesOwn (aP X.prog X.w) X.A X.env X.xe)(hc:X.calm=true)(hi:PI X tg iter wi)(hg:PG X tg g)(hb:jy X body tb)
  (hs:∀x,Eu iter X.env x=pure x:=by intro _;rfl):PS X (.For tg iter body [] pos) (Y6 wi g tb):=by
 intro pins s σ H D I h;refine wpAny_For (aT (hi pins s σ H _ I h) fun v s1 h1=>aT h1 fun Ep s2 h2=>?_) hs;obtain⟨it,fp,tn,J,H2,e,I2,T,fM,f2,W,⟨m0,w0⟩,turn⟩:=h2;subst e;have si:∀{H':Hp},(∀b∈fp,H' b=none)→∀b∈fp,lG X pins H' b:=fun hn b hb=>⟨hn b hb,(f2 b hb).2⟩
 refine codeAny_forLoop_any (fun n s'=>∃i σ' H',Inv X pins σ' H' s'∧tn i s'.heap∧(∀b∈fp,H' b=none)∧W i n σ' H') ?_ m0 ⟨0,σ,H2,I2,fM,fun b hb=>(f2 b hb).1,w0⟩;rintro n s3 ⟨i,σ3,H3,I3,AL,sj,w3⟩;rcases turn i n σ3 H3 w3 with⟨stop,qn⟩|⟨go,N,hN,step⟩
 ·refine u_ hp (aT (T.done X rfl rfl rfl hc i pins s3 σ3 H3 X.xe I3 (si sj) AL stop) fun r s4 ⟨hr,I4⟩=>?_);subst hr;exact Ei ⟨σ3,H3,I4,qn⟩
 ·refine u_ hp (aT (T.item X rfl rfl rfl hc i pins s3 σ3 H3 X.xe I3 (si sj) AL go) fun r s4 ⟨u,hr,h4⟩=>?_);subst hr;refine u_ hp (aT h4 fun _ s5 ⟨x,H5,I5,r5,y5,vd,xH⟩=>?_);have Y8:=I5.pinned (si xH) (T.obj _ _ vd);refine u_ hp (aT (hg _ s5 σ3 H5 x u _ Y8 r5 (step x H5 y5)) fun _ s6 ⟨σ6,H6,I6,q6⟩=>?_);refine u_ hp (aT (hb _ s6 σ6 H6 _ I6 q6) fun f s7 q7=>?_);have again:∀{σ7:St}{H7:Hp},Inv X (pins++xG fp s5.heap) σ7 H7 s7→N σ7 H7→∃m,m<n∧∃i σ' H',Inv X pins σ' H' s7∧tn i s7.heap∧(∀b∈fp,H' b=none)∧W i m σ' H':=fun{σ7 H7} I7 n7=>by
   obtain⟨m',hm,w7⟩:=hN σ7 H7 n7;refine⟨m',hm,i+1,σ7,H7,I7.AK,T.keep _ _ _ vd fun b hb o e=>(I7.pin (b,o) (sh _ (sh _ (Et hb e)))).1,fun b hb=>?_,w7⟩;obtain⟨o,e,d⟩:=T.obj _ _ vd b hb;exact(I7.pin (b,o) (sh _ (sh _ (Et hb e)))).2.1
  cases f with
  |next=>obtain⟨σ7,H7,I7,n7⟩:=q7;exact again I7 n7
  |cont=>obtain⟨σ7,H7,I7,n7⟩:=q7;exact again I7 n7
  |brk=>obtain⟨σ7,H7,I7,q7⟩:=q7;exact⟨σ7,H7,I7.AK,q7⟩
  |ret v=>obtain⟨x7,σ7,H7,I7,r7,q7⟩:=q7;exact⟨x7,σ7,H7,I7.AK,r7,q7⟩
end
theorem kL{K:PySem.W.Frag}{g:TG}{tb:TS}{D:Ends}(Pv:Nat→St→Hp→Prop)(h0:Pv 0 σ H)(hl:∀i σ H,i≤xs.length→Pv i σ H→ai K H a xs)
  (hs:∀i x σ H,xs[i]?=some x→Pv i σ H→g x σ H fun σ2 H2=>tb {D with nx:=Pv (i+1),ct:=Pv (i+1),bk:=D.nx} σ2 H2) (hd:∀σ H,Pv xs.length σ H→D.nx σ H):
  ∃W:Nat→Nat→St→Hp→Prop,(∃m,W 0 m σ H)∧∀i m σ H,W i m σ H→
   ((qd K a).stop i H∧D.nx σ H)∨((qd K a).go i H∧∃N:St→Hp→Prop,(∀σ' H',N σ' H'→∃m',m'<m∧W (i+1) m' σ' H')∧∀x H',(qd K a).lE i H x H'→g x σ H' fun σ2 H2=>tb {D with nx:=N,ct:=N,bk:=D.nx} σ2 H2):=by
 refine⟨fun i m σ H=>m=xs.length-i∧i≤xs.length∧Pv i σ H,⟨xs.length,by simp,bu _,h0⟩,?_⟩;rintro i m σ H ⟨rfl,hi,p⟩;have q:=hl i σ H hi p;by_cases cW:i<xs.length
 ·refine .inr ⟨⟨xs,xs[i],q,by simp[cW]⟩,Pv (i+1),fun σ' H' p'=>⟨xs.length-(i+1),by lia,rfl,cW,p'⟩,fun x H' y=>?_⟩;obtain⟨e,y⟩:=y;subst e;exact hs i x σ _ (y xs q) p
 ·have e:i=xs.length:=by lia
  subst e;exact .inl ⟨⟨xs,q,a9 _⟩,hd σ H p⟩
theorem ve{lo:Int}{g:TG}{tb:TS}{D:Ends}(Pv:Nat→St→Hp→Prop)(h0:Pv 0 σ H)
  (hs:∀i σ H,i<n→Pv i σ H→g (.int (lo+i)) σ H fun σ2 H2=>tb {D with nx:=Pv (i+1),ct:=Pv (i+1),bk:=D.nx} σ2 H2) (hd:∀σ H,Pv n σ H→D.nx σ H):
  ∃W:Nat→Nat→St→Hp→Prop,(∃m,W 0 m σ H)∧∀i m σ H,W i m σ H→
   ((m9 lo n).stop i H∧D.nx σ H)∨((m9 lo n).go i H∧∃N:St→Hp→Prop,(∀σ' H',N σ' H'→∃m',m'<m∧W (i+1) m' σ' H')∧∀x H',(m9 lo n).lE i H x H'→g x σ H' fun σ2 H2=>tb {D with nx:=N,ct:=N,bk:=D.nx} σ2 H2):=by
 refine⟨fun i m σ H=>m=n-i∧i≤n∧Pv i σ H,⟨n,by simp,bu _,h0⟩,?_⟩;rintro i m σ H ⟨rfl,hi,p⟩;by_cases cW:i<n
 ·refine .inr ⟨cW,Pv (i+1),fun σ' H' p'=>⟨n-(i+1),by lia,rfl,cW,p'⟩,fun x H' y=>?_⟩;obtain⟨e,y⟩:=y;subst e y;exact hs i σ _ cW p
 ·have e:i=n:=by lia
  subst e;exact .inl ⟨a9 _,hd σ H p⟩
theorem Y9(Pv:St→Hp→Prop)(μ:St→Hp→Nat)(h0:Pv σ H)
  (hs:∀σ H,Pv σ H→c σ H fun b H1=>if b=true then tb {D with nx:=fun σ' H'=>Pv σ' H'∧μ σ' H'<μ σ H,ct:=fun σ' H'=>Pv σ' H'∧μ σ' H'<μ σ H,bk:=D.nx} σ H1 else D.nx σ H1)
  (mono:∀σ H Q Q',(∀b H1,Q b H1→Q' b H1)→c σ H Q→c σ H Q'):Lx c tb D σ H:=by
 refine⟨fun m σ H=>m=μ σ H∧Pv σ H,⟨_,rfl,h0⟩,?_⟩;rintro m σ H ⟨rfl,p⟩;refine mono σ H _ _ (fun b H1 q=>?_) (hs σ H p);cases b with
 |true=>exact⟨_,fun σ' H' ⟨p',l⟩=>⟨_,l,rfl,p'⟩,q⟩
 |false=>exact q
abbrev R2:=V→V→Hp→VK→Prop
def eQ(X:Cx)(f:aA→aA→Sem aA)(r:R2):Prop:=
 ∀pins s (σ:St) H x y v u Q,Inv X pins σ H s→RelV x v→RelV y u→r x y H Q→
  aD (aP X.prog X.w) X.A (f v u) (EP X pins σ Q) X.xe s
def Ew(X:Cx)(f:aA→Sem aA)(r:V→Hp→VK→Prop):Prop:=
 ∀pins s (σ:St) H x v Q,Inv X pins σ H s→RelV x v→r x H Q→
  aD (aP X.prog X.w) X.A (f v) (EP X pins σ Q) X.xe s
def jY(X:Cx)(f:aA)(r:List V→Hp→VK→Prop):Prop:=
 ∀pins s (σ:St) H xs us Q,Inv X pins σ H s→a7 xs us→r xs H Q→
  aD (aP X.prog X.w) X.A (call f us) (EP X pins σ Q) X.xe s
def sk(r:R2)(ta tb:TE):TE:=fun σ H Q=>ta σ H fun x H1=>tb σ H1 fun y H2=>r x y H2 Q
def Y_(r:V→Hp→VK→Prop)(ta:TE):TE:=fun σ H Q=>ta σ H fun x H1=>r x H1 Q
inductive rI(C:Int→Int→Prop)(g:Int→Int→V)(x y:V)(H:Hp)(Q:VK):Prop
 |mk:∀i j,x=.int i→y=.int j→C i j→Q (g i j) H→rI C g x y H Q
inductive m_(g:Int→Int→V)(x y:V)(H:Hp)(Q:VK):Prop
 |mk:∀i j,x=.int i→y=.int j→Q (g i j) H→m_ g x y H Q
def rU(g:Int→V):V→Hp→VK→Prop:=fun x H Q=>∃i,x=.int i∧Q (g i) H
section
variable {X:Cx}{a b c:aY}{ta tb tc:TE}{pos:Pos}
theorem Ex(ha:PE X a ta)(hb:PE X b tb){σ:St}{R:V→V→Hp→Prop}(I:Inv X pins σ H s)
  (h:ta σ H fun x H1=>tb σ H1 fun y H2=>R x y H2) {f:aA→aA→Sem aA}
  (hf:∀v u s2 x y H2,Inv X pins σ H2 s2→RelV x v→RelV y u→R x y H2→aD (aP X.prog X.w) X.A (f v u) Q X.xe s2):
  aD (aP X.prog X.w) X.A (eval a X.env) (fun v s₁=>aD (aP X.prog X.w) X.A (eval b X.env) (fun u s₂=>aD (aP X.prog X.w) X.A (f v u) Q X.xe s₂) X.xe s₁) X.xe s:=by
 refine aT (ha pins s σ H _ I h) fun v s1 ⟨x,H1,I1,r1,q1⟩=>?_;refine aT (hb pins s1 σ H1 _ I1 q1) fun u s2 ⟨y,H2,I2,r2,q2⟩=>?_;exact hf v u s2 x y H2 I2 r1 r2 q2
theorem br(ho:eQ X (sr op) r)(ha:PE X a ta)(hb:PE X b tb):PE X (.BinOp a op b pos) (sk r ta tb):=by
 intro pins s σ H Q I h;exact wpAny_BinOp (Ex ha hb I h fun v u s2 x y H2 I2 rx ry q=>ho pins s2 σ H2 x y v u Q I2 rx ry q)
theorem jZ(ho:Ew X (unaryOp op) r)(ha:PE X a ta):PE X (.UnaryOp op a pos) (Y_ r ta):=by
 intro pins s σ H Q I h;exact UnaryOp_ (aT (ha pins s σ H _ I h) fun v s1 ⟨x,H1,I1,r1,q1⟩=>ho pins s1 σ H1 x v Q I1 r1 q1)
theorem Za{g:Int→Int→Int}
  (rule:∀i j t u s Q E,C i j→Q (.int (g i j) s.toks) {s with toks:=s.toks+1}→aD (aP X.prog X.w) X.A (f (.int i t) (.int j u)) Q E s):
  eQ X f (rI C fun i j=>.int (g i j)):=by
 intro pins s σ H x y v u Q I rx ry h;obtain⟨i,j,rfl,rfl,hc,q⟩:=h;obtain⟨t,rfl⟩:=rx;obtain⟨t',rfl⟩:=ry;exact rule i j t t' s _ _ hc ⟨.int (g i j),H,I.tok _,⟨_,rfl⟩,q⟩
theorem Ey{g:Int→Int→Int}
  (rule:∀i j t u s Q E,Q (.int (g i j) s.toks) {s with toks:=s.toks+1}→aD (aP X.prog X.w) X.A (f (.int i t) (.int j u)) Q E s):
  eQ X f (m_ fun i j=>.int (g i j)):=by
 intro pins s σ H x y v u Q I rx ry h;obtain⟨i,j,rfl,rfl,q⟩:=h;obtain⟨t,rfl⟩:=rx;obtain⟨t',rfl⟩:=ry;exact rule i j t t' s _ _ ⟨.int (g i j),H,I.tok _,⟨_,rfl⟩,q⟩
theorem AM{g:Int→Int→Bool}
  (rule:∀i j t u s Q E,Q (.bool (g i j)) s→aD (aP X.prog X.w) X.A (f (.int i t) (.int j u)) Q E s):
  eQ X f (m_ fun i j=>.bl (g i j)):=by
 intro pins s σ H x y v u Q I rx ry h;obtain⟨i,j,rfl,rfl,q⟩:=h;obtain⟨t,rfl⟩:=rx;obtain⟨t',rfl⟩:=ry;exact rule i j t t' s _ _ ⟨.bl (g i j),H,I,rfl,q⟩
theorem dX:eQ X (sr .Add) (m_ fun i j=>.int (i+j)):=Ey fun _ _ _ _ _ _ _ q=>add_int q
theorem iu:eQ X (sr .Sub) (m_ fun i j=>.int (i-j)):=Ey fun _ _ _ _ _ _ _ q=>sub_int q
theorem Zb:eQ X (sr .Mod) (rI (fun _ j=>0<j) fun i j=>.int (i%j)):=Za fun i j _ _ _ _ _ hc q=>by
 have h1:(0:Int)<j:=hc;exact mod_int' (by lia) (by rw[Int.fmod_eq_emod_of_nonneg i (by lia)];exact q)
theorem qg:eQ X (sr .BitAnd) (m_ fun i j=>.int (oC i j)):=Ey fun _ _ _ _ _ _ _ q=>and_int q
theorem Zc{g:Int→Int}
  (rule:∀i t s Q E,Q (.int (g i) s.toks) {s with toks:=s.toks+1}→aD (aP X.prog X.w) X.A (f (.int i t)) Q E s):
  Ew X f (rU fun i=>.int (g i)):=by
 intro pins s σ H x v Q I rx h;obtain⟨i,rfl,q⟩:=h;obtain⟨t,rfl⟩:=rx;exact rule i t s _ _ ⟨.int (g i),H,I.tok _,⟨_,rfl⟩,q⟩
theorem j0:Ew X (unaryOp .USub) (rU fun i=>.int (-i)):=Zc fun _ _ _ _ _ q=>neg_int q
end
def LC:V→V→Bool
 | .aC,.aC=>true| .aC,.int _=>true| .int _,.aC=>true| .aC,.bl _=>true| .bl _,.aC=>true| .aC,.str _=>true| .str _,.aC=>true
 | .int _,.int _=>true| .bl _,.bl _=>true| .str _,.str _=>true| .iY _,.iY _=>true
 | .int _,.str _=>true| .str _,.int _=>true| .bl _,.str _=>true| .str _,.bl _=>true
 |_,_=>false
def Zd:R2:=fun x y H Q=>LC x y=true∧Q (.bl (decide (x=y))) H
def Ze:R2:=fun x y H Q=>LC x y=true∧Q (.bl (!decide (x=y))) H
theorem LD:decide (V.int i=V.int j)=(i==j):=by
 rw[iJ];simp
theorem LF:decide (V.bl i=V.bl j)=(i==j):=by
 rw[iJ];simp
theorem LG:decide (V.str i=V.str j)=(i==j):=by
 rw[iJ];simp
theorem LH:decide (V.iY i=V.iY j)=(i.toList==j.toList):=by
 rw[iJ];cases i;cases j;simp
section
variable {X:Cx}{a b c:aY}{ta tb tc:TE}{pos:Pos}
theorem dY{σ:St}(I:Inv X pins σ H s)(q:Q (.bl k) H)(e:k=k'):EP X pins σ Q (.bool k') s:=by
 subst e;exact⟨.bl k,H,I,rfl,q⟩
theorem cO:eQ X (gy .Eq) Zd:=by
 intro pins s σ H x y v u Q I rx ry h;obtain⟨hs,q⟩:=h;cases x with
 |aC=>
  cases rx;cases y with
  |aC=>cases ry;exact PySem.EqNone.eq_none_none (dY I q (by simp))
  |bl j=>cases ry;exact PySem.EqNone.eq_none_bool (dY I q (by simp))
  |int j=>obtain⟨t',rfl⟩:=ry;exact PySem.EqNone.eq_none_int (dY I q (by simp))
  |str j=>obtain⟨t',rfl⟩:=ry;exact PySem.EqNone.eq_none_str (dY I q (by simp))
  |_=>exact absurd (show false=true from hs) cb
 |bl i=>
  cases rx;cases y with
  |aC=>cases ry;exact PySem.EqNone.eq_bool_none (dY I q (by simp))
  |bl j=>cases ry;exact eq_bool (dY I q LF)
  |str j=>obtain⟨t',rfl⟩:=ry;exact PySem.EqMixed.eq_bool_str (dY I q (by simp))
  |_=>exact absurd (show false=true from hs) cb
 |int i=>
  obtain⟨t,rfl⟩:=rx;cases y with
  |aC=>cases ry;exact PySem.EqNone.eq_int_none (dY I q (by simp))
  |int j=>obtain⟨t',rfl⟩:=ry;exact eq_int (dY I q LD)
  |str j=>obtain⟨t',rfl⟩:=ry;exact PySem.EqMixed.eq_int_str (dY I q (by simp))
  |_=>exact absurd (show false=true from hs) cb
 |str i=>
  obtain⟨t,rfl⟩:=rx;cases y with
  |aC=>cases ry;exact PySem.EqNone.eq_str_none (dY I q (by simp))
  |bl j=>cases ry;exact PySem.EqMixed.eq_str_bool (dY I q (by simp))
  |int j=>obtain⟨t',rfl⟩:=ry;exact PySem.EqMixed.eq_str_int (dY I q (by simp))
  |str j=>obtain⟨t',rfl⟩:=ry;exact eq_str (dY I q LG)
  |_=>exact absurd (show false=true from hs) cb
 |iY i=>
  obtain⟨t,rfl⟩:=rx;cases y with
  |iY j=>obtain⟨t',rfl⟩:=ry;exact PySem.W.eq_bytes (dY I q LH)
  |_=>exact absurd (show false=true from hs) cb
 |_=>cases y <;>exact absurd (show false=true from hs) cb
theorem kM:eQ X (gy .NotEq) Ze:=by
 intro pins s σ H x y v u Q I rx ry h;obtain⟨hs,q⟩:=h;cases x with
 |aC=>
  cases rx;cases y with
  |aC=>cases ry;exact PySem.EqNone.ne_none_none (dY I q (by simp))
  |bl j=>cases ry;exact PySem.EqNone.ne_none_bool (dY I q (by simp))
  |int j=>obtain⟨t',rfl⟩:=ry;exact PySem.EqNone.ne_none_int (dY I q (by simp))
  |str j=>obtain⟨t',rfl⟩:=ry;exact PySem.EqNone.ne_none_str (dY I q (by simp))
  |_=>exact absurd (show false=true from hs) cb
 |bl i=>
  cases rx;cases y with
  |aC=>cases ry;exact PySem.EqNone.ne_bool_none (dY I q (by simp))
  |bl j=>cases ry;exact ne_bool (dY I q (congrArg not LF))
  |str j=>obtain⟨t',rfl⟩:=ry;exact PySem.EqMixed.ne_bool_str (dY I q (by simp))
  |_=>exact absurd (show false=true from hs) cb
 |int i=>
  obtain⟨t,rfl⟩:=rx;cases y with
  |aC=>cases ry;exact PySem.EqNone.ne_int_none (dY I q (by simp))
  |int j=>obtain⟨t',rfl⟩:=ry;exact ne_int (dY I q (congrArg not LD))
  |str j=>obtain⟨t',rfl⟩:=ry;exact PySem.EqMixed.ne_int_str (dY I q (by simp))
  |_=>exact absurd (show false=true from hs) cb
 |str i=>
  obtain⟨t,rfl⟩:=rx;cases y with
  |aC=>cases ry;exact PySem.EqNone.ne_str_none (dY I q (by simp))
  |bl j=>cases ry;exact PySem.EqMixed.ne_str_bool (dY I q (by simp))
  |int j=>obtain⟨t',rfl⟩:=ry;exact PySem.EqMixed.ne_str_int (dY I q (by simp))
  |str j=>obtain⟨t',rfl⟩:=ry;exact ne_str (dY I q (congrArg not LG))
  |_=>exact absurd (show false=true from hs) cb
 |iY i=>
  obtain⟨t,rfl⟩:=rx;cases y with
  |iY j=>obtain⟨t',rfl⟩:=ry;exact PySem.W.ne_bytes (dY I q (congrArg not LH))
  |_=>exact absurd (show false=true from hs) cb
 |_=>cases y <;>exact absurd (show false=true from hs) cb
theorem jz:eQ X (gy .Lt) (m_ fun i j=>.bl (decide (i<j))):=AM fun _ _ _ _ _ _ _ q=>lt_int q
theorem qh:eQ X (gy .LtE) (m_ fun i j=>.bl (decide (i≤j))):=AM fun _ _ _ _ _ _ _ q=>le_int q
theorem kN:eQ X (gy .Gt) (m_ fun i j=>.bl (decide (j<i))):=AM fun _ _ _ _ _ _ _ q=>gt_int q
theorem xI:eQ X (gy .GtE) (m_ fun i j=>.bl (decide (j≤i))):=AM fun _ _ _ _ _ _ _ q=>ge_int q
theorem de:eQ X (gy .Is) (fun x y H Q=>y=.aC∧Q (.bl (decide (x=.aC))) H):=by
 intro pins s σ H x y v u Q I rx ry h;obtain⟨rfl,q⟩:=h;cases ry;refine is_none_gen (dY I q ?_);cases x <;>first
  |(cases rx;rfl)
  |(obtain⟨t,rfl⟩:=rx;rfl)
theorem xJ:eQ X (gy .IsNot) (fun x y H Q=>y=.aC∧Q (.bl (!decide (x=.aC))) H):=by
 intro pins s σ H x y v u Q I rx ry h;obtain⟨rfl,q⟩:=h;cases ry;refine isnot_none_gen (dY I q ?_);cases x <;>first
  |(cases rx;rfl)
  |(obtain⟨t,rfl⟩:=rx;rfl)
theorem LI(b:aY){op:uY}(h:op≠.In:=by decide)(h2:op≠.NotIn:=by decide):xB op b=false:=by
 have e1:(op==CmpOp.In)=false:=by cases op <;>first|rfl|exact absurd rfl h
 have e2:(op==CmpOp.NotIn)=false:=by cases op <;>first|rfl|exact absurd rfl h2
 cases b <;>simp[xB,e1,e2]
theorem LJ(ho:eQ X (gy op) r)(ha:PE X a ta)(hb:PE X b tb)(hm:xB op b=false):PE X (.Compare a [op] [b] pos) (sk r ta tb):=by
 intro pins s σ H Q I h;exact Ys (Ex ha hb I h fun v u s2 x y H2 I2 rx ry q=>ho pins s2 σ H2 x y v u Q I2 rx ry q) hm
def Ez(t:TE):TT:=fun σ H Q=>t σ H fun x H'=>Bq_ x H' Q
theorem oE(ho:eQ X (gy op) r)(ha:PE X a ta)(hb:PE X b tb)(hm:xB op b=false):PT X (.Compare a [op] [b] pos) (Ez (sk r ta tb)):=by
 intro pins s σ H Q I h;refine Yt (aT (ha pins s σ H _ I h) fun v s1 ⟨x,H1,I1,r1,q1⟩=>aT (hb pins s1 σ H1 _ I1 q1) fun u s2 ⟨y,H2,I2,r2,q2⟩=>
  aT (ho pins s2 σ H2 x y v u _ I2 r1 r2 q2) fun c s3 ⟨z,H3,I3,r3,k,e,q3⟩=>?_) hm
 subst e;cases r3;exact p_ ⟨H3,I3,q3⟩
def LK(r r':R2)(ta tb tc:TE):TE:=fun σ H Q=>ta σ H fun x H1=>tb σ H1 fun y H2=>r x y H2 fun z H3=>∃k,z=.bl k∧
 (if k=true then tc σ H3 fun w' H4=>r' y w' H4 Q else Q (.bl false) H3)
theorem Zf{op su:uY}{r r':R2}(ho:eQ X (gy op) r)(jU:eQ X (gy su) r')(ha:PE X a ta)(hb:PE X b tb)(hc:PE X c tc)
  (hm:lastMarks [op,su] [b,c]=false:=by with_unfolding_all rfl):PE X (.Compare a [op,su] [b,c] pos) (LK r r' ta tb tc):=by
 intro pins s σ H Q I h;refine Compare_chain (aT (ha pins s σ H _ I h) fun v s1 ⟨x,H1,I1,r1,q1⟩=>chain_link (aT (hb pins s1 σ H1 _ I1 q1) fun u s2 ⟨y,H2,I2,r2,q2⟩=>
  aT (ho pins s2 σ H2 x y v u _ I2 r1 r2 q2) fun d s3 ⟨z,H3,I3,r3,k,e,q3⟩=>?_)) hm
 subst e;cases r3;refine p_ ?_;cases k with
 |false=>exact ite_ff ⟨.bl false,H3,I3,rfl,q3⟩
 |true=>exact ite_tt (chain_last (aT (hc pins s3 σ H3 _ I3 q3) fun w' s4 ⟨z',H4,I4,r4,q4⟩=>jU pins s4 σ H4 y z' u w' Q I4 r2 r4 q4))
theorem LL{op su:uY}{r r':R2}(ho:eQ X (gy op) r)(jU:eQ X (gy su) r')(ha:PE X a ta)(hb:PE X b tb)(hc:PE X c tc)
  (hm:lastMarks [op,su] [b,c]=false:=by with_unfolding_all rfl):PT X (.Compare a [op,su] [b,c] pos) (Ez (LK r r' ta tb tc)):=by
 intro pins s σ H Q I h;refine isTrue_chain (aT (ha pins s σ H _ I h) fun v s1 ⟨x,H1,I1,r1,q1⟩=>test_link (aT (hb pins s1 σ H1 _ I1 q1) fun u s2 ⟨y,H2,I2,r2,q2⟩=>
  aT (ho pins s2 σ H2 x y v u _ I2 r1 r2 q2) fun d s3 ⟨z,H3,I3,r3,k,e,q3⟩=>?_)) hm
 subst e;cases r3;refine p_ ?_;cases k with
 |false=>
  obtain⟨k',e',q'⟩:=q3;cases e';exact ite_ff ⟨H3,I3,q'⟩
 |true=>
  refine ite_tt (test_last (aT (hc pins s3 σ H3 _ I3 q3) fun w' s4 ⟨z',H4,I4,r4,q4⟩=>aT (jU pins s4 σ H4 y z' u w' _ I4 r2 r4 q4) fun d' s5 ⟨z2,H5,I5,r5,k2,e2,q5⟩=>?_));subst e2;cases r5;exact p_ ⟨H5,I5,q5⟩
theorem vg:(bf:Nat)<2^63:=by rw[LM];decide
theorem Zg:eQ X (sr .Add) (fun x y H Q=>∃i j,x=.str i∧y=.str j∧i.length+j.length≤bf∧Q (.str (i++j)) H):=by
 intro pins s σ H x y v u Q I rx ry h;obtain⟨i,j,rfl,rfl,hz,q⟩:=h;obtain⟨t,rfl⟩:=rx;obtain⟨t',rfl⟩:=ry;exact add_str (fun t' tk=>⟨.str (i++j),H,I.tok _,⟨_,rfl⟩,q⟩) hz
theorem vals1(r:a7 [x] us):∃u,us=[u]∧RelV x u:=by
 cases r with
 |cons r1 r2=>cases r2;exact⟨_,rfl,r1⟩
theorem vals2(r:a7 [x,y] us):∃u w',us=[u,w']∧RelV x u∧RelV y w':=by
 cases r with
 |cons r1 r2=>
  cases r2 with
  |cons r3 r4=>cases r4;exact⟨_,_,rfl,r1,r3⟩
theorem xK(hc:X.calm=true):jY X (.builtin "max") (fun xs H Q=>∃i j,xs=[.int i,.int j]∧Q (.int (if j>i then j else i)) H):=by
 intro pins s σ H xs us Q I r h;obtain⟨i,j,rfl,q⟩:=h;obtain⟨u,w',rfl,⟨t,rfl⟩,⟨t',rfl⟩⟩:=vals2 r;refine max_two_ints (I.ok.hd hc) fun h' tk k=>⟨_,H,I.kept k,?_,q⟩
 by_cases hj:j>i
 ·rw[if_pos hj,if_pos hj];exact⟨_,rfl⟩
 ·rw[if_neg hj,if_neg hj];exact⟨_,rfl⟩
theorem AN(hc:X.calm=true):jY X (.builtin "min") (fun xs H Q=>∃i j,xs=[.int i,.int j]∧Q (.int (if j<i then j else i)) H):=by
 intro pins s σ H xs us Q I r h;obtain⟨i,j,rfl,q⟩:=h;obtain⟨u,w',rfl,⟨t,rfl⟩,⟨t',rfl⟩⟩:=vals2 r;refine min_two_ints (I.ok.hd hc) fun h' tk k=>⟨_,H,I.kept k,?_,q⟩
 by_cases hj:j<i
 ·rw[if_pos hj,if_pos hj];exact⟨_,rfl⟩
 ·rw[if_neg hj,if_neg hj];exact⟨_,rfl⟩
theorem vh:jY X (.type "str") (fun xs H Q=>∃i,xs=[.int i]∧i.natAbs.log2<1920∧Q (.str (toString i)) H):=by
 intro pins s σ H xs us Q I r h;obtain⟨i,rfl,hz,q⟩:=h;obtain⟨u,rfl,t,rfl⟩:=vals1 r;exact PySem.P.str_of_int hz ⟨.str _,H,I.tok _,⟨_,rfl⟩,q⟩
theorem Zh:jY X (.builtin "ord") (fun xs H Q=>∃x,xs=[.str x]∧x.length=1∧Q (.int (x.cps.getD 0 0:Nat)) H):=by
 intro pins s σ H xs us Q I r h;obtain⟨x,rfl,hz,q⟩:=h;obtain⟨u,rfl,t,rfl⟩:=vals1 r;exact ord_of_one hz ⟨.int _,H,I.tok _,⟨_,rfl⟩,q⟩
end
structure sv(h:bU)(x dx C:ae)(mA:Str→Option aA):Prop where
 obj:h.get? x=some (PySem.W.instObj C dx)
 ns:h.Ns1 dx mA
 ne:dx≠x
set_option tactic.hygienic true in
theorem Zi{h:bU}(n:h.Ns1 dx mA):∃od,h.get? dx=some od∧∀name,PySem.W.lookIn name od=some (mA name):=by
 obtain⟨o,es,ep,ho,hd,hk,_,hm⟩:=n;refine⟨o,ho,fun name=>?_⟩;have e:=hm name;unfold nsFind findBy at e;rw[←Array.find?_toList]at e;unfold PySem.W.lookIn;rw[hd];dsimp only;split
 ·rename_i y q;rw[q]at e;exact congrArg some e
 ·rename_i q;rw[q]at e;have a:es.toList.any (·.refKey)=false:=by
   rw[List.any_eq_false];intro y hy;obtain⟨z,t,xM⟩:=hk y (Zj.mp hy);simp[aoV,xM]
  have a':¬es.toList.any (·.refKey)=true:=by rw[a];exact cb
  rw[if_neg a'];exact congrArg some e
theorem sv.look(I:sv h x dx C mA):∃od,PySem.W.InstAt h x (PySem.W.instObj C dx) C (some od)∧∀name,PySem.W.lookIn name od=some (mA name):=
 let ⟨od,ho,hl⟩:=Zi I.ns
 ⟨od,⟨I.obj,rfl,rfl,ho⟩,hl⟩
section
variable {prog:cQ}{w:cD}{A:eB}{E:aA→aS→Prop}{s:aS}{K:PySem.W.Frag}{x dx C f:ae}{mA:Str→Option aA}{name:Str}{v:aA}
theorem get_map(X:K.In s.heap)(I:sv s.heap x dx C mA)(hg:PySem.W.plainGet K C name=true)(hh:PySem.W.hasDictIn K C=true)
  (ha:PySem.W.findIn K (.ref C) name=some none) (hv:mA name=some v) (vi:PySem.W.handedIn v=true) (h:Q v {s with toks:=s.toks+1}):
  aD (aP prog w) A (getAttr (.ref x) name expr) Q E s:=by
 obtain⟨od,J,hl⟩:=I.look;exact PySem.W.get_value X J (PySem.W.plainGet_of hg).1 (PySem.W.findObj_own hh ha rfl (by rw[hl,hv])) vi h
theorem Zk(X:K.In s.heap)(I:sv s.heap x dx C mA)(hg:PySem.W.plainGet K C name=true)
  (hf:PySem.W.findIn K (.ref C) name=some (some (.ref f))) (ht:PySem.W.isFn K (.ref f)=true) (hv:mA name=none) (h:Q (.ref f,[.ref x]) s):
  aD (aP prog w) A (EA (.ref x) name pl) Q E s:=by
 obtain⟨od,J,hl⟩:=I.look;exact PySem.W.method_fn X J (PySem.W.plainGet_of hg).1 (PySem.W.plainGet_of hg).2 hf (beq_iff_eq.mp ht) (by show(PySem.W.lookIn name od).map (·.isSome)=some false;rw[hl,hv];rfl) h
theorem Zl(X:K.In s.heap)(I:sv s.heap x dx C mA)
  (hs:PySem.W.findIn K (.ref C) "__setattr__"=some (some (.builtin "object.__setattr__"))) (hp:PySem.W.plainOver K C=true) (ht:PySem.W.takerIn K C name=some none) (hh:PySem.W.hasDictIn K C=true)
  (hw:PySem.Within mA ns) (hsz:ns.length≤bf)
  (h:∀h',sv h' x dx C (fun y=>if y=name then some v else mA y)→xx dx s.heap h'→Q () {s with heap:=h',toks:=s.toks+2}):
  aD (aP prog w) A (setAttr (.ref x) name v) Q E s:=by
 obtain⟨od,J,hl⟩:=I.look;refine PySem.W.set_plain X J hs (PySem.W.osa_open (s:={s with toks:=s.toks+1}) (r:=none) X J hp ht fun b=>?_);obtain⟨cd,hc,D_⟩:=PySem.W.any_some hh;have hx:s.heap.get? x=some ⟨.ref C,some dx,.plain,#[]⟩:=I.obj;refine ay (bc (ay (ay (wpAny_loadPart hx (ay (PySem.W.Looks.here (s:={s with toks:=s.toks+1}) (PySem.W.looks_clsIn X hc) ?_))))));rw[D_];refine bc (a:=some dx) (ay (bc (ay ?_)));refine wpAny_nsSet1 (s:={s with toks:=s.toks+1}) I.ns fun h' LN se=>?_;obtain⟨oD,esD,epD,Zm,Zn,Zo⟩:=LN.count (PySem.Within.cons name v hw);refine ay (wpAny_lookBehind Zm (by rw[Zn];exact pastItsLine_dict (dU Zo (by rw[b6];lia))) ?_);exact bc (h _ ⟨(se.2 _ (Ne.symm I.ne)).trans I.obj,LN,I.ne⟩ se)
theorem Zp(X:K.In s.heap)(hm:PySem.W.makesIn K C=true)
  (hi:PySem.W.findIn K (.ref C) "__init__"=some (some (.ref f))) (hf:PySem.W.typeIn K (.ref f)=some (.type "function"))
  (h:vj (aP prog w) (A.under (.builtin "type.__call__" ⟨.ref C::vs,kw⟩)) (.call (.ref f) ⟨.ref (s.heap.objs.size+1)::vs,kw⟩) (PySem.W.InitBack (s.heap.objs.size+1) R)
   {s with heap:=(s.heap.push PySem.W.emptyDict).push (PySem.W.instObj C s.heap.objs.size)}):
  vj (aP prog w) A (.call (.ref C) ⟨vs,kw⟩) R s:=by
 obtain⟨hh,g,d,t,os⟩:=s;exact PySem.W.make_core (PySem.W.makes_of X hm) (PySem.W.looks_findIn X hi) (fun self=>PySem.W.bind_fn X self hf) (.inl rfl) h
end
def dZ(f:Str)(v:V):List (Str×V)→List (Str×V)
 |[]=>[(f,v)]
 |(g,x)::r=>if g=f then(g,v)::r else(g,x)::dZ f v r
theorem LO f g v:∀fs:List (Str×V),(dZ f v fs).lookup g=if g=f then some v else fs.lookup g
 |[]=>by
  show sy g [(f,v)]=_;by_cases h:g=f
  ·have hb:(g==f)=true:=beq_iff_eq.mpr h;simp only[sy,hb,if_pos h]
  ·have hb:(g==f)=false:=beq_eq_false_iff_ne.mpr h;simp only[sy,hb,if_neg h]
 |(k,x)::r=>by
  have ih:=LO f g v r;rw[show dZ f v ((k,x)::r)=(if k=f then(k,v)::r else(k,x)::dZ f v r)from rfl];by_cases hk:k=f
  ·rw[if_pos hk];by_cases h:g=k
   ·have hb:(g==k)=true:=beq_iff_eq.mpr h;simp only[sy,hb,if_pos (h.trans hk)]
   ·have hb:(g==k)=false:=beq_eq_false_iff_ne.mpr h;simp only[sy,hb,if_neg (fun e:g=f=>h (e.trans hk.symm))]
  ·rw[if_neg hk];by_cases h:g=k
   ·have hb:(g==k)=true:=beq_iff_eq.mpr h;simp only[sy,hb,if_neg (fun e:g=f=>hk (h.symm.trans e))]
   ·have hb:(g==k)=false:=beq_eq_false_iff_ne.mpr h;simp only[sy,hb];exact ih
theorem EB f v:∀fs:List (Str×V),f∈(dZ f v fs).map (·.1)∧∀g,g∈fs.map (·.1)→g∈(dZ f v fs).map (·.1)
 |[]=>⟨by simp[dZ],fun g h=>by simp at h⟩
 |(k,x)::r=>by
  obtain⟨i1,i2⟩:=EB f v r;rw[show dZ f v ((k,x)::r)=(if k=f then(k,v)::r else(k,x)::dZ f v r)from rfl];by_cases hk:k=f
  ·rw[if_pos hk];subst hk;exact⟨by simp,fun g h=>by simpa using h⟩
  ·rw[if_neg hk];refine⟨?_,fun g h=>?_⟩
   ·rw[dw];exact c_ _ i1
   ·rw[dw]at h ⊢;rcases b_.mp h with e|e
    ·exact b_.mpr (.inl e)
    ·exact c_ _ (i2 g e)
theorem LP f v:∀fs:List (Str×V),(dZ f v fs).length≤fs.length+1
 |[]=>by simp[dZ]
 |(k,x)::r=>by
  have ih:=LP f v r;rw[show dZ f v ((k,x)::r)=(if k=f then(k,v)::r else(k,x)::dZ f v r)from rfl];by_cases hk:k=f
  ·rw[if_pos hk,b6,b6];lia
  ·rw[if_neg hk,b6,b6];lia
theorem iH.some_of(r:iH (some v) o):∃u,o=some u∧RelV v u:=by
 cases o with
 |none=>exact(show False from r).elim
 |some u=>exact⟨u,rfl,r⟩
theorem iH.none_of(r:iH none o):o=none:=by
 cases o with
 |none=>rfl
 |some u=>exact(show False from r).elim
theorem Zq(r:RelV v u):PySem.W.handedIn u=true:=by
 cases v with
 |aC=>cases (show u=Value.none from r);rfl
 |bl b=>cases (show u=Value.bool b from r);rfl
 |int i=>obtain⟨t,e⟩:=(show ∃t,u=Value.int i t from r);cases e;rfl
 |str x=>obtain⟨t,e⟩:=(show ∃t,u=Value.str x t from r);cases e;rfl
 |iY b=>obtain⟨t,e⟩:=(show ∃t,u=X8 b t from r);cases e;rfl
 |As b=>obtain⟨t,e⟩:=(show ∃t,u=X9 b t from r);cases e;rfl
 |ref a=>cases (show u=dF a from r);rfl
 |ty n=>cases (show u=rS n from r);rfl
section
variable {P:cQ}{w:cD}{H H':Hp}{h h':bU}{a C dx:ae}{fs xo:List (Str×V)}
theorem EC(aU:dr P w H h)(e:H a=some (.ins C dx fs)):∃mA,sv h a dx C mA∧(∀f,iH (fs.lookup f) (mA f))∧PySem.Within mA (fs.map (·.1))∧fs.length≤1000∧H dx=some (.own a):=by
 obtain⟨d,z,ne,ob,mA,n,r,q⟩:=(show eN P w H h a (.ins C dx fs)from aU a _ e)
 exact⟨mA,⟨ob,n,ne⟩,r,q,z,d⟩
end
structure bg(K:PySem.W.Frag)(C:ae):Prop where
 pg:PySem.W.plainGet K C Str.empty=true
 hd:PySem.W.hasDictIn K C=true
 po:PySem.W.plainOver K C=true
 sa:PySem.W.findIn K (.ref C) "__setattr__"=some (some (.builtin "object.__setattr__"))
theorem bg.get{K:PySem.W.Frag}(c:bg K C)f:PySem.W.plainGet K C f=true:=c.pg
def bQ(K:PySem.W.Frag)(C:ae)(f:Str):Prop:=PySem.W.findIn K (.ref C) f=some none
theorem bQ.Zr{K:PySem.W.Frag}(n:bQ K C f):PySem.W.takerIn K C f=some none:=by
 unfold PySem.W.takerIn;rw[show PySem.W.findIn K (.ref C) f=some none from n];rfl
structure oF(K:PySem.W.Frag)(C:ae)(m:Str)(f:ae):Prop where
 at_:PySem.W.findIn K (.ref C) m=some (some (.ref f))
 fn:PySem.W.isFn K (.ref f)=true
 kp:PySem.W.keepIn K (.ref f)=true
section
variable {X:Cx}{pins:List (ae×Obj)}{σ:St}{H:Hp}{s:aS}{a C dx:ae}{fs:List (Str×V)}{f:Str}{v:V}{A:eB}{E:aA→aS→Prop}
theorem Zs(I:Inv X pins σ H s)(e:H a=some (.ins C dx fs))(c:bg X.K C)(n:bQ X.K C f)(l:fs.lookup f=some v)
  (h:∀u s',Inv X pins σ H s'→RelV v u→Q u s'):aD (aP X.prog X.w) A (getAttr (.ref a) f b) Q E s:=by
 obtain⟨mA,O,r,_,_,_⟩:=EC I.aU e;obtain⟨u,hu,ru⟩:=iH.some_of (v:=v) (o:=mA f) (by rw[←l];exact r f);exact get_map I.iq O (c.get f) c.hd n hu (Zq ru) (h u _ (I.tok _) ru)
theorem LQ(I:Inv X pins σ H s)(e:H a=some (.ins C dx fs))(c:bg X.K C)(k:oF X.K C m g)(l:fs.lookup m=none)
  (h:Q (.ref g,[.ref a]) s):aD (aP X.prog X.w) A (EA (.ref a) m pl) Q E s:=by
 obtain⟨mA,O,r,_,_,_⟩:=EC I.aU e;have hn:mA m=none:=iH.none_of (by rw[←l];exact r m);exact Zk I.iq O (c.get m) k.at_ k.fn hn h
theorem Zt(I:Inv X pins σ H s)(e:H a=some (.ins C dx fs))(c:bg X.K C)(n:bQ X.K C f)(hl:fs.length<1000)(ry:RelV y u)
  (h:∀s',Inv X pins σ (upd H a (.ins C dx (dZ f y fs))) s'→Q () s'):aD (aP X.prog X.w) A (setAttr (.ref a) f u) Q E s:=by
 obtain⟨mA,O,r,wi,_,ho⟩:=EC I.aU e;have hz:(fs.map (·.1)).length≤bf:=by rw[aB,LM];lia
 refine Zl I.iq O c.sa c.po n.Zr c.hd wi hz fun h' O' sb=>h _ ?_;have hd:∃o,h'.get? dx=some o:=let ⟨o,_,_,e',_⟩:=O'.ns;⟨o,e'⟩;refine I.write (x:=a) (e:=dx) (by rw[e];exact True.intro) (.inr ho) (fun b q hb z=>(sb.2 b hb).trans z) hd ?_;refine⟨by rw[ao O.ne];exact ho,?_,O.ne,O'.obj,_,O'.ns,fun g=>?_,fun g hg=>?_⟩
 ·have:=LP f y fs;lia
 ·show iH ((dZ f y fs).lookup g) (if g=f then some u else mA g);rw[LO];by_cases q:g=f
  ·rw[if_pos q,if_pos q];exact ry
  ·rw[if_neg q,if_neg q];exact r g
 ·by_cases q:g=f
  ·rw[q];exact(EB f y fs).1
  ·refine(EB f y fs).2 g (wi g fun z=>hg ?_);show(if g=f then some u else mA g)=none;rw[if_neg q];exact z
theorem Inv.made(I:Inv X pins σ H s):Inv X pins σ (upd (upd H s.heap.objs.size (.own (s.heap.objs.size+1))) (s.heap.objs.size+1) (.ins C s.heap.objs.size []))
  {s with heap:=(s.heap.push PySem.W.emptyDict).push (PySem.W.instObj C s.heap.objs.size)}:=by
 have e1:(s.heap.push PySem.W.emptyDict).get? s.heap.objs.size=some PySem.W.emptyDict:=eP s.heap rfl;have e2:((s.heap.push PySem.W.emptyDict).push (PySem.W.instObj C s.heap.objs.size)).get? (s.heap.objs.size+1)=some (PySem.W.instObj C s.heap.objs.size):=by
  have:=eP (s.heap.push PySem.W.emptyDict) (o:=PySem.W.instObj C s.heap.objs.size) rfl;rwa[g_]at this
 have e3:(s.heap.push PySem.W.emptyDict).Ns s.heap.objs.size (fun _=>none):=⟨PySem.W.emptyDict,#[],_,e1,rfl,(fun e he=>absurd he (by simp)),fun _=>rfl⟩
 have I1:=I.laid (a:=s.heap.objs.size) (o:=.own (s.heap.objs.size+1)) (h':=s.heap.push PySem.W.emptyDict) (t':=s.toks) (fun b u q=>dW _ q) (a9 _) ⟨_,e1⟩;refine I1.laid (a:=s.heap.objs.size+1) (o:=.ins C s.heap.objs.size []) (t':=s.toks) (fun b u q=>dW _ q) (ED (g_ _ _)) ?_;have ne:s.heap.objs.size≠s.heap.objs.size+1:=fU (EE _);refine⟨by rw[ao ne,ah],bu _,ne,e2,fun _=>none,(Heap.Ns1.of_empty e3).at fun o q=>dW _ q,fun _=>True.intro,fun y hy=>absurd rfl hy⟩
theorem Zu(hb:oG e f env (eval e env)=eval e env)
  (h:aD (aP prog w) A (eval e env) (fun o s₁=>aD (aP prog w) A (getAttr o f true) Q E s₁) E s):aD (aP prog w) A (eval (.Attribute e f pos) env) Q E s:=
 Attribute_any_ h (by rw[arm_eval_Attribute,hb])
end
inductive EF(K:PySem.W.Frag)(f:Str)(x:V)(H:Hp)(Q:VK):Prop
 |mk:∀a C dx fs v,x=.ref a→H a=some (.ins C dx fs)→bg K C→bQ K C f→fs.lookup f=some v→Q v H→EF K f x H Q
def AO(K:PySem.W.Frag)(ta:TE)(f:Str):TE:=fun σ H Q=>ta σ H fun x H1=>EF K f x H1 Q
def Zv(K:PySem.W.Frag)(ta tv:TE)(f:Str):TS:=fun D σ H=>tv σ H fun y H1=>ta σ H1 fun x H2=>∃a C dx fs,x=.ref a∧H2 a=some (.ins C dx fs)∧bg K C∧bQ K C f∧fs.length<1000∧
 D.nx σ (upd H2 a (.ins C dx (dZ f y fs)))
section
variable {X:Cx}{o e value:aY}{f:Str}{pos pos' iK:Pos}{ta tv:TE}
theorem iw(he:PE X e ta)(hb:oG e f X.env (eval e X.env)=eval e X.env):PE X (.Attribute e f pos) (AO X.K ta f):=by
 intro pins s σ H Q I h;refine Zu hb (aT (he pins s σ H _ I h) fun u s1 ⟨x,H1,I1,rx,a,C,dx,fs,v,ex,ea,c,n,l,q⟩=>?_);subst ex;obtain rfl:u=dF a:=rx;exact Zs I1 ea c n l fun u' s2 I2 ru=>⟨v,H1,I2,ru,q⟩
theorem bC(ha:PE X o ta)(hv:PE X value tv)(hs:rZ value (some (.Attribute o f pos')) pos.line X.env=pure false):PS X (.Assign [.Attribute o f pos'] value pos) (Zv X.K ta tv f):=by
 intro pins s σ H D I h;refine plainObj_wpAny_Assign_Attribute (aT (hv pins s σ H _ I h) fun u s1 ⟨y,H1,I1,ry,q⟩=>aT (ha pins s1 σ H1 _ I1 q) fun ov s2 ⟨x,H2,I2,rx,a,C,dx,fs,ex,ea,c,n,l,q2⟩=>?_) hs;subst ex;obtain rfl:ov=dF a:=rx;exact Zt I2 ea c n l ry fun s3 I3=>⟨σ,_,I3,q2⟩
theorem aoY{pl:Sem Bool}{m:Str}{apos:Pos}{args:List aY}{pins:List (ae×Obj)}{s:aS}{σ:St}{H:Hp}{Q:aA→aS→Prop}{te:TE}(he:PE X e te)(I:Inv X pins σ H s)
  (h:te σ H fun x H1=>∃a C dx fs g,x=.ref a∧H1 a=some (.ins C dx fs)∧bg X.K C∧oF X.K C m g∧fs.lookup m=none∧
   ∀s1,Inv X pins σ H1 s1→aD (aP X.prog X.w) X.A (LR pos (.ref g) [.ref a] (g9 pos (bo args X.env)) (EG pos (EH [] X.env))) Q X.xe s1)
  (ht:eval (.Call (.Attribute e m apos) args [] pos) X.env=(do
   let ov←eval e X.env
   Eh apos.atName
   let (f,first)←xC [ov] (EA ov m pl)
   LR pos f first (g9 pos (bo args X.env)) (EG pos (EH [] X.env)))):
  aD (aP X.prog X.w) X.A (eval (.Call (.Attribute e m apos) args [] pos) X.env) Q X.xe s:=by
 refine PySem.W.methodCall_KW (pl:=pl) (aT (he pins s σ H _ I h) fun u s1 ⟨x,H1,I1,rx,a,C,dx,fs,g,ex,ea,c,k,l,q⟩=>?_) ht;subst ex;obtain rfl:u=dF a:=rx;exact LQ I1 ea c k l (q s1 I1)
end
section
variable {X:Cx}{pins:List (ae×Obj)}{σ:St}{H:Hp}{s:aS}{A:eB}{E:aA→aS→Prop}{Q:aA→aS→Prop}{c:aA}{b:Bool}
end
structure eC(k:Nat)(A:eB):Prop where
 hd:A.handled=none
 dp:A.depth+3*k+5<Zw
 un:A.units+16*k+200<lH
theorem eC.mono(r:eC k A)(h:j≤k):eC j A:=⟨r.hd,by have:=r.dp;lia,by have:=r.un;lia⟩
theorem eC.deeper(r:eC (k+1) A)env:eC k (A.deeper env):=
 ⟨r.hd,by have:=r.dp;show A.depth+1+3*k+5<_;lia,by have:=r.un;show A.units+3+16*k+200<_;lia⟩
theorem Zx{A:eB}:(A.under (.builtin "type.__call__" ⟨.ref C::us,kw⟩)).depth=A.depth+1:=by
 first|rfl|simp[LS,Code.weight,Code.isCreation,Code.isGuard,Code.isCaller,Zy,LU,guardIds]
theorem Zz{A:eB}:(A.under (.builtin "type.__call__" ⟨.ref C::us,kw⟩)).units=A.units+1:=by
 first|rfl|simp[LS,Code.cUnits,Zy,LU]
theorem eC.make(r:eC (k+1) A)C us kw:eC k (A.under (.builtin "type.__call__" ⟨.ref C::us,kw⟩)):=
 ⟨r.hd,by have:=r.dp;rw[Zx];lia,by have:=r.un;rw[Zz];lia⟩
theorem eC.depth(r:eC k A):A.depth<Zw:=by have:=r.dp;lia
theorem eC.units(r:eC k A):A.units+64<lH:=by have:=r.un;lia
def nh:TA:=fun _ H Q=>Q [] H
def j1(ta:TE)(tr:TA):TA:=fun σ H Q=>ta σ H fun x H1=>tr σ H1 fun xs H2=>Q (x::xs) H2
section
variable {X:Cx}{e:aY}{es:List aY}{te:TE}{t:TA}{pos:Pos}
theorem gA:PA X [] nh:=fun _ _ _ _ H Q I h=>ZC ⟨[],H,I,.nil,h⟩
theorem gh(ha:PE X e te)(hr:PA X es t)(hs:bo (e::es) X.env=(false,eval e X.env)::bo es X.env:=by rfl):PA X (e::es) (j1 te t):=by
 intro pos pins s σ H Q I h;rw[hs];show aD _ _ (spliced ((false,eval e X.env)::g9 pos (bo es X.env))) _ _ s;refine ZD (aT (ha pins s σ H _ I h) fun u s1 ⟨x,H1,I1,r1,q1⟩=>?_);exact aT (hr pos pins s1 σ H1 _ I1 q1) fun us s2 ⟨xs,H2,I2,r2,q2⟩=>⟨x::xs,H2,I2,.cons r1 r2,q2⟩
def ZE(t:TA):TE:=fun σ H Q=>t σ H fun xs H1=>xs.length≤bf∧∀p,H1 p=none→Q (.ref p) (upd H1 p (.tup xs))
def ZF(t:TA):TE:=fun σ H Q=>t σ H fun xs H1=>xs.length≤bf∧∀p,H1 p=none→Q (.ref p) (upd H1 p (.lst xs))
theorem jA{x1}(h:PA X es t):PE X (.Tuple es x1 pos) (ZE t):=by
 intro pins s σ H Q I hq;refine wpAny_Tuple_spliced (aT (h pos pins s σ H _ I hq) fun us s1 ⟨xs,H1,I1,r,z,q⟩=>⟨by rw[←r.length];exact z,?_⟩);have hf:H1 s1.heap.objs.size=none:=I1.aU.fresh (a9 _);refine⟨.ref s1.heap.objs.size,upd H1 s1.heap.objs.size (.tup xs),I1.laid (t':=s1.toks) (fun b u e=>dW _ e) (a9 _) ?_,rfl,q _ hf⟩;exact⟨z,us,r,⟨_,eP _ rfl,rfl,_,rfl⟩⟩
theorem bi(h:PA X es t):PE X (.List es pos) (ZF t):=by
 intro pins s σ H Q I hq;refine wpAny_List_spliced (aT (h pos pins s σ H _ I hq) fun us s1 ⟨xs,H1,I1,r,z,q⟩=>⟨by rw[←r.length];exact z,?_⟩);have hf:H1 s1.heap.objs.size=none:=I1.aU.fresh (a9 _);refine⟨.ref s1.heap.objs.size,upd H1 s1.heap.objs.size (.lst xs),I1.laid (t':=s1.toks) (fun b u e=>dW _ e) (a9 _) ?_,rfl,q _ hf⟩;exact⟨z,us,0,r,eP _ rfl⟩
end
abbrev Sp:=List V→Hp→VK→XK→Prop
abbrev ni:=List Env→Hp→aS→XK→aA→aS→Prop
structure sA(P:cQ)(w:cD)(K:PySem.W.Frag)(mg:Str→Option aA)(base:bU)(A:eB)(outer:List Env)(s:aS)(H:Hp):Prop where
 frames:A.frames=some outer
 mod:Mod K mg base
 bs:∀b o,base.get? b=some o→s.heap.get? b=some o∧H b=none
 m4:base.objs.size≤s.heap.objs.size
 lC:s.heap.FunFrames base outer
 rX:∀b∈mj outer,H b=none
 aU:dr P w H s.heap
 bare:uV s.gens
def CE(outer:List Env)(P:cQ)(w:cD)(H:Hp)(s:aS)(Q:VK)(u:aA)(s':aS):Prop:=
 ∃v H',s'.os=s.os∧uV s'.gens∧Un (mj outer) [] H H' s.heap s'.heap∧dr P w H' s'.heap∧RelV v u∧Q v H'
def CR(CX:ni)(outer:List Env)(P:cQ)(w:cD)(H:Hp)(s:aS)(Q:VK)(E:XK)(r:Result)(s':aS):Prop:=
 match r with
 | .ok (.ret u)=>CE outer P w H s Q u s'
 | .ok _=>False
 | .error e=>CX outer H s E e s'
structure fC(P:cQ)(w:cD)(K:PySem.W.Frag)(mg:Str→Option aA)(base:bU)(CX:ni)(k:Nat)(f:ae)(fd:aM)(ps:List Str)(sp:Sp):Prop where
 len:∀vs H Q E,sp vs H Q E→vs.length=ps.length
 run:∀(A:eB) (outer:List Env) (s:aS) (H:Hp) (args:Args) (us:List aA) (vs:List V) (Q:VK) (E:XK),eC k A→sA P w K mg base A outer s H→xO s fd args (ps.zip us)→a7 vs us→sp vs H Q E→
  vj (aP P w) A (.call (.ref f) args) (CR CX outer P w H s Q E) s
theorem fC.mono{K:PySem.W.Frag}(F:fC P w K mg base CX j f fd ps sp)(h:j≤k):
  fC P w K mg base CX k f fd ps sp:=⟨F.len,fun A outer s H args us vs Q E hr=>F.run A outer s H args us vs Q E (hr.mono h)⟩
theorem sA.make{K:PySem.W.Frag}(e:sA P w K mg base A outer s H)C us kw:
  sA P w K mg base (A.under (.builtin "type.__call__" ⟨.ref C::us,kw⟩)) outer s H:=⟨by first|exact e.frames|(simpa[LS,Code.envs,LU,pushEnvs]using e.frames),e.mod,e.bs,e.m4,e.lC,e.rX,e.aU,e.bare⟩
section
variable {X:Cx}{pins:List (ae×Obj)}{σ:St}{H:Hp}{s s':aS}
theorem Inv.LV(I:Inv X pins σ H s):sA X.prog X.w X.K X.mg X.base X.A X.stack s H:=
 ⟨I.ok.frames,I.ok.mod,I.bs,dU I.ok.m4 I.sz,I.stack,I.La,I.aU,I.bare⟩
theorem Inv.after(I:Inv X pins σ H s)(h:CE X.stack X.prog X.w H s Q u s'):EP X pins σ Q u s':=by
 obtain⟨v,H',os,bare,un,aU,r,q⟩:=h;obtain⟨hh,g,d,t,ZG⟩:=s';obtain rfl:ZG=s.os:=os;exact⟨v,H',I.call (h':=hh) (g':=g) (d':=d) (t':=t) (ch:=[]) un aU bare (fun b z=>absurd z (by simp)),r,q⟩
end
def EI(sp:Sp)(fO:List V)(E:XK)(t:TA):TE:=fun σ H Q=>t σ H fun vs H1=>sp (vs++fO) H1 Q E
def ZH(C:ae)(m:Str)(sp:Sp)(fO:List V)(E:XK)(ta:TE)(t:TA):TE:=fun σ H Q=>ta σ H fun x H1=>∃a dx fs,x=.ref a∧H1 a=some (.ins C dx fs)∧fs.lookup m=none∧
 t σ H1 fun vs H2=>sp (x::(vs++fO)) H2 Q E
def AQ(C:ae)(sp:Sp)(fO:List V)(E:XK)(t:TA):TE:=fun σ H Q=>t σ H fun vs H1=>∀x dx,H1 x=none→H1 dx=none→dx≠x→
 sp (.ref x::(vs++fO)) (upd (upd H1 dx (.own x)) x (.ins C dx [])) (fun v H2=>v=.aC∧Q (.ref x) H2) E
def Binds(K:PySem.W.Frag)(fd:aM)(ps:List Str)(ds:List aA):Prop:=
 ∀s us,K.In s.heap→(us++ds).length=ps.length→xO s fd ⟨us,[]⟩ (ps.zip (us++ds))
theorem Binds.all{K:PySem.W.Frag}(h:∀us:List aA,us.length=ps.length→LW fd ⟨us,[]⟩=pure (ps.zip us)):Binds K fd ps []:=fun s us _ hl=>by
 rw[gi]at hl ⊢;exact .of_eq (h us hl)
def qi(CX:ni)(X:Cx)(E:XK):Prop:=∀pins (σ:St) H s e s',Inv X pins σ H s→CX X.stack H s E e s'→X.xe e s'
section
variable {X:Cx}{CX:ni}{k:Nat}{f C:ae}{fd:aM}{ps:List Str}{sp:Sp}{fO:List V}{ds:List aA}{E:XK}{x m:Str}{p pos apos:Pos}{e o:aY}{es:List aY}{ta:TE}{t:TA}
theorem EJ{σ:St}(F:fC X.prog X.w X.K X.mg X.base CX k f fd ps sp)(hr:eC k X.A)(hb:Binds X.K fd ps ds)(hd:a7 fO ds)(hx:qi CX X E)
  (I:Inv X pins σ H s) (r:a7 vs us) (h:sp (vs++fO) H Q E):aD (aP X.prog X.w) X.A (call (.ref f) us) (EP X pins σ Q) X.xe s:=by
 have r2:a7 (vs++fO) (us++ds):=r.append hd;have hl:(us++ds).length=ps.length:=by rw[←r2.length];exact F.len _ _ _ _ h
 refine wpAny_call (EK (F.run X.A X.stack s H ⟨us,[]⟩ (us++ds) (vs++fO) Q E hr I.LV (hb s us I.iq hl) r2 h) fun r s' hq=>?_);cases r with
 |error e=>exact hx pins σ H s e s' I hq
 |ok fl=>
  cases fl with
  |ret u=>exact I.after hq
  |next=>exact iZ hq
  |brk=>exact iZ hq
  |cont=>exact iZ hq
theorem EL(F:fC X.prog X.w X.K X.mg X.base CX k f fd ps sp)(hr:eC k X.A)(hg:Gl X x)(hm:X.mg x=some (.ref f))(hk:PySem.W.keepIn X.K (.ref f)=true)(hb:Binds X.K fd ps ds)(hd:a7 fO ds)(hx:qi CX X E)
  (ha:PA X (e::es) t) (iL:(x==("__debug__":Str))=false:=by decide) (he:bo (e::es) X.env=(false,eval e X.env)::bo es X.env:=by rfl) (df:(g9 pos (bo es X.env)).any (·.1)=false:=by rfl):
  PE X (.Call (.Name x p) (e::es) [] pos) (EI sp fO E t):=by
 intro pins s σ H Q I h;refine xP (AC I hg hm ?_ iL);refine PySem.W.callWith_K (h₀:=X.base) I.ok.mod.uT hk (aT (ha pos pins s σ H _ I h) fun us s1 ⟨vs,H1,I1,r,q⟩=>⟨I1.iq,?_⟩) he df;exact EJ F hr hb hd hx I1 r q
theorem qj{pl:Sem Bool}(he:PE X o ta)(c:bg X.K C)(hm:oF X.K C m f)(F:fC X.prog X.w X.K X.mg X.base CX k f fd ps sp)(hr:eC k X.A)(hb:Binds X.K fd ps ds)(hd:a7 fO ds)(hx:qi CX X E)(ha:PA X (e::es) t)
  (fK:bo (e::es) X.env=(false,eval e X.env)::bo es X.env:=by rfl) (df:(g9 pos (bo es X.env)).any (·.1)=false:=by rfl)
  (ht:eval (.Call (.Attribute o m apos) (e::es) [] pos) X.env=(do
   let ov←eval o X.env
   Eh apos.atName
   let (f,first)←xC [ov] (EA ov m pl)
   LR pos f first (g9 pos (bo (e::es) X.env)) (EG pos (EH [] X.env))):=by rfl):
  PE X (.Call (.Attribute o m apos) (e::es) [] pos) (ZH C m sp fO E ta t):=by
 intro pins s σ H Q I h;refine PySem.W.methodCall_KW (pl:=pl) (aT (he pins s σ H _ I h) fun u s1 ⟨x,H1,I1,rx,a,dx,fs,ex,ea,l,q⟩=>?_) ht;subst ex;obtain rfl:u=dF a:=rx;refine LQ I1 ea c hm l ?_;refine PySem.W.callWith_K (first:=[.ref a]) (h₀:=X.base) I.ok.mod.uT hm.kp (aT (ha pos pins s1 σ H1 _ I1 q) fun us s2 ⟨vs,H2,I2,r,q2⟩=>⟨I2.iq,?_⟩) fK df;exact EJ (us:=.ref a::us) (vs:=.ref a::vs) F hr hb hd hx I2 (.cons rfl r) q2
structure Mk(K:PySem.W.Frag)(C f:ae):Prop where
 makes:PySem.W.makesIn K C=true
 init:PySem.W.findIn K (.ref C) "__init__"=some (some (.ref f))
 fn:PySem.W.isFn K (.ref f)=true
 kp:PySem.W.keepIn K (.ref C)=true
theorem LX{σ:St}(M:Mk X.K C f)(F:fC X.prog X.w X.K X.mg X.base CX k f fd ps sp)(hr:eC (k+1) X.A)(hb:Binds X.K fd ps ds)(hd:a7 fO ds)
  (hx:qi CX X E) (I:Inv X pins σ H s) (r:a7 vs us)
  (h:∀x dx,H x=none→H dx=none→dx≠x→sp (.ref x::(vs++fO)) (upd (upd H dx (.own x)) x (.ins C dx [])) (fun v H2=>v=.aC∧Q (.ref x) H2) E):
  aD (aP X.prog X.w) X.A (call (.ref C) us) (EP X pins σ Q) X.xe s:=by
 have hq:=h (s.heap.objs.size+1) s.heap.objs.size (I.aU.fresh (Nat.le_succ _)) (I.aU.fresh (a9 _)) (fU (EE _));have I2:=Inv.made (C:=C) I;have r2:a7 (V.ref (s.heap.objs.size+1)::(vs++fO)) (dF (s.heap.objs.size+1)::(us++ds)):=.cons rfl (r.append hd);have hl:(dF (s.heap.objs.size+1)::us++ds).length=ps.length:=by
  have e:=r2.length;rw[F.len _ _ _ _ hq]at e;exact e.symm
 refine wpAny_call (Zp (f:=f) I.iq M.makes M.init (beq_iff_eq.mp M.fn) (EK (F.run _ X.stack _ _ ⟨dF (s.heap.objs.size+1)::us,[]⟩ (dF (s.heap.objs.size+1)::(us++ds)) _ _ E (hr.make C us [])
  (I2.LV.make C us []) (hb _ (dF (s.heap.objs.size+1)::us) I2.iq hl) r2 hq) fun r s' j2=>?_))
 cases r with
 |error e=>exact hx pins σ _ _ e s' I2 j2
 |ok fl=>
  cases fl with
  |ret u=>
   obtain⟨v,H',I3,rv,ev,q3⟩:=I2.after j2;subst ev;exact⟨rv,⟨V.ref (s.heap.objs.size+1),H',I3,rfl,q3⟩⟩
  |next=>exact iZ j2
  |brk=>exact iZ j2
  |cont=>exact iZ j2
theorem ZI(M:Mk X.K C f)(F:fC X.prog X.w X.K X.mg X.base CX k f fd ps sp)(hr:eC (k+1) X.A)(hg:Gl X x)(hm:X.mg x=some (.ref C))(hb:Binds X.K fd ps ds)(hd:a7 fO ds)(hx:qi CX X E)
  (ha:PA X (e::es) t) (iL:(x==("__debug__":Str))=false:=by decide) (he:bo (e::es) X.env=(false,eval e X.env)::bo es X.env:=by rfl) (df:(g9 pos (bo es X.env)).any (·.1)=false:=by rfl):
  PE X (.Call (.Name x p) (e::es) [] pos) (AQ C sp fO E t):=by
 intro pins s σ H Q I h;refine xP (AC I hg hm ?_ iL);refine PySem.W.callWith_K (h₀:=X.base) I.ok.mod.uT M.kp (aT (ha pos pins s σ H _ I h) fun us s1 ⟨vs,H1,I1,r,q⟩=>⟨I1.iq,?_⟩) he df;exact LX M F hr hb hd hx I1 r q
theorem ZJ(M:Mk X.K C f)(F:fC X.prog X.w X.K X.mg X.base CX k f fd ps sp)(hr:eC (k+1) X.A)(hg:Gl X x)(hm:X.mg x=some (.ref C))(hb:Binds X.K fd ps ds)(hd:a7 fO ds)(hx:qi CX X E)
  (iL:(x==("__debug__":Str))=false:=by decide):PE X (.Call (.Name x p) [] [] pos) (AQ C sp fO E nh):=by
 intro pins s σ H Q I h;refine xP (AC I hg hm ?_ iL);exact PySem.W.callWith_K0 I.iq M.kp (LX (us:=[]) M F hr hb hd hx I .nil h)
end
section
variable {X:Cx}{CX:ni}{k:Nat}{f C:ae}{fd:aM}{ps ks:List Str}{sp:Sp}{E:XK}{x m:Str}{p pos apos aoZ:Pos}{e o:aY}{es:List aY}{kws:List Keyword}{te ta:TE}{t tk:TA}{nm:Option Str}
variable {g:List aA→List aA→List aA}{gV:List V→List V→List V}
end
structure aN(N P:List Str)(sc:iI):Prop where
 kind:sc.kind=.function
 co:sc.isCoroutine=false
 gen:sc.isGenerator=false
 nd:N.Nodup
 pre:N.take P.length=P
 LY:∀x∈P,sc.names.lookup x=some .local∨sc.names.lookup x=some .cell
 ZK:∀y∈sc.names,y.2≠.free
theorem LZ{kindOf:Str→Option vk}:∀{binds}{m},(∀v,(x,v)∉binds)→sC kindOf binds m x=m x
 |[],_,_=>rfl
 |(n,v)::r,m,h=>by
  unfold sC;rw[LZ fun w hw=>h w (c_ _ hw)];split
  ·have:x≠n:=by rintro rfl;exact h v cI
   simp[this]
  ·rfl
theorem L0{kindOf:Str→Option vk}:∀{binds}{m},(∀v,(x,v)∉binds)→sD kindOf binds m x=m x
 |[],_,_=>rfl
 |(n,v)::r,m,h=>by
  unfold sD;rw[L0 fun w hw=>h w (c_ _ hw)];split
  ·rfl
  ·have:x≠n:=by rintro rfl;exact h v cI
   simp[this]
theorem L6{kindOf:Str→Option vk}:∀{P:List Str}{vs}{i:Nat}{m},P.Nodup→P[i]?=some x→vs[i]?=some v→kindOf x=some .local→
  sC kindOf (P.zip vs) m x=some v
 |[],_,_,_,_,h,_,_=>by simp at h
 |_::_,[],_,_,_,_,h,_=>by simp at h
 |p::P,w::vs,0,m,nd,h1,h2,hk=>by
  simp at h1 h2;subst h1;subst h2;show sC kindOf ((p,w)::P.zip vs) m p=_;unfold sC;rw[LZ fun v hv=>(vm.mp nd).1 (L7 hv).1,if_pos hk];simp
 |p::P,w::vs,i+1,m,nd,h1,h2,hk=>by
  show sC kindOf ((p,w)::P.zip vs) m x=_;unfold sC;exact L6 (i:=i) (vm.mp nd).2 (by simpa using h1) (by simpa using h2) hk
theorem L8{kindOf:Str→Option vk}:∀{P:List Str}{vs}{i:Nat}{m},P.Nodup→P[i]?=some x→vs[i]?=some v→kindOf x≠some .local→
  sD kindOf (P.zip vs) m x=some v
 |[],_,_,_,_,h,_,_=>by simp at h
 |_::_,[],_,_,_,_,h,_=>by simp at h
 |p::P,w::vs,0,m,nd,h1,h2,hk=>by
  simp at h1 h2;subst h1;subst h2;show sD kindOf ((p,w)::P.zip vs) m p=_;unfold sD;rw[L0 fun v hv=>(vm.mp nd).1 (L7 hv).1,if_neg hk];simp
 |p::P,w::vs,i+1,m,nd,h1,h2,hk=>by
  show sD kindOf ((p,w)::P.zip vs) m x=_;unfold sD;exact L8 (i:=i) (vm.mp nd).2 (by simpa using h1) (by simpa using h2) hk
def start(N:List Str)(vs:List V):St:=vs.map some++fj (N.length-vs.length) none
def aO(CX:ni)(P:cQ)(w:cD)(K:PySem.W.Frag)(mg:Str→Option aA)(base:bU)(N:List Str)(qual:Str)(scope:iI)(f:ae)(cd:aA)(A:eB)(outer:List Env)(s:aS)(H:Hp)(E:XK):Cx where
 prog:=P
 w:=w
 K:=K
 mg:=mg
 base:=base
 A:=A.deeper (oH qual scope s.heap.objs.size f cd)
 N:=N
 s_0:=s
 H_0:=H
 env:=oH qual scope s.heap.objs.size f cd
 outer:=outer
 stack:=oH qual scope s.heap.objs.size f cd::outer
 ex:=[]
 calm:=true
 fn:=fun _=>true
 pn:=[]
 xe:=fun e s'=>aD (aP P w) (A.deeper (oH qual scope s.heap.objs.size f cd)) (leaving (oH qual scope s.heap.objs.size f cd) e) (fun _ EM=>CX outer H s E e EM) (fun e' EM=>CX outer H s E e' EM) s'
theorem L_{sc:iI}(h:sc.names.lookup x=some .cell):∃c,(gP n sc.names []).lookup x=some c:=by
 have q:=PySem.W.cellsFrom_some sc.names n [] (.inl h);exact EN.mp q
theorem ZL{K:PySem.W.Frag}
  (S:aN N ps scope) (hd:A.handled=none) (e0:sA P w K mg base A outer s H) (hl:vs.length=ps.length) (r:a7 vs us)
  (x:InCallC s s.heap.objs.size (sC (oH qual scope s.heap.objs.size f cd).kindOf (ps.zip us) fun _=>none) (gP (s.heap.objs.size+1) scope.names []) (sD (oH qual scope s.heap.objs.size f cd).kindOf (ps.zip us) fun _=>none) s1):
  Inv (aO CX P w K mg base N qual scope f cd A outer s H E) [] (start N vs) H s1:=by
 have df:ps.length≤N.length:=by have:=congrArg i5 S.pre;rw[eW]at this;lia
 obtain⟨h1,tk,rfl,hk⟩:=x.done;have vn:∀b:ae,b∉(aO CX P w K mg base N qual scope f cd A outer s H E).ex:=fun b z=>absurd (show b∈([]:List ae)from z) (by simp);refine⟨⟨e0.mod,S.kind,rfl,rfl,a9 _,fun y z c h1 h2=>?_,fun y hy=>?_,fun y c _ h=>?_,fun _=>hd,Around.frames_deeper e0.frames,.inr ⟨rfl,rfl⟩,fun b z=>absurd z (vn b),e0.bs,e0.m4,fun b _ _=>vn b,fun b z=>absurd z (vn b),e0.lC,e0.rX⟩,
  rfl,e0.bare,Un.kept hk,⟨_,x.toInCall.ns,fun i y v h1 h2 h3=>?_⟩,fun y c h=>⟨_,x.cell y c h⟩,e0.aU.fresh (a9 _),fun y c h=>?_,fun p hp=>absurd (show p∈([]:List (ae×Obj))from hp) (by simp),e0.aU.kept hk,?_⟩
 ·exact name_of_addr x.apart (PySem.mem_of_lookup h1) (PySem.mem_of_lookup h2)
 ·have hy:scope.names.lookup y=some .cell∨scope.names.lookup y=some .free:=hy;rcases hy with hy|hy
  ·exact L_ hy
  ·exact absurd rfl (S.ZK _ (PySem.mem_of_lookup hy))
 ·exact D9 (x.above y c (PySem.mem_of_lookup h))
 ·have hi:i<vs.length:=by
   unfold start at h2;by_cases hi:i<vs.length
   ·exact hi
   ·rw[Ma (by simpa using hi)]at h2;rw[ZM]at h2;split at h2 <;>cases h2
  have ha:vs[i]?=some v:=by
   unfold start at h2;rw[EO (by simpa using hi),cR]at h2;cases e:vs[i]? with
   |none=>rw[e]at h2;cases h2
   |some a=>rw[e]at h2;cases h2;rfl
  obtain⟨u,hu,rv⟩:=r.get ha;have hp:ps[i]?=some y:=by
   rw[←S.pre,ZN (by lia)];exact h1
  have Mb:ps.Nodup:=by rw[←S.pre];exact S.nd.sublist (List.take_sublist _ _)
  refine⟨u,rv,?_⟩;rcases S.LY y (dI hp)with k|k
  ·exact .inl ⟨k,L6 Mb hp hu k⟩
  ·obtain⟨c,e⟩:=L_ (n:=s.heap.objs.size+1) k;refine .inr ⟨.inl k,c,e,?_⟩;have q:=x.cell y c e;rw[L8 Mb hp hu (by show scope.names.lookup y≠_;rw[k];decide)]at q;exact q
 ·exact e0.aU.fresh (D9 (x.above y c (PySem.mem_of_lookup h)))
 ·unfold start;show _=N.length;rw[bT,aB,vo]
  lia
theorem ZO{K:PySem.W.Frag}{dV kV doc pm dy ct oc:aA}
  (lk:K.lookup f=some ⟨oc,od,.func (PySem.W.fnOf name qual params body scope dV kV doc pm an dy ct),oI⟩) (gw:PySem.W.codeIn K dy qual=true) (S:aN N ps scope)
  (len:∀vs H Q E,sp vs H Q E→vs.length=ps.length)
  (xQ:∀A outer s H vs Q E,eC k (A.deeper (oH qual scope s.heap.objs.size f dy))→sp vs H Q E→
   ∃t,jy (aO CX P w K mg base N qual scope f dy A outer s H E) body t∧t {nx:=fun _ H'=>Q .aC H',rt:=Q} (start N vs) H):
  fC P w K mg base CX (k+1) f (PySem.W.fnOf name qual params body scope dV kV doc pm an dy ct) ps sp:=by
 refine⟨len,fun A outer s H args us vs Q E hr e0 hb r nj=>?_⟩;have hl:=len _ _ _ _ nj;have KX:K.In s.heap:=e0.mod.uT.keeps fun b o e=>(e0.bs b o e).1;have lim:s.heap.NoLimit:=e0.mod.nolimit.keeps fun b o e=>(e0.bs b o e).1;have ZP:∀y∈ps.zip us,scope.names.lookup y.1=some .local∨(scope.names.lookup y.1=some .cell∧((gP (s.heap.objs.size+1) scope.names []).lookup y.1).isSome=true):=fun⟨n,v⟩ hy=>by
  rcases S.LY n (L7 hy).1 with q|q
  ·exact .inl q
  ·exact .inr ⟨q,PySem.W.cellsFrom_some _ _ _ (.inl q)⟩
 refine codeAny_call_function hr.depth (KX _ _ lk) rfl S.co S.gen rfl (PySem.W.codeRec_of KX gw) (hb _ _ _ _ ?_);refine wpAny_newFunctionEnv_cells S.kind ZP fun env he s1 x=>?_;subst he;refine⟨lim.keeps x.toInCall.keep,codeAny_func ?_⟩;obtain⟨t,ht,hq⟩:=xQ A outer s H vs Q E (hr.deeper _) nj;have I:Inv (aO CX P w K mg base N qual scope f dy A outer s H E) [] (start N vs) H s1:=ZL S hr.hd e0 hl r x;refine lD (ht [] s1 (start N vs) H _ I hq) (fun fl s' hs=>?_) fun e s' hs=>hs;have fin:∀{σ':St}{H':Hp}{v:V}{u:aA},Inv (aO CX P w K mg base N qual scope f dy A outer s H E) [] σ' H' s'→RelV v u→Q v H'→CE outer P w H s Q u s':=
  fun{σ' H' v u} J rv q=>⟨v,H',J.os,J.bare,J.base,J.aU,rv,q⟩
 cases fl with
 |ret u=>
  obtain⟨v,σ',H',J,rv,q⟩:=hs;exact fin J rv q
 |next=>
  obtain⟨σ',H',J,q⟩:=hs;exact fin (v:=V.aC) (u:=Value.none) J rfl q
 |brk=>
  obtain⟨_,_,_,q⟩:=hs;exact iZ q
 |cont=>
  obtain⟨_,_,_,q⟩:=hs;exact iZ q
section
variable {X:Cx}{x:Str}{p pos:Pos}{e:aY}{es:List aY}{t:TA}{id T:String}{r:List V→Hp→VK→Prop}
def AR(r:List V→Hp→VK→Prop)(t:TA):TE:=fun σ H Q=>t σ H fun vs H1=>r vs H1 Q
theorem gB(hc:jY X (.builtin id) r)(hg:Gl X x)(hm:X.mg x=none)(hv:uU x=some (.builtin id))(ha:PA X (e::es) t)(hn:x≠"__name__":=by decide)(iL:(x==("__debug__":Str))=false:=by decide)
  (he:bo (e::es) X.env=(false,eval e X.env)::bo es X.env:=by rfl) (df:(g9 pos (bo es X.env)).any (·.1)=false:=by rfl):PE X (.Call (.Name x p) (e::es) [] pos) (AR r t):=by
 intro pins s σ H Q I h;refine xP (m6 I hg hm hv ?_ hn iL);exact ao1 (aT (ha pos pins s σ H _ I h) fun us s1 ⟨vs,H1,I1,r1,q1⟩=>hc pins s1 σ H1 vs us Q I1 r1 q1) he df
theorem oJ(hc:jY X (.type T) r)(hg:Gl X x)(hm:X.mg x=none)(hv:uU x=some (.type T))(ha:PA X (e::es) t)(hn:x≠"__name__":=by decide)(iL:(x==("__debug__":Str))=false:=by decide)
  (he:bo (e::es) X.env=(false,eval e X.env)::bo es X.env:=by rfl) (df:(g9 pos (bo es X.env)).any (·.1)=false:=by rfl):PE X (.Call (.Name x p) (e::es) [] pos) (AR r t):=by
 intro pins s σ H Q I h;refine xP (m6 I hg hm hv ?_ hn iL);exact qf (aT (ha pos pins s σ H _ I h) fun us s1 ⟨vs,H1,I1,r1,q1⟩=>hc pins s1 σ H1 vs us Q I1 r1 q1) he df
end
end L2
namespace HT
open PySem PyProof.Rows
section
open PySem.SeqAt
open PySem.AutoSeq1 (wpAny_loadPart')
open PySem.MeetsSeq PySem.MeetsSeq2 PySem.MeetsSeq3
end
section
variable {prog:cQ}{w:cD}{A:eB}{E:aA→aS→Prop}{s:aS}
def bH(n d:Nat):Option Int→Nat
 |none=>d
 |some v=>if v<0 then(v+(n:Int)).toNat else min v.toNat n
theorem EQ n d:bH n d none=d:=rfl
theorem AS(n d k:Nat):bH n d (some (k:Int))=min k n:=by
 show(if(k:Int)<0 then((k:Int)+(n:Int)).toNat else min (k:Int).toNat n)=min k n;rw[if_neg (by lia),ml]
theorem ZQ n d(hd:d≤n)o:bH n d o≤n:=by
 cases o with
 |none=>exact hd
 |some v=>
  show(if v<0 then(v+(n:Int)).toNat else min v.toNat n)≤n;by_cases hv:v<0
  ·rw[if_pos hv];lia
  ·rw[if_neg hv];exact Nat.min_le_right _ _
theorem Mc v(n d:Nat):(if v<0 then max (v+(n:Int)) 0 else min v (n:Int))=((bH n d (some v):Nat):Int):=by
 show(if v<0 then max (v+(n:Int)) 0 else min v (n:Int))=(((if v<0 then(v+(n:Int)).toNat else min v.toNat n):Nat):Int);by_cases hv:v<0
 ·simp only[if_pos hv];lia
 ·simp only[if_neg hv];lia
theorem ZR lo hi(n:Nat):Md lo hi 1 (n:Int)=(((bH n 0 lo:Nat):Int),((bH n n hi:Nat):Int)):=by
 have h1:¬((1:Int)<0):=by lia
 unfold Md;simp only[h1,if_false];refine ZS ?_ ?_
 ·cases lo with
  |none=>rfl
  |some v=>exact Mc v n 0
 ·cases hi with
  |none=>rfl
  |some v=>exact Mc v n n
theorem ZT(i j:Nat):ER (i:Int) (j:Int) 1=j-i:=by
 unfold ER;have h1:(1:Int)>0:=by lia
 simp only[h1,if_true,Int.ediv_one];split <;>lia
theorem Me(p:oK v o)(h:Q o s):aD (aP prog w) A (ao2 v) Q E s:=by
 cases p with
 |none=>exact ZU h
 |int i t=>exact slicePart_int h
theorem Mf{lo hi:Option Int}{n:Nat}(hs:s.heap.IsSliceOf sl vl vu .none)(pl:oK vl lo)(pu:oK vu hi)
  (h:Q (((bH n 0 lo:Nat):Int),1,bH n n hi-bH n 0 lo) s):aD (aP prog w) A (ZV (.ref sl) (pure (n:Int))) Q E s:=by
 obtain⟨os,sE,AU,xR⟩:=id hs;unfold ZV ao3;refine ay (ay (j3 sE xR (x:=vl) rfl (ay (j3 sE xR (x:=vu) rfl (ay (j3 sE xR (x:=.none) rfl (bc ?_)))))));refine ay (ZU ?_);show aD _ _ (if((1:Int)==0)=true then _ else _) _ _ s;rw[if_neg (by decide)];refine ay (Me pl (ay (Me pu (ay (bc ?_)))));show aD _ _ (match Md lo hi 1 (n:Int)with|(lo,hi)=>pure (lo,(1:Int),ER lo hi 1)) _ _ s;rw[ZR lo hi n];show aD _ _ (pure (((bH n 0 lo:Nat):Int),(1:Int),ER ((bH n 0 lo:Nat):Int) ((bH n n hi:Nat):Int) 1)) _ _ s;rw[ZT];exact bc h
theorem ZW(xs:Array aA)(i k:Nat):((bP k).filterMap fun(m:Nat)=>xs[((i:Int)+(m:Int)*1).toNat]?).toArray=((xs.toList.drop i).take k).toArray:=by
 have e:(fun(m:Nat)=>xs[((i:Int)+(m:Int)*1).toNat]?)=fun m=>xs[i+m]?:=by
  funext m;have:((i:Int)+(m:Int)*1).toNat=i+m:=by lia
  rw[this]
 rw[e];have:=pick_run xs i k;rw[List.filterMap_map]at this;have e2:((fun x=>xs[x]?)∘fun x=>i+x)=fun m=>xs[i+m]?:=rfl;rw[e2]at this;rw[this]
theorem ZX{lo hi:Option Int}(ht:IsTup s.heap t items)(hs:s.heap.IsSliceOf sl vl vu .none)(pl:oK vl lo)(pu:oK vu hi)
  (hw:¬(bH items.size 0 lo=0∧bH items.size items.size hi=items.size))
  (h:Q (.ref s.heap.objs.size) {s with heap:=s.heap.push {cls:=.type "tuple",data:=.seq ((items.toList.drop (bH items.size 0 lo)).take (bH items.size items.size hi-bH items.size 0 lo)).toArray}})
  (hsz:items.size≤bf):aD (aP prog w) A (oM (.ref t) (.ref sl)) Q E s:=by
 have AV:sizeOk (.seq ((items.toList.drop (bH items.size 0 lo)).take (bH items.size items.size hi-bH items.size 0 lo)).toArray):=by
  show((items.toList.drop (bH items.size 0 lo)).take (bH items.size items.size hi-bH items.size 0 lo)).toArray.size≤bf;rw[c7,eW,gj,u1]
  lia
 have hj:bH items.size items.size hi≤items.size:=ZQ _ _ (a9 _) hi;obtain⟨os,sE,AU,xR⟩:=id hs;have ES:s.TypeIs (.ref sl) "slice":=⟨os,sE,AU⟩
 unfold oM
 try with_reducible refine r9 ?_
 first|refine ay (bc ?_)|skip
 refine ay (ZY ht.typeIs (by decide) ?_);refine ay (sF (name:=aZ "__getitem__") ht.typeIs xS
  (oN xS ht.typeIs ZZ ?_ (Z0 _ _)))
 show aD _ _ (Z1 (.ref t)>>=_) _ _ s;refine ay (Z2 ht ?_);refine ay (Mg ES ?_);rw[if_pos (by decide)];refine ay (Mf hs pl pu ?_);have dh:¬((((bH items.size 0 lo:Nat):Int)==0&&(1:Int)==1&&(bH items.size items.size hi-bH items.size 0 lo)==items.size)=true):=by
  intro q;rw[dA,dA]at q;have q1:((bH items.size 0 lo:Nat):Int)=0:=eq_of_beq q.1.1;have q2:bH items.size items.size hi-bH items.size 0 lo=items.size:=eq_of_beq q.2;exact hw ⟨by lia,by lia⟩
 show aD _ _ (if(((bH items.size 0 lo:Nat):Int)==0&&(1:Int)==1&&(bH items.size items.size hi-bH items.size 0 lo)==items.size)=true then _ else _) _ _ s;rw[if_neg dh,ZW]
 first
  |exact ay (m:=ET _) (oO (bc ⟨_,rfl,bc h⟩) AV)
  |exact ay (m:=ET _) (oO (ay (bc (bc ⟨_,rfl,bc h⟩))) AV)
  |exact ay (ay (m:=ET _) (oO (bc (bc ⟨_,rfl,bc h⟩)) AV))
  |exact ay (ay (m:=ET _) (oO (bc ⟨_,rfl,bc h⟩) AV))
end
end HT
namespace L2
open PySem PySem.Spec PyProof.Rows
abbrev TO:=St→Hp→(Option Int→Hp→Prop)→Prop
def PO(X:Cx)(e:Option aY)(t:TO):Prop:=
 ∀pins s (σ:St) H Q,Inv X pins σ H s→t σ H Q→
  aD (aP X.prog X.w) X.A (evalPart e X.env) (fun u s'=>∃o H',Inv X pins σ H' s'∧oK u o∧Q o H') X.xe s
def Z3:TO:=fun _ H Q=>Q none H
def Z4(t:TE):TO:=fun σ H Q=>t σ H fun x H1=>∃i,x=.int i∧Q (some i) H1
section
variable {X:Cx}{e:aY}{te:TE}{lo hi:Option aY}{tl th:TO}{pos p2:Pos}
theorem vq:PO X none Z3:=by
 intro pins s σ H Q I h;rw[Z5];exact bc ⟨none,H,I,.none,h⟩
theorem qk(h:PE X e te):PO X (some e) (Z4 te):=by
 intro pins s σ H Q I hw;rw[evalPart_some];refine aT (h pins s σ H _ I hw) fun u s1 ⟨x,H1,I1,r1,q1⟩=>?_;obtain⟨i,rfl,q⟩:=q1;obtain⟨t,rfl⟩:=r1;exact⟨some i,H1,I1,.int i t,q⟩
def oP(X:Cx)(r:V→Option Int→Option Int→Hp→VK→Prop):Prop:=
 ∀pins s (σ:St) H x v vl vu lo hi sl Q,Inv X pins σ H s→RelV x v→s.heap.IsSliceOf sl vl vu .none→oK vl lo→oK vu hi→r x lo hi H Q→
  ∃T id,typeLookup (.type T) "__getitem__"=pure (some (.builtin id))∧s.TypeIs v T∧aD (aP X.prog X.w) X.A (oM v (.ref sl)) (EP X pins σ Q) X.xe s
theorem oP.or(h:oP X r)(h':oP X r'):oP X (fun x lo hi H Q=>r x lo hi H Q∨r' x lo hi H Q):=by
 intro pins s σ H x v vl vu lo hi sl Q I rx hs pl pu q;rcases q with q|q
 ·exact h pins s σ H x v vl vu lo hi sl Q I rx hs pl pu q
 ·exact h' pins s σ H x v vl vu lo hi sl Q I rx hs pl pu q
def Z6(r:V→Option Int→Option Int→Hp→VK→Prop)(te:TE)(tl th:TO):TE:=fun σ H Q=>te σ H fun x H1=>tl σ H1 fun l H2=>th σ H2 fun u H3=>r x l u H3 Q
theorem sG(hr:oP X r)(he:PE X e te)(hl:PO X lo tl)(hu:PO X hi th):PE X (.Subscript e (.Slice lo hi none p2) pos) (Z6 r te tl th):=by
 intro pins s σ H Q I h;refine Mh (aT (he pins s σ H _ I h) fun v s1 ⟨x,H1,I1,r1,q1⟩=>?_);refine wpAny_Slice (aT (hl pins s1 σ H1 _ I1 q1) fun vl s2 ⟨l,H2,I2,pl,q2⟩=>aT (hu pins s2 σ H2 _ I2 q2) fun vu s3 ⟨u,H3,I3,pu,q3⟩=>?_);rw[Z5];refine bc ?_;have I4:Inv X pins σ H3 {s3 with heap:=s3.heap.push {cls:=.type "slice",data:=.fields #[vl,vu,.none]}}:=I3.kept (t':=s3.toks) fun b ob q=>dW _ q;obtain⟨T,id,hT,ht,hg⟩:=hr pins {s3 with heap:=s3.heap.push {cls:=.type "slice",data:=.fields #[vl,vu,.none]}} σ H3 x v vl vu l u s3.heap.objs.size Q I4 r1 (ao4 ..) pl pu q3;show aD (aP X.prog X.w) X.A (Mi e (.Slice lo hi none p2) v (.ref s3.heap.objs.size)) (EP X pins σ Q) X.xe {s3 with heap:=s3.heap.push {cls:=.type "slice",data:=.fields #[vl,vu,.none]}};exact tail_any (ops:=[.ref s3.heap.objs.size,v]) ht hT hg (by with_unfolding_all rfl)
def iM(xs:List V)(lo hi:Option Int):List V:=(xs.drop (HT.bH xs.length 0 lo)).take (HT.bH xs.length xs.length hi-HT.bH xs.length 0 lo)
theorem Mj xs lo hi:(iM xs lo hi).length≤xs.length:=by
 unfold iM;rw[eW,gj]
 lia
def Z7(K:PySem.W.Frag):V→Option Int→Option Int→Hp→VK→Prop:=fun x lo hi H Q=>∃a xs,x=.ref a∧bV K H a xs∧
 ¬(HT.bH xs.length 0 lo=0∧HT.bH xs.length xs.length hi=xs.length)∧∀p,H p=none→Q (.ref p) (upd H p (.tup (iM xs lo hi)))
theorem Z8:oP X (Z7 X.K):=by
 intro pins s σ H x v vl vu lo hi sl Q I rx hs pl pu h;obtain⟨a,xs,rfl,hx,hw,q⟩:=h;cases rx;obtain⟨au,r,ht,hz⟩:=I.tuple hx;have hlen:au.toArray.size=xs.length:=by rw[c7];exact r.length.symm
 refine⟨"tuple",_,xS.lookup,ht.typeIs,?_⟩;refine HT.ZX ht hs pl pu (by rw[hlen];exact hw) ?_ (by rw[hlen];exact hz);rw[hlen];refine⟨.ref s.heap.objs.size,_,I.laid (t':=s.toks) (o:=.tup (iM xs lo hi)) (fun b ob q=>dW _ q) (a9 _) ?_,rfl,q _ (I.aU.fresh (a9 _))⟩;exact⟨dU (Mj xs lo hi) hz,_,(r.drop (HT.bH xs.length 0 lo)).take (HT.bH xs.length xs.length hi-HT.bH xs.length 0 lo),IsTup.new _ _⟩
end
def lI(n:Nat)(i:Int):Option Nat:=if 0≤i then(if i<n then some i.toNat else none)else if-(n:Int)≤i then some (i+n).toNat else none
def j4{α:Type}(xs:List α)(i:Int):Option α:=(lI xs.length i).bind fun j=>xs[j]?
theorem Ml(h:lI n i=some j):seqIndex? i n=some j∧j<n∧ -(n:Int)≤i∧i<n:=by
 unfold lI at h;by_cases h0:0≤i
 ·rw[if_pos h0]at h;by_cases h1:i<n
  ·rw[if_pos h1]at h;have e:i.toNat=j:=bS h;exact⟨by rw[Mm h0 h1,e],by lia,by lia,h1⟩
  ·rw[if_neg h1]at h;cases h
 ·rw[if_neg h0]at h;by_cases h1: -(n:Int)≤i
  ·rw[if_pos h1]at h;have e:(i+n).toNat=j:=bS h;exact⟨by rw[seqIndex_neg (by lia) h1,e],by lia,h1,by lia⟩
  ·rw[if_neg h1]at h;cases h
theorem EU{α:Type}{xs:List α}{v:α}(h:j4 xs i=some v):∃j,seqIndex? i xs.length=some j∧xs[j]?=some v∧j<xs.length∧ -(xs.length:Int)≤i∧i<xs.length:=by
 unfold j4 at h;cases e:lI xs.length i with
 |none=>rw[e]at h;cases h
 |some j=>
  rw[e]at h;obtain⟨h1,h2,h3,h4⟩:=Ml e;exact⟨j,h1,h,h2,h3,h4⟩
theorem bX{α:Type}{xs:List α}{j:Nat}{v:α}(h:xs[j]?=some v):j4 xs (j:Int)=some v:=by
 have hj:j<xs.length:=(du.mp h).1;have e:lI xs.length (j:Int)=some j:=by
  unfold lI;rw[if_pos (by lia),if_pos (by lia)];simp
 unfold j4;rw[e];exact h
def Mn(b:aY):Prop:=∀o i,EV b false o i=operate [o,i] (oM o i)
def vv(X:Cx)(r:R2):Prop:=
 ∀value slice pins s (σ:St) H x y v u Q,Inv X pins σ H s→RelV x v→RelV y u→r x y H Q→
  EV slice false v u=operate [v,u] (oM v u)→aD (aP X.prog X.w) X.A (Mi value slice v u) (EP X pins σ Q) X.xe s
def nr(X:Cx)(id:String)(r:V→List V→Hp→VK→Prop):Prop:=
 ∀pins s (σ:St) H x xs v us Q,Inv X pins σ H s→RelV x v→a7 xs us→r x xs H Q→
  aD (aP X.prog X.w) X.A (call (.builtin id) (v::us)) (EP X pins σ Q) X.xe s
section
variable {X:Cx}{a b:aY}{ta tb:TE}{pos:Pos}
theorem Z9(hr:vv X r)(ha:PE X a ta)(hb:PE X b tb)(hs:Mn b):PE X (.Subscript a b pos) (sk r ta tb):=by
 intro pins s σ H Q I h;exact Mh (Ex ha hb I h fun v u s2 x y H2 I2 rx ry q=>hr a b pins s2 σ H2 x y v u Q I2 rx ry q (hs _ _))
inductive EW(K:PySem.W.Frag)(x y:V)(H:Hp)(Q:VK):Prop
 |mk:∀p xs i v,x=.ref p→y=.int i→ai K H p xs→j4 xs i=some v→Q v H→EW K x y H Q
inductive Mo(K:PySem.W.Frag)(x y:V)(H:Hp)(Q:VK):Prop
 |mk:∀p xs i v,x=.ref p→y=.int i→bV K H p xs→j4 xs i=some v→Q v H→Mo K x y H Q
inductive Z_(x y:V)(H:Hp)(Q:VK):Prop|mk z i c:x=.str z→y=.int i→z.length≤bf→j4 z.cps.toList i=some c→Q (.str ⟨#[c]⟩) H→Z_ x y H Q
theorem cF:vv X (EW X.K):=by
 intro value slice pins s σ H x y v u Q I rx ry h hs;obtain⟨p,xs,i,z,rfl,rfl,hq,he,q⟩:=h;cases rx;obtain⟨t,rfl⟩:=ry;obtain⟨au,r,pl,hz⟩:=I.list hq;obtain⟨j,h1,h2,h3,h4,h5⟩:=EU he;obtain⟨w,ew,mn⟩:=r.get h2;have hl:=r.length;have hn:=vg;have fin:EP X pins σ Q w s:=⟨z,H,I,mn,q⟩
 by_cases h0:0≤i
 ·have hj:i.toNat=j:=by
   rw[Mm h0 h5]at h1;exact bS h1
  exact item_listR pl.isList h0 (by lia) (by rw[hj];simpa using ew) fin hs
 ·have hj:(i+(au.toArray.size:Int)).toNat=j:=by
   rw[seqIndex_neg (by lia) h4]at h1;rw[c7,←hl];exact bS h1
  exact aaa (x:=w) pl.isList.typeIs aab.lookup
   (wpAny_getItem_list_neg (Q:=fun r s'=>r=w∧EP X pins σ Q r s') pl.isList (by lia) (by rw[c7]<;>lia) (by lia) (by rw[hj];simpa using ew) ⟨rfl,fin⟩) hs
theorem vw:vv X (Mo X.K):=by
 intro value slice pins s σ H x y v u Q I rx ry h hs;obtain⟨p,xs,i,z,rfl,rfl,hq,he,q⟩:=h;cases rx;obtain⟨t,rfl⟩:=ry;obtain⟨au,r,pl,hz⟩:=I.tuple hq;obtain⟨j,h1,h2,h3,h4,h5⟩:=EU he;obtain⟨w,ew,mn⟩:=r.get h2;have hl:=r.length;have hn:=vg;have fin:EP X pins σ Q w s:=⟨z,H,I,mn,q⟩
 exact aaa (x:=w) pl.typeIs slot_tuple_getitem.lookup
  (getItem_tuple (j:=j) (Q:=fun r s'=>r=w∧EP X pins σ Q r s') pl (by lia) (by lia) (by rw[c7,←hl];exact h1) (by simpa using ew) ⟨rfl,fin⟩) hs
theorem EX:vv X Z_:=by
 intro value slice pins s σ H x y v u Q I rx ry h hs;obtain⟨z,i,c,rfl,rfl,hz,he,q⟩:=h;obtain⟨t,rfl⟩:=rx;obtain⟨t',rfl⟩:=ry;obtain⟨j,h1,h2,h3,h4,h5⟩:=EU he;have hl:z.cps.toList.length=z.length:=by simp[aac]
 rw[hl]at h1 h4 h5;have hn:=vg;exact tail_any (vz s z t) slot_str_getitem.lookup (getItem_str (c:=c) (by
  have e1:decide (i< -(2^63:Int))=false:=decide_eq_false (by lia);have e2:decide (i≥2^63)=false:=decide_eq_false (by lia);rw[e1,e2,Mp]) (by rw[h1];simpa using h2) ⟨.str ⟨#[c]⟩,H,I.tok _,⟨_,rfl⟩,q⟩) hs
theorem aad(au:List aA)n j u:xT (·.setIfInBounds j u) {cls:=.type "list",data:=.seq au.toArray n}={cls:=.type "list",data:=.seq (au.set j u).toArray n}:=by
 simp[xT]
theorem Inv.lst{σ:St}(I:Inv X pins σ H s)(h:H p=some (.lst xs)):
  ∃(au:List aA) (n:Nat),a7 xs au∧s.heap.get? p=some {cls:=.type "list",data:=.seq au.toArray n}∧xs.length≤bf:=by
 obtain⟨z,au,n,r,e⟩:=I.aU p _ h;exact⟨au,n,r,e,z⟩
theorem Inv.aae{σ:St}{au its':List aA}(I:Inv X pins σ H s)(h:H p=some (.lst xs))
  (ho:s.heap.get? p=some {cls:=.type "list",data:=.seq au.toArray n}) (hf:f {cls:=.type "list",data:=.seq au.toArray n}={cls:=.type "list",data:=.seq its'.toArray n'}) (r:a7 ys its') (hz:ys.length≤bf) t:
  Inv X pins σ (upd H p (.lst ys)) {s with heap:=s.heap.update p f,toks:=t}:=by
 have e:(s.heap.update p f).get? p=some {cls:=.type "list",data:=.seq its'.toArray n'}:=by
  rw[Mq f ho (by rw[hf]<;>rfl),hf]
 refine I.write (x:=p) (e:=p) (by rw[h];trivial) (.inl rfl) (fun b u hb q=>(aaf _ _ (Ne.symm hb)).trans q) ⟨_,e⟩ ?_;exact⟨hz,its',n',r,e⟩
def aag:V→V→V→Hp→(Hp→Prop)→Prop:=fun o i v H Q=>∃p xs k j,o=.ref p∧i=.int k∧H p=some (.lst xs)∧lI xs.length k=some j∧Q (upd H p (.lst (xs.set j v)))
theorem set_list:Lq X aag:=by
 intro pins s σ H o i v ov iv u Q I ro ri rv h;obtain⟨p,xs,k,j,rfl,rfl,hp,hj,q⟩:=h;cases ro;obtain⟨t,rfl⟩:=ri;obtain⟨au,n,r,ho,hz⟩:=I.lst hp;obtain⟨h1,h2,h3,h4⟩:=Ml hj;have hl:=r.length;have hn:=vg;have I':Inv X pins σ (upd H p (.lst (xs.set j v))) {s with heap:=s.heap.update p (xT (·.setIfInBounds j u))}:=
  I.aae hp ho (aad au n j u) (r.set rv j) (by rw[sI];exact hz) s.toks
 by_cases h0:0≤k
 ·have hk:k.toNat=j:=by
   rw[Mm h0 h4]at h1;exact bS h1
  exact PySem.W.ki_setAt ho h0 (by lia) (by rw[c7,←hl];exact h4) (by rw[hk];exact⟨_,I',q⟩)
 ·have hk:(k+(au.toArray.size:Int)).toNat=j:=by
   rw[seqIndex_neg (by lia) h3]at h1;rw[c7,←hl];exact bS h1
  exact PySem.W.ki_setBack ho (by lia) (by rw[c7,←hl];exact h3) (by lia) (by rw[hk];exact⟨_,I',q⟩)
theorem aah lo hi n:(vA lo hi none n).1=((HT.bH n 0 lo:Nat):Int)∧(vA lo hi none n).2.1=((HT.bH n n hi:Nat):Int)∧(vA lo hi none n).2.2=1:=by
 refine⟨?_,?_,rfl⟩
 ·cases lo with
  |none=>simp[vA,HT.bH]
  |some i=>
   simp only[vA,HT.bH,aai,show(1:Int)>0 by decide,if_true];by_cases h:i<0
   ·simp only[h,if_true]<;>lia
   ·simp only[h,if_false]<;>lia
 ·cases hi with
  |none=>simp[vA,HT.bH]
  |some i=>
   simp only[vA,HT.bH,aai,show(1:Int)>0 by decide,if_true];by_cases h:i<0
   ·simp only[h,if_true]<;>lia
   ·simp only[h,if_false]<;>lia
theorem aaj(au:List aA)lo hi:slicePick au.toArray lo hi none=((au.drop (HT.bH au.length 0 lo)).take (HT.bH au.length au.length hi-HT.bH au.length 0 lo)).toArray:=by
 obtain⟨h1,h2,h3⟩:=aah lo hi au.toArray.size;unfold slicePick;rw[h1,h2,h3];simp only[sliceRange_one,pick_run,c7]<;>rfl
def aak(K:PySem.W.Frag):V→Option Int→Option Int→Hp→VK→Prop:=fun x lo hi H Q=>∃a xs,x=.ref a∧ai K H a xs∧∀p,H p=none→Q (.ref p) (upd H p (.lst (iM xs lo hi)))
theorem vB:oP X (aak X.K):=by
 intro pins s σ H x v vl vu lo hi sl Q I rx hs pl pu h;obtain⟨a,xs,rfl,hx,q⟩:=h;cases rx;obtain⟨au,r,ht,hz⟩:=I.list hx;have hlen:=r.length;refine⟨"list",_,aab.lookup,ht.isList.typeIs,?_⟩;refine wpAny_getItem_list_slice ht.isList hs pl pu .none (by simp) ?_ (by rw[c7]<;>lia);rw[aaj,←hlen];refine⟨.ref s.heap.objs.size,_,I.laid (t':=s.toks) (o:=.lst (iM xs lo hi)) (fun b ob q=>dW _ q) (a9 _) ?_,rfl,q _ (I.aU.fresh (a9 _))⟩;exact⟨dU (Mj xs lo hi) hz,_,0,(r.drop (HT.bH xs.length 0 lo)).take (HT.bH xs.length xs.length hi-HT.bH xs.length 0 lo),eP _ rfl⟩
def i6:V→Bool
 | .aC=>true
 | .bl _=>true
 | .int _=>true
 | .str _=>true
 |_=>false
def mq:V→V→Bool
 | .aC,.aC=>true
 | .bl a,.bl b=>a==b
 | .bl a,.int b=>(if a then 1 else 0)==b
 | .int a,.bl b=>a==(if b then 1 else 0)
 | .int a,.int b=>a==b
 | .str a,.str b=>a==b
 |_,_=>false
theorem aal(ry:RelV y u)(rx:RelV x v)(fy:i6 y=true)(fx:i6 x=true):aam A s u v (mq y x):=by
 cases y with
 |aC=>
  cases ry;cases x with
  |aC=>cases rx;exact ao5 _
  |bl b=>cases rx;exact ao6 b
  |int b=>obtain⟨t,rfl⟩:=rx;exact ao7 b t
  |str b=>obtain⟨t,rfl⟩:=rx;exact ao8 b t
  |_=>exact absurd (show false=true from fx) cb
 |bl a=>
  cases ry;cases x with
  |aC=>cases rx;exact ao9 a
  |bl b=>cases rx;exact ao_ a b
  |int b=>obtain⟨t,rfl⟩:=rx;exact apa a b t
  |str b=>obtain⟨t,rfl⟩:=rx;exact apb a b t
  |_=>exact absurd (show false=true from fx) cb
 |int a=>
  obtain⟨t',rfl⟩:=ry;cases x with
  |aC=>cases rx;exact apc a t'
  |bl b=>cases rx;exact apd a t' b
  |int b=>obtain⟨t,rfl⟩:=rx;exact ape a t' b t
  |str b=>obtain⟨t,rfl⟩:=rx;exact X4 a t' b t
  |_=>exact absurd (show false=true from fx) cb
 |str a=>
  obtain⟨t',rfl⟩:=ry;cases x with
  |aC=>cases rx;exact apf a t'
  |bl b=>cases rx;exact apg a t' b
  |int b=>obtain⟨t,rfl⟩:=rx;exact X5 a t' b t
  |str b=>obtain⟨t,rfl⟩:=rx;exact aph a t' b t
  |_=>exact absurd (show false=true from fx) cb
 |_=>exact absurd (show false=true from fy) cb
def i7(x:V)(u:aA):Bool:=match u with
 | .none=>mq .aC x
 | .bool b=>mq (.bl b) x
 | .int i _=>mq (.int i) x
 | .str z _=>mq (.str z) x
 |_=>false
theorem AW(r:RelV y u)(f:i6 y=true):i7 x u=mq y x:=by
 cases y with
 |aC=>cases r;rfl
 |bl b=>cases r;rfl
 |int i=>obtain⟨t,rfl⟩:=r;rfl
 |str z=>obtain⟨t,rfl⟩:=r;rfl
 |_=>exact absurd (show false=true from f) cb
theorem xU:∀{xs}{us},a7 xs us→xs.all i6=true→us.any (i7 x)=xs.any fun y=>mq y x
 |_,_,.nil,_=>rfl
 |y::xs,u::us,.cons r t,f=>by
  rw[mr,dA]at f;rw[mv,mv,AW r f.1,xU t f.2]
theorem vC(rx:RelV x v)(fx:i6 x=true):∀{xs}{us},a7 xs us→xs.all i6=true→∀u∈us,aam A s u v (i7 x u)
 |_,_,.nil,_=>fun u hu=>by cases hu
 |y::xs,u::us,.cons r t,f=>fun u' hu=>by
  rw[mr,dA]at f;rcases b_.mp hu with rfl|hu
  ·rw[AW r f.1];exact aal r rx f.1 fx
  ·exact vC rx fx t f.2 u' hu
def gC(x:V)(xs:List V):Bool:=xs.any fun y=>mq y x
inductive EY(K:PySem.W.Frag)(neg:Bool)(x y:V)(H:Hp)(Q:VK):Prop|mk p xs:y=.ref p→(ai K H p xs∨bV K H p xs)→i6 x=true→xs.all i6=true→Q (.bl (if neg then !gC x xs else gC x xs)) H→EY K neg x y H Q
theorem vD:eQ X (gy .In) (EY X.K false):=by
 intro pins s σ H x y v u Q I rx ry h;obtain⟨p,xs,rfl,hq,fx,fs,q⟩:=h;cases ry;rcases hq with hq|hq
 ·obtain⟨au,r,pl,hz⟩:=I.list hq;refine SeqAt.in_listAt (i7 x) pl.isList (fun w hw=>vC rx fx r fs w (by simpa using hw)) ⟨.bl _,H,I,rfl,?_⟩;rw[show au.toArray.any (i7 x)=au.any (i7 x) by simp,xU r fs];exact q
 ·obtain⟨au,r,pl,hz⟩:=I.tuple hq;refine SeqAt.in_tupleAt (i7 x) pl (fun w hw=>vC rx fx r fs w (by simpa using hw)) ⟨.bl _,H,I,rfl,?_⟩;rw[show au.toArray.any (i7 x)=au.any (i7 x) by simp,xU r fs];exact q
theorem EZ:eQ X (gy .NotIn) (EY X.K true):=by
 intro pins s σ H x y v u Q I rx ry h;obtain⟨p,xs,rfl,hq,fx,fs,q⟩:=h;cases ry;rcases hq with hq|hq
 ·obtain⟨au,r,pl,hz⟩:=I.list hq;refine SeqAt.notIn_listAt (i7 x) pl.isList (fun w hw=>vC rx fx r fs w (by simpa using hw)) ⟨.bl _,H,I,rfl,?_⟩;rw[show au.toArray.any (i7 x)=au.any (i7 x) by simp,xU r fs];exact q
 ·obtain⟨au,r,pl,hz⟩:=I.tuple hq;refine SeqAt.notIn_tupleAt (i7 x) pl (fun w hw=>vC rx fx r fs w (by simpa using hw)) ⟨.bl _,H,I,rfl,?_⟩;rw[show au.toArray.any (i7 x)=au.any (i7 x) by simp,xU r fs];exact q
inductive Ln_(K:PySem.W.Frag)(xs:List V)(H:Hp)(Q:VK):Prop|mk p ys:xs=[.ref p]→ai K H p ys∨bV K H p ys→Q (.int ys.length) H→Ln_ K xs H Q
theorem aan:jY X (.builtin "len") (Ln_ X.K):=by
 intro pins s σ H xs us Q I r h;obtain⟨p,ys,rfl,hq,q⟩:=h;obtain⟨u,rfl,rx⟩:=vals1 r;cases rx;have hn:=vg;rcases hq with hq|hq
 ·obtain⟨au,r',pl,hz⟩:=I.list hq;have hlen:=r'.length;exact Calls.call_len_list pl.isList (by simp only[c7]<;>lia) ⟨.int ys.length,H,I.tok _,⟨s.toks+1,by rw[c7,hlen]⟩,q⟩
 ·obtain⟨au,r',pl,hz⟩:=I.tuple hq;have hlen:=r'.length;exact len_tuple pl (by simp only[c7]<;>lia) ⟨.int ys.length,H,I.tok _,⟨s.toks+1,by rw[c7,hlen]⟩,q⟩
theorem AX:jY X (.builtin "len") (fun xs H Q=>∃z,xs=[.str z]∧z.length≤bf∧Q (.int z.length) H):=by
 intro pins s σ H xs us Q I r h;obtain⟨z,rfl,hz,q⟩:=h;obtain⟨u,rfl,t,rfl⟩:=vals1 r;have hn:=vg;exact len_str (by lia) ⟨.int z.length,H,I.tok _,⟨_,rfl⟩,q⟩
theorem Mr:jY X (.type "list") (fun xs H Q=>∃p ys,xs=[.ref p]∧(ai X.K H p ys∨bV X.K H p ys)∧∀l,H l=none→Q (.ref l) (upd H l (.lst ys))):=by
 intro pins s σ H xs us Q I r h;obtain⟨p,ys,rfl,hq,q⟩:=h;obtain⟨u,rfl,rx⟩:=vals1 r;cases rx;have fin:∀(au:List aA),a7 ys au→ys.length≤bf→∀(h':bU) (c':Nat),(∀b o',s.heap.get? b=some o'→h'.get? b=some o')→
   h'.get? s.heap.objs.size=some {cls:=.type "list",dict:=none,data:=.seq au.toArray c',slots:= #[]}→EP X pins σ Q (.ref s.heap.objs.size) {s with heap:=h'}:=fun au r' hz h' c' kp e=>
  ⟨.ref s.heap.objs.size,_,I.laid (t':=s.toks) kp (a9 _) (show eN X.prog X.w _ h' _ (.lst ys)from⟨hz,au,c',r',e⟩),rfl,q _ (I.aU.fresh (a9 _))⟩
 rcases hq with hq|hq
 ·obtain⟨au,r',pl,hz⟩:=I.list hq;have hlen:=r'.length;obtain⟨o,ho,hc,n,hd⟩:=pl.isList;exact aao p (.inl rfl) ho hc hd (fun h' c' kp e=>fin au r' hz h' c' kp e) (by simp only[c7]<;>lia)
 ·obtain⟨au,r',pl,hz⟩:=I.tuple hq;have hlen:=r'.length;obtain⟨o,ho,hc,n,hd⟩:=pl;exact aao p (.inr rfl) ho hc hd (fun h' c' kp e=>fin au r' hz h' c' kp e) (by simp only[c7]<;>lia)
def Ms(K:PySem.W.Frag)(T:String)(x:V)(H:Hp):Prop:=match x with
 | .str _=>T="str"
 | .int _=>T="int"
 | .ref p=>(T="list"∧∃xs,ai K H p xs)∨(T="tuple"∧∃o,K.lookup p=some o∧o.cls=.type "tuple"∧o.dict=none)∨
   (T="dict"∧((∃aq,H p=some (.dK aq))∨∃aq,H p=some (.dT aq)))∨(T="set"∧∃S n,H p=some (.set S n))
 |_=>False
theorem aap{σ:St}(I:Inv X pins σ H s)(r:RelV x v)(ty:Ms X.K T x H):
  s.TypeIs v T∧∀a,v=.ref a→∃ob,s.heap.get? a=some ob∧ob.dict=none:=by
 cases x with
 |str z=>
  obtain⟨t,rfl⟩:=r;cases (show T="str" from ty);exact⟨vz s z t,fun _ e=>nomatch e⟩
 |int i=>
  obtain⟨t,rfl⟩:=r;cases (show T="int" from ty);exact⟨Mt s i t,fun _ e=>nomatch e⟩
 |ref p=>
  cases r;rcases ty with⟨rfl,xs,hq⟩|⟨rfl,o,hk,hc,hd⟩|⟨rfl,hk⟩|⟨rfl,S,n,hk⟩
  ·obtain⟨au,_,pl,_⟩:=I.list hq;refine⟨pl.isList.typeIs,fun a e=>?_⟩;cases e;obtain⟨o,n,e,c,hd,_⟩:=pl;exact⟨o,e,hd⟩
  ·refine⟨⟨o,I.iq p o hk,hc⟩,fun a e=>?_⟩;cases e;exact⟨o,I.iq _ o hk,hd⟩
  ·have z:∃o,s.heap.get? p=some o∧o.ExactDict:=by
    rcases hk with⟨aq,hk⟩|⟨aq,hk⟩
    ·obtain⟨_,_,_,_,o,_,_,e,ex,_⟩:=I.aU p _ hk;exact⟨o,e,ex⟩
    ·obtain⟨_,_,_,_,o,_,_,e,ex,_⟩:=I.aU p _ hk;exact⟨o,e,ex⟩
   obtain⟨o,e,ex⟩:=z;refine⟨⟨o,e,ex.1⟩,fun a e2=>?_⟩;cases e2;exact⟨o,e,ex.2.1⟩
  ·obtain⟨o,_,_,_,e,ex,_⟩:=I.aU p _ hk;refine⟨⟨o,e,ex.1⟩,fun a e2=>?_⟩;cases e2;exact⟨o,e,ex.2.1⟩
 |_=>exact iZ ty
def tBM(K:PySem.W.Frag)(T:String)(r:V→List V→Hp→VK→Prop)(to:TE)(t:TA):TE:=fun σ H Q=>to σ H fun x H1=>Ms K T x H1∧t σ H1 fun xs H2=>r x xs H2 Q
variable {o e:aY}{es:List aY}{to:TE}{t:TA}{name:Str}{apos nu:Pos}{T id:String}{r:V→List V→Hp→VK→Prop}
theorem d4(pa:PlainAttrs T)(slot:Slot T name id)(vE:typeOf (.builtin id)=pure (.type "method_descriptor"))(hm:nr X id r)(ho:PE X o to)(ha:PA X (e::es) t)
  (mw:oG o name X.env (eval o X.env)=eval o X.env:=by rfl)
  (AY:((g9 nu (bo (e::es) X.env)).all (fun x=> !x.1)&&(EG nu (EH [] X.env)).all (fun x=>x.1.isSome)
   &&decide ((e::es).length+([]:List Keyword).length+(if([]:List Keyword).isEmpty then 0 else 1)<30))=true:=by rfl)
  (j5:(apos.endLine==nu.line)=true:=by rfl) (hs:bo (e::es) X.env=(false,eval e X.env)::bo es X.env:=by rfl) (aar:(g9 nu (bo es X.env)).any (·.1)=false:=by rfl):
  PE X (.Call (.Attribute o name apos) (e::es) [] nu) (tBM X.K T r to t):=by
 intro pins s σ H Q I h;refine wpAny_Call_method_late mw AY j5 rfl (aT (ho pins s σ H _ I h) fun v s1 ⟨x,H1,I1,r1,ty,q1⟩=>?_);obtain⟨h1,h2⟩:=aap I1 r1 ty;refine⟨T,id,pa,slot,vE,h1,h2,?_⟩;have hA:=ha nu pins s1 σ H1 _ I1 q1;rw[hs]at hA ⊢;refine Mu (by show(false||(g9 nu (bo es X.env)).any (·.1))=false;rw[aar]<;>rfl) (aas ?_);exact aT hA fun us s2 ⟨vs,H2,I2,r2,q2⟩=>hm pins s2 σ H2 x vs v us Q I2 r1 r2 q2
end
def E1(X:Cx)(id:String)(r:V→List V→Hp→VK→Prop):Prop:=
 ∀pins s (σ:St) H x xs v us Q,Inv X pins σ H s→RelV x v→a7 xs us→r x xs H Q→
  aD (aP X.prog X.w) X.A (call (.builtin id) (v::us)) (EP X pins σ Q) X.xe s
theorem a7.one:∀{x}{us},a7 [x] us→∃u,us=[u]∧RelV x u
 |_,_,.cons r .nil=>⟨_,rfl,r⟩
theorem a7.rep(h:a7 xs us):∀k:Nat,a7 (fj k xs).flatten (fj k us).flatten
 |0=>.nil
 |k+1=>by
  rw[vF,vF,AZ,AZ];exact a7.append h (a7.rep h k)
theorem foldl_rep(au:List aA):∀k acc,
  Mv (fun x1 x2=>x1++x2) acc.toArray (fj k au.toArray)=(acc++(fj k au).flatten).toArray
 |0,acc=>by simp
 |k+1,acc=>by
  have e:acc.toArray++au.toArray=(acc++au).toArray:=by simp
  have e2:(acc++au)++(fj k au).flatten=acc++(fj (k+1) au).flatten:=by
   rw[vF,AZ,mx]
  rw[←e2,←foldl_rep au k (acc++au),←e,vF,nv]
section
variable {X:Cx}{pins:List (ae×Obj)}{σ:St}{H:Hp}{s:aS}{l b:ae}{xs ys zs:List V}
theorem Inv.E2{au its':List aA}(I:Inv X pins σ H s)(hH:H l=some (.lst xs))
  (e:s.heap.get? l=some {cls:=.type "list",data:=.seq au.toArray n}) (hf:f au.toArray=its'.toArray) (hv:a7 ys its') (hz:ys.length≤bf):
  Inv X pins σ (upd H l (.lst ys)) {s with heap:=s.heap.update l (xT f),toks:=t'}:=by
 have q:=PySem.IsL.update e f;rw[hf]at q;refine I.write (x:=l) (e:=l) (by rw[hH];exact trivial) (.inl rfl) (fun b' u hb hu=>(aaf s.heap (xT f) (Ne.symm hb)).trans hu) ⟨_,q⟩ ?_;exact⟨hz,its',_,hv,q⟩
theorem Inv.Mw(I:Inv X pins σ H s)(hv:a7 ys au)(hz:ys.length≤bf):
  Inv X pins σ (upd H s.heap.objs.size (.lst ys)) {s with heap:=s.heap.push {cls:=.type "list",data:=.seq au.toArray},toks:=t'}:=
 I.laid (fun _ _ q=>dW _ q) (a9 _) ⟨hz,au,0,hv,eP _ rfl⟩
theorem Inv.fresh(I:Inv X pins σ H s):H s.heap.objs.size=none:=I.aU.fresh (a9 _)
theorem Inv.sJ(I:Inv X pins σ H s)(hH:H l=some (.lst xs)):xs.length≤bf∧∃(au:List aA) (n:Nat),a7 xs au∧xs.length=au.length∧s.heap.get? l=some {cls:=.type "list",data:=.seq au.toArray n}:=by
 obtain⟨z,au,n,r,e⟩:=I.aU l _ hH;exact⟨z,au,n,r,r.length,e⟩
theorem E3(h:n≤bf):xV n=false:=by
 unfold xV;exact decide_eq_false (by lia)
end
section
variable {X:Cx}
def aat:V→List V→Hp→VK→Prop:=fun x vs H Q=>∃l xs y,x=.ref l∧vs=[y]∧H l=some (.lst xs)∧xs.length<bf∧Q .aC (upd H l (.lst (xs++[y])))
theorem gQ:E1 X "list.append" aat:=by
 intro pins s σ H x vs v us Q I rx rv h;obtain⟨l,xs,y,rfl,rfl,hH,hz,q⟩:=h;cases rx;obtain⟨u,rfl,ru⟩:=rv.one;obtain⟨z,au,n,r,hl,e⟩:=I.sJ hH;refine ql F.slot_list_append ⟨_,e,rfl⟩ F.entry_list_append (F.args_list_append_2 _ _) (PySem.list_append l au.toArray n u (by rw[c7];lia)) ⟨e,?_⟩;refine⟨.aC,_,I.E2 (its':=au++[u]) hH e (by simp) (r.append (.cons ru .nil)) ?_,rfl,q⟩;rw[bT,jB]
 lia
def aau:V→List V→Hp→VK→Prop:=fun x vs H Q=>∃l b xs zs,x=.ref l∧vs=[.ref b]∧H l=some (.lst xs)∧H b=some (.lst zs)∧xs.length+zs.length≤bf∧Q .aC (upd H l (.lst (xs++zs)))
theorem qm:E1 X "list.extend" aau:=by
 intro pins s σ H x vs v us Q I rx rv h;obtain⟨l,b,xs,zs,rfl,rfl,hH,hB,hz,q⟩:=h;cases rx;obtain⟨u,rfl,ru⟩:=rv.one;cases ru;obtain⟨z,au,n,r,hl,e⟩:=I.sJ hH;obtain⟨z2,fV,n2,r2,qo,e2⟩:=I.sJ hB;have hsz:au.toArray.size+fV.toArray.size≤bf:=by rw[c7,c7];lia
 have sM:¬(!au.toArray.isEmpty&&xV (au.toArray.size+fV.toArray.size))=true:=by
  rw[E3 hsz,xW];exact cb
 refine ql aav ⟨_,e,rfl⟩ aaw (aax _ _)
  (AutoSeq1.list_extend_list_list_0 l au.toArray n b fV.toArray n2 sM (by rw[c7];lia) (by lia)) ⟨e,e2,?_⟩
 refine⟨.aC,_,I.E2 (its':=au++fV) hH e (by simp) (r.append r2) ?_,rfl,q⟩;rw[bT]
 lia
inductive E4(x y:V)(H:Hp)(Q:VK):Prop|mk l b xs zs:x=.ref l→y=.ref b→H l=some (.lst xs)→H b=some (.lst zs)→xs.length+zs.length≤bf→(∀p,H p=none→Q (.ref p) (upd H p (.lst (xs++zs))))→E4 x y H Q
theorem my:eQ X (sr .Add) E4:=by
 intro pins s σ H x y v u Q I rx ry h;obtain⟨l,b,xs,zs,rfl,rfl,hH,hB,hz,q⟩:=h;cases rx;cases ry;obtain⟨z,au,n,r,hl,e⟩:=I.sJ hH;obtain⟨z2,fV,n2,r2,qo,e2⟩:=I.sJ hB;refine PySem.P.add_list e e2 ?_ (by rw[c7,c7];lia);have ea:au.toArray++fV.toArray=(au++fV).toArray:=by simp
 rw[ea];exact⟨.ref _,_,I.Mw (t':=s.toks) (r.append r2) (by rw[bT];lia),rfl,q _ I.fresh⟩
inductive aay(x y:V)(H:Hp)(Q:VK):Prop|mk l k xs:x=.ref l→y=.int k→H l=some (.lst xs)→-(2^63)≤k→k<2^63→xs.length*k.toNat≤bf→(∀p,H p=none→Q (.ref p) (upd H p (.lst (fj k.toNat xs).flatten)))→aay x y H Q
theorem len_rep{α:Type}(xs:List α)k:(fj k xs).flatten.length=k*xs.length:=by
 induction k with
 |zero=>simp
 |succ k ih=>rw[vF,AZ,bT,ih,aaz,A0]
theorem Mx:eQ X (sr .Mult) aay:=by
 intro pins s σ H x y v u Q I rx ry h;obtain⟨l,k,xs,rfl,rfl,hH,h1,h2,hz,q⟩:=h;cases rx;obtain⟨t,rfl⟩:=ry;obtain⟨z,au,n,r,hl,e⟩:=I.sJ hH;have hlen:au.toArray.size*k.toNat≤bf:=by rw[c7,←hl];exact hz
 have aaA:¬au.toArray.size*k.toNat>(2^63-1)/8:=by
  have:(bf:Nat)≤(2^63-1)/8:=by decide
  lia
 have eX:¬(!Builtin.List.listFitsIndex k)=true:=by
  rw[fitsIndex_both h1 h2];exact cb
 have sM:¬xV (au.toArray.size*k.toNat)=true:=by
  rw[E3 hlen];exact cb
 have aaB:Mv (fun x1 x2=>x1++x2) #[] (fj (if au.toArray.isEmpty=true then 0 else k.toNat) au.toArray)=(fj k.toNat au).flatten.toArray:=by
  have f0:∀m:Nat,Mv (fun x1 x2=>x1++x2) #[] (fj m au.toArray)=(fj m au).flatten.toArray:=fun m=>by
   have:=foldl_rep au m [];rw[xX]at this;exact this
  rw[f0];cases au with
  |nil=>simp
  |cons a r'=>rw[if_neg (by simp)]
 refine wpAny_binaryOp_repeat_ref (T:="list") (U:="int") (by decide) ⟨_,e,rfl⟩ (fun s'=>Mt s' k t) noFill_list_mul F.fills_int_mul aaC repeat_list F.slot_int_index.lookup
  (ql aaC (Mt s k t) F.entry_int_rmul (F.args_int_rmul_2 _ _) (int___rmul___int_list k t l au.toArray n)
   ⟨e,rfl,⟨_,e,rfl⟩,ql F.slot_list_mul ⟨_,e,rfl⟩ F.entry_list_mul (F.args_list_mul_2 _ _) (api l au.toArray n k t eX aaA sM) ⟨e,?_⟩⟩)
 rw[aaB];exact⟨.ref _,_,I.Mw (t':=s.toks) (r.rep k.toNat) (by rw[len_rep,aaD];exact hz),rfl,q _ I.fresh⟩
end
section
variable {prog:cQ}{w:cD}{A:eB}{E:aA→aS→Prop}{s:aS}
end
section
variable {X:Cx}
end
theorem a7.ints:∀{ns}{us},a7 (ns.map V.int) us→IntsAre us ns
 |[],us,h=>by
  rw[My]at h;cases h;exact IntsAre.nil
 |n::ns,us,h=>by
  rw[dw]at h;cases h with
  |cons r t=>
   obtain⟨k,rfl⟩:=r;exact IntsAre.cons n k (a7.ints t)
theorem a7.Mz:∀{bs:List Bool}{us},a7 (bs.map V.bl) us→us=bs.map Value.bool
 |[],us,h=>by
  rw[My]at h;cases h;rfl
 |b::bs,us,h=>by
  rw[dw]at h;cases h with
  |cons r t=>
   cases r;rw[a7.Mz t,dw]
theorem a7.A1(r:a7 [V.ref a] us):us=[dF a]:=by
 cases r with
 |cons r t=>
  cases t;cases r;rfl
section
variable {prog:cQ}{w:cD}{A:eB}{E:aA→aS→Prop}{s:aS}{l:ae}{au:List aA}{ns:List Int}{Q:aA→aS→Prop}
theorem aaE(hh:A.handled=none)(hl:s.heap.IsList l au.toArray)(hi:IntsAre au ns)
  (h:∀h' tk t',(∀b o,s.heap.get? b=some o→h'.get? b=some o)→Q (.int ns.sum t') {s with heap:=h',toks:=tk}):aD (aP prog w) A (call (.builtin "sum") [.ref l]) Q E s:=by
 obtain⟨xs,e⟩:=hi.allInts.items;have hn:numsOf (E5 xs).toList=ns:=by rw[←e];exact hi.numsOf
 rw[MA]at hn;rw[e]at hl;refine PySem.sum_intListG hh hl fun h' tk t' hk=>?_;have:=h h' tk t' hk;rw[preSum_eq,A2 (by simp),hn];exact this
theorem aaF(hh:A.handled=none)(hl:s.heap.IsList l au.toArray)(hi:IntsAre au ns)(cU:0<ns.length)
  (h:∀h' tk M t',(∀b o,s.heap.get? b=some o→h'.get? b=some o)→M∈ns→(∀a,a∈ns→a≤M)→Q (.int M t') {s with heap:=h',toks:=tk}):aD (aP prog w) A (call (.builtin "max") [.ref l]) Q E s:=by
 obtain⟨xs,e⟩:=hi.allInts.items;have hn:numsOf (E5 xs).toList=ns:=by rw[←e];exact hi.numsOf
 rw[MA]at hn;subst hn;rw[e]at hl;have hsz:0<xs.size:=by simpa using cU
 refine PySem.max_intList hh hl hsz fun v h' tk hv hk=>?_;obtain⟨t,rfl⟩:=intItems_at hv;obtain⟨h1,h2⟩:=argBest_gt (numAt xs) (xs.size-1);refine h h' tk _ t hk ?_ fun a ha=>?_
 ·rw[numAt_eq];exact PySem.getD_mem (by rw[aB,u1];lia)
 ·obtain⟨j,hj,rfl⟩:=mem_getD ha;rw[aB,u1]at hj;rw[←numAt_eq];exact h2 j (by lia)
end
section
variable {X:Cx}
def aaG(K:PySem.W.Frag):List V→Hp→VK→Prop:=fun vs H Q=>∃(a:ae) (ns:List Int),vs=[V.ref a]∧ai K H a (ns.map V.int)∧Q (.int ns.sum) H
def aaH(K:PySem.W.Frag):List V→Hp→VK→Prop:=fun vs H Q=>∃(a:ae) (ns:List Int),vs=[V.ref a]∧ai K H a (ns.map V.int)∧0<ns.length∧∀m,m∈ns→(∀y,y∈ns→y≤m)→Q (.int m) H
theorem E6(hc:X.calm=true):jY X (.builtin "sum") (aaG X.K):=by
 intro pins s σ H vs us Q I r h;obtain⟨a,ns,rfl,hs,q⟩:=h;obtain⟨au,rv,hl,_⟩:=I.list hs;rw[a7.A1 r];exact aaE (I.ok.hd hc) hl.isList rv.ints fun h' tk t' hk=>⟨.int _,H,I.kept hk,⟨_,rfl⟩,q⟩
theorem aaI(hc:X.calm=true):jY X (.builtin "max") (aaH X.K):=by
 intro pins s σ H vs us Q I r h;obtain⟨a,ns,rfl,hs,cU,q⟩:=h;obtain⟨au,rv,hl,_⟩:=I.list hs;rw[a7.A1 r];exact aaF (I.ok.hd hc) hl.isList rv.ints cU fun h' tk m t' hk h1 h2=>⟨.int _,H,I.kept hk,⟨_,rfl⟩,q m h1 h2⟩
end
section
variable {X:Cx}
def aaJ(K:PySem.W.Frag):V→List V→Hp→VK→Prop:=fun x xs H Q=>∃(a:ae) (ys:List V) (y:V) (j:Nat) (z:V),x=V.ref a∧xs=[y]∧ai K H a ys∧i6 y=true∧ys.all i6=true∧ys[j]?=some z∧mq z y=true∧
 (∀m z',m<j→ys[m]?=some z'→mq z' y=false)∧Q (.int (j:Nat)) H
theorem MB{ys:List V}(f:ys.all i6=true){j:Nat}(h:ys[j]?=some z):i6 z=true:=jC.mp f z (dI h)
set_option tactic.hygienic true in
theorem MC:nr X "list.index" (aaJ X.K):=by
 intro pins s σ H x xs v us Q I rx rxs h;obtain⟨a,ys,y,j,z,rfl,rfl,hs,fy,E7,hz,hzj,dh,q⟩:=h;cases rx;cases rxs with
 |cons ry rt=>
  rename_i uy ut;cases rt;obtain⟨au,rv,⟨⟨cls,dd,data,sl⟩,n,ho,hc,hdn,hd⟩,hlen⟩:=I.list hs;simp only at hc hd;subst hc hd;obtain⟨u,hu,ru⟩:=rv.get hz;obtain⟨A3,MD⟩:=du.mp hu;have hvl:=rv.length;have hj:j<au.toArray.size:=by simpa using A3
  have hsl:=LM;refine ql PySem.F.slot_list_index ⟨_,ho,rfl⟩ PySem.F.entry_list_index (PySem.F.args_list_index_2 _ _)
   (SeqAt.list_indexAt a au.toArray n dd sl uy (i7 y) j hj (by lia) ?_ ?_) ⟨ho,fun u' A4=>vC ry fy rv E7 u' (by simpa using A4),?_⟩
  ·have e1:au.toArray[j]=u:=by simpa using MD
   rw[e1,AW ru (MB E7 hz)];exact hzj
  ·intro m hm hmj;have A5:m<au.length:=by simpa using hm
   have hmy:m<ys.length:=by lia
   have iy:ys[m]?=some ys[m]:=di hmy;obtain⟨u2,gR,E8⟩:=rv.get iy;obtain⟨_,hme⟩:=du.mp gR;have e1:au.toArray[m]=u2:=by simpa using hme
   rw[e1,AW E8 (MB E7 iy)];exact dh m _ hmj iy
  ·exact⟨.int (j:Nat),H,I.tok _,⟨_,rfl⟩,q⟩
end
section
variable {X:Cx}
end
theorem aaP(hl:s.heap.IsList l items)
  (h:∀s₂:aS,s₂={s with heap:=s.heap.push {cls:=.type "list_iterator",data:=.fields #[.ref l,.int 0 0]}}→
   (s₂.heap.IsListIter s.heap.objs.size l 0∧s₂.heap.IsList l items)→l≠s.heap.objs.size→Q (.ref s.heap.objs.size) s₂):aD (aP prog w) A (AI (.ref l)) Q E s:=by
 have cW:l<s.heap.objs.size:=by obtain⟨_,e,_⟩:=hl;exact cN e
 exact Ly hl (h _ rfl ⟨⟨_,eP _ rfl,rfl,rfl⟩,hl.push _⟩ (fU cW))
theorem aaQ{bs:List Bool}(e:au=bs.map Value.bool):
  TruthOf prog w A (fun i v=>au.toArray[i]?=some v) (fun i=>bs.getD i false):=fun i v s Q E hv hq=>by
 have vi:au[i]?=some v:=by simpa using hv
 rw[e,cR]at vi;obtain⟨b,hb,rfl⟩:=fP.mp vi;have hg:bs.getD i false=b:=by rw[eS,hb]<;>rfl
 have j2:Q (bs.getD i false) s:=hq;rw[hg]at j2;exact p_ j2
theorem any_range:∀bs:List Bool,(bP bs.length).any (fun i=>bs.getD i false)=bs.any id
 |[]=>rfl
 |b::bs=>by
  rw[b6,E9,mv,List.any_map,mv,←any_range bs]
  all_goals rfl
theorem all_range:∀bs:List Bool,(bP bs.length).all (fun i=>bs.getD i false)=bs.all id
 |[]=>rfl
 |b::bs=>by
  rw[b6,E9,mr,sO,mr,←all_range bs]
  all_goals rfl
section
variable {X:Cx}
def aaR(K:PySem.W.Frag):List V→Hp→VK→Prop:=fun vs H Q=>∃(a:ae) (bs:List Bool),vs=[V.ref a]∧ai K H a (bs.map V.bl)∧Q (.bl (bs.all id)) H
theorem aaS(hc:X.calm=true):jY X (.builtin "all") (aaR X.K):=by
 intro pins s σ H vs us Q I r h;obtain⟨a,bs,rfl,hs,q⟩:=h;obtain⟨au,rv,hl,_⟩:=I.list hs;rw[a7.A1 r];have hb:=rv.Mz;refine call_all_walk (aaP hl.isList fun s₂ e2 st cU=>?_);subst e2;refine⟨_,_,_,_,_,_,_,rfl,Walks.list (A:=X.A.in1) (I.ok.hd hc) _ a cU au.toArray,st,aaQ hb,fun h' tk hk=>?_⟩;refine⟨.bl _,H,I.kept fun b o eo=>hk b o (fun E_=>?_) (dW _ eo),?_,q⟩
 ·rcases b_.mp E_ with e1|E_
  ·exact absurd (e1▸cN eo) (m3 _)
  ·cases E_
 ·show Value.bool _=Value.bool _;rw[←all_range,hb,c7,aB]
end
mutual
inductive Dp(K:PySem.W.Frag)(H:Hp):V→xY→Prop
 |aC:Dp K H .aC .none
 |bl (b:Bool):Dp K H (.bl b) (.bool b)
 |int (i:Int):Dp K H (.int i) (.int i)
 |str (x:Str):Dp K H (.str x) (.str x)
 |lst {a:ae}{xs:List V}{ds:List xY}:ai K H a xs→vG K H xs ds→Dp K H (.ref a) (.list ds)
 |tup {a:ae}{xs:List V}{ds:List xY}:bV K H a xs→vG K H xs ds→Dp K H (.ref a) (.tuple ds)
inductive vG(K:PySem.W.Frag)(H:Hp):List V→List xY→Prop
 |nil:vG K H [] []
 |cons {v:V}{vs:List V}{d:xY}{ds:List xY}:Dp K H v d→vG K H vs ds→vG K H (v::vs) (d::ds)
end
section
variable {X:Cx}{pins:List (ae×Obj)}{σ:St}{H:Hp}{s:aS}
mutual
theorem Dp.reads(I:Inv X pins σ H s):∀d v u,Dp X.K H v d→RelV v u→∃as,Reads s.heap u d as
 | .none,_,_,h,r=>by
  cases h;cases r;exact⟨_,Reads.none⟩
 | .bool b,_,_,h,r=>by
  cases h;cases r;exact⟨_,Reads.bool b⟩
 | .int i,_,_,h,r=>by
  cases h;obtain⟨t,rfl⟩:=r;exact⟨_,Reads.int i t⟩
 | .str x,_,_,h,r=>by
  cases h;obtain⟨t,rfl⟩:=r;exact⟨_,Reads.str x t⟩
 | .list ds,_,_,h,r=>by
  cases h with
  |lst hs ha=>
   cases r;obtain⟨au,rv,⟨o,n,ho,hc,_,hd⟩,_⟩:=I.list hs;obtain⟨as,hr⟩:=Dp.readsAll I ds _ au ha rv;exact⟨_,Reads.list ho hc hd hr⟩
 | .tuple ds,_,_,h,r=>by
  cases h with
  |tup hs ha=>
   cases r;obtain⟨au,rv,⟨o,ho,hc,n,hd⟩,_⟩:=I.tuple hs;obtain⟨as,hr⟩:=Dp.readsAll I ds _ au ha rv;exact⟨_,Reads.tuple ho hc hd hr⟩
 | .dict _,_,_,h,_=>by cases h
theorem Dp.readsAll(I:Inv X pins σ H s):∀ds vs us,vG X.K H vs ds→a7 vs us→∃as,ReadsAll s.heap us ds as
 |[],_,_,h,r=>by
  cases h;cases r;exact⟨_,ReadsAll.nil⟩
 |d::ds,_,_,h,r=>by
  cases h with
  |cons h1 h2=>
   cases r with
   |cons r1 r2=>
    obtain⟨as,q1⟩:=Dp.reads I d _ _ h1 r1;obtain⟨bs,q2⟩:=Dp.readsAll I ds _ _ h2 r2;exact⟨_,ReadsAll.cons q1 q2⟩
end
end
section
variable {X:Cx}
end
abbrev ME(h:bU)(c:ae)(v:Option aA):Prop:=h.IsCell c v
def aaT(scope sc:iI):iI:=
 {scope with names:=scope.names.map fun(n,k)=>if(k==.free&&sc.kind==.function&&sc.names.lookup n==some .cell)then(n,.cell)else(n,k)}
def gD(cells:List (Str×ae)):List (Str×vk)→List (Str×ae)→List (Str×ae)
 |[],acc=>acc
 |(n,k)::r,acc=>if k==.free then gD cells r ((n,(cells.lookup n).getD 0)::acc)else gD cells r acc
theorem MF env f
  (hf:∀n k c,f (n,k) c=if k==.free then(do let a←cellOf env n;pure (.yield ((n,a)::c)))else pure (.yield c)):
  ∀names acc,(∀y∈names,y.2=.free→∃c,env.cells.lookup y.1=some c)→forIn names acc f=pure (gD env.cells names acc)
 |[],acc,_=>by rw[A6];rfl
 |(n,k)::r,acc,h=>by
  rw[Fc,hf];have ih:=fun acc=>MF env f hf r acc fun y hy=>h y (c_ _ hy);unfold gD;by_cases hk:(k==xZ)=true
  ·rw[if_pos hk,if_pos hk];obtain⟨c,hc⟩:=h (n,k) cI (by simpa using hk);have e:cellOf env n=pure c:=by unfold cellOf;rw[hc]
   rw[e];have e2:(env.cells.lookup n).getD 0=c:=by rw[hc];rfl
   rw[e2];exact ih _
  ·rw[if_neg hk,if_neg hk];exact ih _
theorem aaU(h:∀y∈scope.names,y.2=.free→∃c,env.cells.lookup y.1=some c):closureFor scope env=pure (gD env.cells scope.names []):=by
 simp only[closureFor];rw[MF env _ (fun n k c=>rfl) scope.names [] h];rfl
theorem mem_lookup{α:Type}:∀{l:List (Str×α)}{n}{c},(n,c)∈l→∃c',l.lookup n=some c'
 |(k,v)::r,n,c,h=>by
  rw[vH];cases hb:n==k with
  |true=>exact⟨_,rfl⟩
  |false=>
   rcases b_.mp h with e|h
   ·cases e;simp at hb
   ·exact mem_lookup h
theorem A7:∀{names}{acc}{n}{c},(n,c)∈gD cells names acc→(n,c)∈acc∨((n,.free)∈names∧c=(cells.lookup n).getD 0)
 |[],_,_,_,h=>.inl h
 |(m,k)::r,acc,n,c,h=>by
  unfold gD at h;split at h
  ·rename_i hk;have hk:k=.free:=by simpa using hk
   rcases A7 h with h|⟨h1,h2⟩
   ·rcases b_.mp h with e|h
    ·cases e;exact .inr ⟨hk▸cI,rfl⟩
    ·exact .inl h
   ·exact .inr ⟨c_ _ h1,h2⟩
  ·rcases A7 h with h|⟨h1,h2⟩
   ·exact .inl h
   ·exact .inr ⟨c_ _ h1,h2⟩
theorem Fd:∀{names}{acc}{p},p∈acc→p∈gD cells names acc
 |[],_,_,h=>h
 |(m,k)::r,acc,p,h=>by
  unfold gD;split
  ·exact Fd (c_ _ h)
  ·exact Fd h
theorem Fe:∀{names}{acc}{n},(n,.free)∈names→(n,(cells.lookup n).getD 0)∈gD cells names acc
 |(m,k)::r,acc,n,h=>by
  unfold gD;rcases b_.mp h with e|h
  ·cases e;exact Fd cI
  ·split
   ·exact Fe h
   ·exact Fe h
theorem x3:∀{names}{h:bU}{acc}{x}{c},(x,c)∈gP h.objs.size names acc→
  (x,c)∈acc∨((x,.cell)∈names∧h.objs.size≤c∧ME (sP h names) c none)
 |[],_,_,_,_,h=>.inl h
 |(n,k)::r,h,acc,x,c,hm=>by
  unfold gP at hm;unfold sP;split at hm
  ·rename_i hk;rw[if_pos hk];have hk:k=.cell:=by simpa using hk
   rw[←g_ h {cls:=.type "cell",data:=.cell none}]at hm;rcases x3 hm with hm|⟨h1,h2,h3⟩
   ·rcases b_.mp hm with e|hm
    ·cases e;exact .inr ⟨hk▸cI,a9 _,_,Ff r _ _ _ (eP _ rfl),rfl⟩
    ·exact .inl hm
   ·rw[g_]at h2;exact .inr ⟨c_ _ h1,Fg h2,h3⟩
  ·rename_i hk;rw[if_neg hk];rcases x3 hm with hm|⟨h1,h2,h3⟩
   ·exact .inl hm
   ·exact .inr ⟨c_ _ h1,h2,h3⟩
theorem A8:∀{names}{n}{acc}{p},p∈acc→p∈gP n names acc
 |[],_,_,_,h=>h
 |(m,k)::r,n,acc,p,h=>by
  unfold gP;split
  ·exact A8 (c_ _ h)
  ·exact A8 h
theorem Fh:∀{names}{n}{acc}{x},(x,.cell)∈names→∃c,(x,c)∈gP n names acc
 |(m,k)::r,n,acc,x,h=>by
  unfold gP;rcases b_.mp h with e|h
  ·cases e;exact⟨n,A8 cI⟩
  ·split
   ·exact Fh h
   ·exact Fh h
theorem Fi:∀{names}{h:bU}{acc:List (Str×ae)}{x y}{c},(∀p∈acc,p.2<h.objs.size)→(∀x y c,(x,c)∈acc→(y,c)∈acc→x=y)→
  (x,c)∈gP h.objs.size names acc→(y,c)∈gP h.objs.size names acc→x=y
 |[],_,_,_,_,_,_,hi,h1,h2=>hi _ _ _ h1 h2
 |(n,k)::r,h,acc,x,y,c,hl,hi,h1,h2=>by
  unfold gP at h1 h2;split at h1
  ·rename_i hk;rw[if_pos hk]at h2;rw[←g_ h {cls:=.type "cell",data:=.cell none}]at h1 h2;refine Fi (h:=h.push _) (fun p hp=>?_) (fun x y c a b=>?_) h1 h2
   ·rw[g_];rcases b_.mp hp with rfl|hp
    ·exact EE _
    ·exact Fj (hl p hp)
   ·rcases b_.mp a with e|a <;>rcases b_.mp b with e'|b
    ·cases e;cases e';rfl
    ·cases e;exact absurd (hl _ b) (m3 _)
    ·cases e';exact absurd (hl _ a) (m3 _)
    ·exact hi _ _ _ a b
  ·rename_i hk;rw[if_neg hk]at h2;exact Fi hl hi h1 h2
theorem aaV{code:aA}
  (h:Q (newEnv scope s.heap.objs.size globals (gP (s.heap.objs.size+1) scope.names closure) qual func code (some around) builtins)
   {s with heap:=sP (s.heap.push {cls:=.type "dict",data:=.dict #[]}) scope.names}):
  aD M A (aaW scope globals closure [] qual func code (some around) builtins) Q E s:=by
 simp only[aaW,aaX,if_true];refine ay (wpAny_alloc ?_);refine ay (wpAny_layCells _ (fun n k c=>rfl) scope.names closure _ _ ?_);rw[show({s with heap:=s.heap.push {cls:=.type "dict",data:=.dict #[]}}:aS).heap.objs.size=s.heap.objs.size+1 from g_ ..];rw[A6];exact ay (bc (bc h))
theorem Fk{sc:iI}:∀{names:List (Str×vk)}{x:Str}{k:vk},
  (names.map fun(n,k)=>if(k==xZ&&sc.kind==.function&&sc.names.lookup n==some .cell)then(n,MG)else(n,k)).lookup x=some k→
  ∃k',names.lookup x=some k'∧(k=k'∨(k'=.free∧k=.cell))
 |[],_,_,h=>by simp at h
 |(n,k₀)::r,x,k,h=>by
  have ih:=@Fk sc r x k;have h':sy x ((if(k₀==xZ&&sc.kind==.function&&sc.names.lookup n==some .cell)=true then(n,MG)else(n,k₀))::(r.map _))=some k:=h;cases hx:x==n with
  |true=>
   simp only[vH,hx];by_cases hc:(k₀==xZ&&sc.kind==.function&&sc.names.lookup n==some .cell)=true
   ·rw[if_pos hc]at h';simp only[vH,hx]at h';cases h';simp only[dA,beq_iff_eq]at hc;exact⟨k₀,rfl,.inr ⟨hc.1.1,rfl⟩⟩
   ·rw[if_neg hc]at h';simp only[vH,hx]at h';cases h';exact⟨_,rfl,.inl rfl⟩
  |false=>
   simp only[vH,hx];by_cases hc:(k₀==xZ&&sc.kind==.function&&sc.names.lookup n==some .cell)=true
   ·rw[if_pos hc]at h';simp only[vH,hx]at h';exact ih h'
   ·rw[if_neg hc]at h';simp only[vH,hx]at h';exact ih h'
structure x4(N:List Str)(sc scope:iI)(own:List (Str×Nat)):Prop where
 kind:scope.kind=.function
 oQ:∀y∈scope.names,scope.names.lookup y.1=some y.2
 ix:∀p∈own,N[p.2]?=some p.1
 free:∀y∈scope.names,y.2=.free→sc.names.lookup y.1=some .cell∨sc.names.lookup y.1=some .free
 own:∀y∈scope.names,y.2=.local∨y.2=.cell→y.1∈own.map (·.1)∨y.1∉N
def wipe(σ:St):List Nat→St
 |[]=>σ
 |v::vs=>(wipe σ vs).set v none
theorem Fl σ:∀vs:List Nat,(wipe σ vs).length=σ.length
 |[]=>rfl
 |v::vs=>by unfold wipe;rw[sI,Fl σ vs]
theorem Fm:∀{vs},(wipe σ vs)[i]?=some (some x)→σ[i]?=some (some x)∧i∉vs
 |[],h=>⟨h,by simp⟩
 |v::vs,h=>by
  unfold wipe at h;by_cases hi:v=i
  ·subst hi;by_cases hv:v<(wipe σ vs).length
   ·rw[xy hv]at h;cases h
   ·rw[x5 (by simpa using hv)]at h;cases h
  ·rw[xA hi]at h;obtain⟨h1,h2⟩:=Fm h;exact⟨h1,by simp only[b_,not_or];exact⟨fun e=>hi e.symm,h2⟩⟩
abbrev Cx.hU(X:Cx)(s:aS)(H:Hp)(scope:iI)(eT:Env)(fp:List ae):Cx:={X with s_0:=s,H_0:=H,env:=eT,outer:=X.stack,ex:=fp,fn:=fun x=>scope.names.lookup x==some .cell,pn:=[],xe:=fun _ _=>False}
section
variable {X:Cx}{pins:List (ae×Obj)}{σ:St}{H:Hp}{s:aS}
theorem aaY(I:Inv X pins σ H s)(ok:x4 X.N X.env.scope scope own)(hN:X.N.Nodup)(vI:∀b∈fp,lG X pins H b∧b<s.heap.objs.size):
  Inv (X.hU s H scope (lJ scope (gP (s.heap.objs.size+1) scope.names (gD X.env.cells scope.names [])) s.heap.objs.size X.env) fp) [] (wipe σ (own.map (·.2))) H {s with heap:=sP (s.heap.push {cls:=.type "dict",data:=.dict #[]}) scope.names}:=by
 have uW:∀y∈scope.names,y.2=.free→∃c,X.env.cells.lookup y.1=some c:=fun y hy e=>by
  rcases ok.free y hy e with k|k
  ·exact I.ok.has _ (.inl k)
  ·exact I.ok.has _ (.inr k)
 generalize x6:lJ scope (gP (s.heap.objs.size+1) scope.names (gD X.env.cells scope.names [])) s.heap.objs.size X.env=eT;have kp:∀b o,s.heap.get? b=some o→(sP (s.heap.push {cls:=.type "dict",data:=.dict #[]}) scope.names).get? b=some o:=fun b o e=>Ff _ _ _ _ (dW _ e);have hL:eT.locals=s.heap.objs.size:=by rw[←x6];rfl
 have cz:eT.cells=gP (s.heap.objs.size+1) scope.names (gD X.env.cells scope.names []):=by rw[←x6];rfl
 have Fo:eT.scope=aaT scope X.env.scope:=by rw[←x6];rfl
 rw[←g_ s.heap {cls:=.type "dict",data:=.dict #[]}]at cz;have cm:∀{y c},(y,c)∈gD X.env.cells scope.names []→X.env.cells.lookup y=some c∧c<s.heap.objs.size:=fun{y c} hm=>by
  rcases A7 hm with hm|⟨h1,rfl⟩
  ·cases hm
  ·obtain⟨c,hc⟩:=uW _ h1 rfl;rw[hc];obtain⟨w,z⟩:=I.cell _ _ hc;exact⟨rfl,z.lt⟩
 have mem:∀{y c},eT.cells.lookup y=some c→(X.env.cells.lookup y=some c∧c<s.heap.objs.size)∨(s.heap.objs.size+1≤c∧ME (sP (s.heap.push {cls:=.type "dict",data:=.dict #[]}) scope.names) c none):=fun{y c} e=>by
  rw[cz]at e;rcases x3 (PySem.mem_of_lookup e)with hm|⟨_,h2,h3⟩
  ·exact .inl (cm hm)
  ·rw[g_]at h2;exact .inr ⟨h2,h3⟩
 have look:∀{y},scope.names.lookup y=some .free→∃c,eT.cells.lookup y=some c∧X.env.cells.lookup y=some c:=fun{y} hl=>by
  have hy:(y,xZ)∈scope.names:=PySem.mem_of_lookup hl;obtain⟨c',e'⟩:=mem_lookup (A8 (names:=scope.names) (n:=(s.heap.push {cls:=.type "dict",data:=.dict #[]}).objs.size) (Fe (cells:=X.env.cells) (acc:=[]) hy));rw[←cz]at e';refine⟨c',e',?_⟩;rw[cz]at e';rcases x3 (PySem.mem_of_lookup e')with hm|⟨h1,_,_⟩
  ·exact(cm hm).1
  ·have:=ok.oQ _ h1;rw[hl]at this;cases this
 have okB:(X.hU s H scope eT fp).Ok:=by
  refine⟨I.ok.mod,by show eT.scope.kind=_;rw[Fo];exact ok.kind,by show eT.globals=_;rw[←x6];exact I.ok.glob,by show eT.builtins=_;rw[←x6];exact I.ok.blt,by show s.heap.objs.size≤eT.locals;rw[hL];exact a9 _,
   fun y z c e1 e2=>?_,fun y hy=>?_,fun y c z e=>?_,I.ok.hd,I.ok.frames,.inl rfl,fun b hb=>⟨?_,fun y c e z=>?_⟩,I.bs,dU I.ok.m4 I.sz,fun b o e hb=>?_,fun b hb z=>?_,I.stack,I.La⟩
  ·have e1:eT.cells.lookup y=some c:=e1;have e2:eT.cells.lookup z=some c:=e2;rw[cz]at e1 e2;refine Fi (fun p hp=>?_) (fun y z c a b=>I.ok.inj y z c (cm a).1 (cm b).1) (PySem.mem_of_lookup e1) (PySem.mem_of_lookup e2);rw[g_];exact Fj (cm (y:=p.1) (c:=p.2) hp).2
  ·show ∃c,eT.cells.lookup y=some c;have key:∀k,eT.kindOf y=some k→(k=.cell∨k=.free)→∃c,eT.cells.lookup y=some c:=fun k hk kO=>by
    unfold Env.kindOf at hk;rw[Fo]at hk;obtain⟨k',e,r⟩:=Fk hk;have:k'=.cell∨k'=.free:=by
     rcases r with rfl|⟨rfl,_⟩
     ·exact kO
     ·exact .inr rfl
    rcases this with rfl|rfl
    ·obtain⟨c,hm⟩:=Fh (n:=(s.heap.push {cls:=.type "dict",data:=.dict #[]}).objs.size) (acc:=gD X.env.cells scope.names []) (PySem.mem_of_lookup e);obtain⟨c',e'⟩:=mem_lookup hm;exact⟨c',by rw[cz];exact e'⟩
    ·obtain⟨c,h1,_⟩:=look e;exact⟨c,h1⟩
   rcases hy with hy|hy
   ·exact key _ hy (.inl rfl)
   ·exact key _ hy (.inr rfl)
  ·have z:(scope.names.lookup y==some MG)=true:=z;have z:scope.names.lookup y=some .cell:=by simpa using z
   have e:eT.cells.lookup y=some c:=e;rw[cz]at e;rcases x3 (PySem.mem_of_lookup e)with hm|⟨_,h2,_⟩
   ·rcases A7 hm with hm|⟨h1,_⟩
    ·cases hm
    ·have q:=ok.oQ _ h1;rw[z]at q;cases q
   ·rw[g_]at h2;exact Fg h2
  ·show b≠eT.locals;rw[hL];exact fU (vI b hb).2
  ·have e:eT.cells.lookup y=some c:=e;rcases mem e with⟨h1,_⟩|⟨h1,_⟩
   ·exact(vI b hb).1.2.2.2.2.1 y c h1 z
   ·have h2:s.heap.objs.size+1≤b:=by rw[←z];exact h1
    exact absurd (dG (vI b hb).2 (Fg h2)) (m3 _)
  ·rcases(vI b hb).1.2.2.2.1 with z|z
   ·exact I.ok.xq b o e z
   ·exact absurd (dG (cN e) (dU I.ok.m4 z)) (m3 _)
  ·rcases b_.mp (I.Eb b z)with z|z
   ·exact(vI b hb).1.2.1 z
   ·exact(vI b hb).1.2.2.1 z
 refine⟨okB,rfl,I.bare,Un.kept kp,⟨fun _=>none,?_,fun i y av e1 e2 e3=>?_⟩,fun y c e=>?_,?_,fun y c e=>?_,fun p hp=>?_,I.aU.kept kp,by rw[Fl];exact I.len⟩
 ·show Heap.Ns _ eT.locals _;rw[hL];exact Heap.Ns.keeps (Heap.Ns.new ..) fun b o e=>Ff _ _ _ _ e
 ·obtain⟨e2,cU⟩:=Fm e2;have mz:scope.names.lookup y=some .free∧(eT.kindOf y=some .cell∨eT.kindOf y=some .free):=by
   have key:∀k,eT.scope.names.lookup y=some k→k=.local∨k=.cell∨k=.free→scope.names.lookup y=some .free∧(eT.kindOf y=some .cell∨eT.kindOf y=some .free):=fun k hk kO=>by
    have MH:=hk;rw[Fo]at hk;obtain⟨k',e,r⟩:=Fk hk;have no:¬(k'=.local∨k'=.cell):=fun hh=>by
     rcases ok.own _ (PySem.mem_of_lookup e) hh with e'|e'
     ·obtain⟨p,hp,hpy⟩:=mB.mp e';have e3:=ok.ix p hp;have:p.1=y:=hpy;rw[this]at e3;exact cU (mB.mpr ⟨p,hp,Ec hN e3 e1⟩)
     ·exact e' (dI e1)
    rcases r with rfl|⟨rfl,rfl⟩
    ·rcases kO with rfl|rfl|rfl
     ·exact absurd (.inl rfl) no
     ·exact absurd (.inr rfl) no
     ·exact⟨e,.inr MH⟩
    ·exact⟨e,.inl MH⟩
   have e3:p5 eT.scope y:=e3;rcases e3 with e3|e3|e3
   ·exact key _ e3 (.inl rfl)
   ·exact key _ e3 (.inr (.inl rfl))
   ·exact key _ e3 (.inr (.inr rfl))
  obtain⟨m,hn,hl⟩:=I.loc;have aa1:p5 X.env.scope y:=(ok.free _ (PySem.mem_of_lookup mz.1) rfl).elim (fun k=>.inr (.inl k)) (fun k=>.inr (.inr k));obtain⟨w,r,q⟩:=hl i y av e1 e2 aa1;refine⟨w,r,.inr ⟨mz.2,?_⟩⟩;obtain⟨c,h1,h2⟩:=look mz.1;rcases q with⟨k,_⟩|⟨_,c',e',z⟩
  ·have k:X.env.scope.names.lookup y=some .local:=k;rcases ok.free _ (PySem.mem_of_lookup mz.1) rfl with k'|k' <;>rw[show X.env.scope.names.lookup y=_ from k']at k <;>cases k
  ·rw[h2]at e';cases e';exact⟨c,h1,z.keeps kp⟩
 ·have e:eT.cells.lookup y=some c:=e;rcases mem e with⟨h1,_⟩|⟨_,z⟩
  ·obtain⟨w,z⟩:=I.cell y c h1;exact⟨w,z.keeps kp⟩
  ·exact⟨_,z⟩
 ·show H eT.locals=none;rw[hL];exact I.aU.fresh (a9 _)
 ·have e:eT.cells.lookup y=some c:=e;rcases mem e with⟨h1,_⟩|⟨h1,_⟩
  ·exact I.kJ y c h1
  ·exact I.aU.fresh (Fg h1)
 ·exact absurd (show p∈([]:List (ae×Obj))++[]from hp) (by simp)
theorem aa2(I:Inv X pins σ H s)(hD:H D=some (.lst xs))(hz:xs.length<bf)(r:RelV y v)
  (h:∀s',Inv X pins σ (upd H D (.lst (xs++[y]))) s'→Q .none s'):aD (aP X.prog X.w) X.A (call (.builtin "list.append") [.ref D,v]) Q E s:=by
 obtain⟨vJ,au,n,ri,e⟩:=I.aU D _ hD;have hl:=ri.length;refine append_at (hsz:=by rw[c7];lia) e fun h' sb jU=>?_;refine h {s with heap:=h'} (I.write (t':=s.toks) (by rw[hD];trivial) (.inl rfl) (fun b u hb q=>(sb.2 b hb).trans q) ⟨_,jU⟩ ⟨by rw[bT];exact hz,au++[v],n+1,ri.append (.cons r .nil),?_⟩);rw[jU];simp
def x8(X:Cx)(ifs:List aY)(t:TT):Prop:=
 ∀pins s (σ:St) H Q,Inv X pins σ H s→t σ H Q→
  aD (aP X.prog X.w) X.A (forIn ifs true fun c r=>if r=true then do let ok←Az c X.env (eval c X.env);pure (Fp ok)else pure (Fp r)) (TP X pins σ Q) X.xe s
def aa3:TT:=fun _ H Q=>Q true H
theorem j6:x8 X [] aa3:=fun _ _ _ H _ I h=>wpAny_tests_nil ⟨H,I,h⟩
theorem x9(h:PT X c t):x8 X [c] t:=fun pins s σ H Q I hw=>wpAny_tests_one (h pins s σ H Q I hw)
end
theorem vK{α:Type}{t:Sem α}{Q Q':α→aS→Prop}(h:aD M A t Q (fun _ _=>False) s)(hQ:∀a s,Q a s→Q' a s):aD M A t Q' E s:=lD h hQ fun _ _ z=>iZ z
theorem aa4{prog:cQ}{w:cD}{A:eB}{R:Result→aS→Prop}{s:aS}{elt target iter:aY}{ifs:List aY}{scope:iI}{pos:Pos}{it acc:aA}{env:Env}(I:Nat→aS→Prop)
  (turn:∀n s,I n s→aD (aP prog w) A (m8 it) (fun r s₁=>match r with
   |none=>R (.ok .next) s₁
   |some v=>aD (aP prog w) A (En target it v) (fun _ MI=>aD (aP prog w) A (u5 target env v) (fun _ s₂=>
     aD (aP prog w) A (forIn ifs true fun c r=>if r=true then do let ok←Az c env (eval c env);pure (Fp ok)else pure (Fp r)) (fun ok s₃=>
      if ok=true then aD (aP prog w) A (eval elt env) (fun x s₄=>
       aD (aP prog w) A (call (.builtin "list.append") [acc,x]) (fun _ s₅=>∃m,m<n∧I m s₅) (x_ (aP prog w) A env fun e s'=>R (.error e) s') s₄) (x_ (aP prog w) A env fun e s'=>R (.error e) s') s₃
      else ∃m,m<n∧I m s₃) (x_ (aP prog w) A env fun e s'=>R (.error e) s') s₂) (x_ (aP prog w) A env fun e s'=>R (.error e) s') MI) (x_ (aP prog w) A env fun e s'=>R (.error e) s') s₁) (x_ (aP prog w) A env fun e s'=>R (.error e) s') s)
  (n:Nat) (h:I n s):
  vj (aP prog w) A (.compLoop (.ListComp elt [⟨target,iter,ifs,0⟩] scope pos) 0 it acc env) R s:=by
 refine codeAny_loop rfl I (fun n s hI=>?_) n h;show aD _ A ((compTurn (.ListComp elt [⟨target,iter,ifs,0⟩] scope pos) 0 it acc env).onRaise (fun x=>do noteFrame x env;theTreesLotGoes x)) _ _ s;refine wpAny_noted ?_;rw[compTurn_list];refine ay (El (ay (lD (turn n s hI) (fun r s₁ h₁=>?_) fun _ _ h'=>h')));cases r with
 |none=>exact bc h₁
 |some v=>
  refine ay (lD h₁ (fun _ MI aa5=>?_) fun _ _ h'=>h');refine ay (lD aa5 (fun _ s₂ h₂=>ay (lD h₂ (fun ok s₃ h₃=>?_) fun _ _ h'=>h')) fun _ _ h'=>h');cases ok with
  |false=>exact bc ⟨rfl,h₃⟩
  |true=>
   exact ay (ay (lD h₃ (fun x s₄ h₄=>ay (lD h₄ (fun _ s₅ h₅=>bc (bc ⟨rfl,h₅⟩)) fun _ _ h'=>h')) fun _ _ h'=>h'))
section
variable {X:Cx}
def A9(wi:TI)(g:TG)(tt:TT)(te:TE)(vs:List Nat):TE:=fun σ H Q=>wi σ H fun J H1=>∀D,H1 D=none→∃W:Nat→Nat→Hp→Prop,(∃m,W 0 m (upd H1 D (.lst [])))∧∀i m H,W i m H→
 (J.stop i H∧Q (.ref D) H)∨(J.go i H∧∃Nx:Hp→Prop,(∀H',Nx H'→∃m',m'<m∧W (i+1) m' H')∧∀x H',J.lE i H x H'→g x (wipe σ vs) H' fun σ2 H2=>wipe σ2 vs=wipe σ vs∧tt σ2 H2 fun b H3=>
  if b=true then te σ2 H3 fun y H4=>∃acc,H4 D=some (.lst acc)∧acc.length<bf∧Nx (upd H4 D (.lst (acc++[y])))else Nx H3)
theorem MJ{σ:St}
  (hc:X.calm=true) (hN:X.N.Nodup) (I:Inv X pins σ H s) (hi:PI X tg iter wi) (ok:x4 X.N X.env.scope scope own)
  (hg:∀s H C cl fp,PG (X.hU s H scope (lJ scope cl C X.env) fp) tg g) (ht:∀s H C cl fp,x8 (X.hU s H scope (lJ scope cl C X.env) fp) ifs tt)
  (he:∀s H C cl fp,PE (X.hU s H scope (lJ scope cl C X.env) fp) elt te) (hs:∀x,Eu iter X.env x=pure x)
  (h:A9 wi g tt te (own.map (·.2)) σ H Q)
  (hRR:∀D C s' m H',Inv X pins σ H' s'→Q (.ref D) H'→s'.heap.Ns C m→lG X pins H' C→MK (aP X.prog X.w) X.A X.xe use Qf (.ref D) C (.ok .next) s'):
  aD (aP X.prog X.w) X.A (aa7 (.ListComp elt [⟨tg,iter,ifs,0⟩] scope pos) scope X.env pos' (newList []) false (eval iter X.env) use) Qf X.xe s:=by
 have uW:∀y∈scope.names,y.2=.free→∃c,X.env.cells.lookup y.1=some c:=fun y hy e=>by
  rcases ok.free y hy e with k|k
  ·exact I.ok.has _ (.inl k)
  ·exact I.ok.has _ (.inr k)
 refine wpAny_comprehension_free (use:=use) rfl hs (aaU uW) ok.kind (fun y hy e=>by rw[ok.oQ y hy,e])
  (aT (hi pins s σ H _ I h) fun xv s1 hx=>aT hx fun Ep s2 h2=>?_)
 obtain⟨it,fp,tn,J,H2,e,I2,T,fM,f2,q⟩:=h2;subst e;refine oO (aaV ?_) (by show 0≤bf;decide);generalize hD:s2.heap.objs.size=D;have hDn:H2 D=none:=I2.aU.fresh (ED hD);obtain⟨W,⟨m0,w0⟩,turn⟩:=q D hDn;generalize ML:({s2 with heap:=s2.heap.push {cls:=.type "list",data:=.seq ([]:List aA).toArray}}:aS)=s3;have I3:Inv X pins σ (upd H2 D (.lst [])) s3:=by
  rw[←ML];refine I2.laid (t':=s2.toks) (fun b o e=>dW _ e) (ED hD) ⟨bu _,[],0,.nil,?_⟩;rw[←hD];exact eP _ rfl
 have h3:s3.heap=s2.heap.push {cls:=.type "list",data:=.seq ([]:List aA).toArray}:=by rw[←ML]
 have sz:∀b∈fp,b<s2.heap.objs.size:=fun b hb=>by
  obtain⟨o,e,_⟩:=T.obj _ _ fM b hb;exact cN e
 have f3:∀b∈fp,lG X pins (upd H2 D (.lst [])) b∧b<s3.heap.objs.size:=fun b hb=>by
  have cW:=sz b hb;refine⟨⟨?_,(f2 b hb).2⟩,by rw[h3,g_];exact Fj cW⟩;rw[ao (by rw[←hD];exact fU cW)];exact(f2 b hb).1
 have AL:tn 0 s3.heap:=T.keep _ _ _ fM fun b _ o e=>by rw[h3];exact dW _ e
 have I4:=aaY I3 ok hN f3;have pg:=hg s3 (upd H2 D (.lst [])) s3.heap.objs.size (gP (s3.heap.objs.size+1) scope.names (gD X.env.cells scope.names [])) fp;have pt:=ht s3 (upd H2 D (.lst [])) s3.heap.objs.size (gP (s3.heap.objs.size+1) scope.names (gD X.env.cells scope.names [])) fp;have pe:=he s3 (upd H2 D (.lst [])) s3.heap.objs.size (gP (s3.heap.objs.size+1) scope.names (gD X.env.cells scope.names [])) fp;show vj _ _ (.compStart (.ListComp elt [⟨tg,iter,ifs,0⟩] scope pos) 0 (.ref it) (.ref D) (lJ scope (gP (s3.heap.objs.size+1) scope.names (gD X.env.cells scope.names [])) s3.heap.objs.size X.env)) (MK (aP X.prog X.w) X.A X.xe use Qf (.ref D) s3.heap.objs.size) {s3 with heap:=sP (s3.heap.push {cls:=.type "dict",data:=.dict #[]}) scope.names};have MM:∀b∈fp,(upd H2 D (.lst [])) b=none:=fun b hb=>(f3 b hb).1.1;generalize hce:lJ scope (gP (s3.heap.objs.size+1) scope.names (gD X.env.cells scope.names [])) s3.heap.objs.size X.env=ce at I4 pg pt pe ⊢;have cL:ce.locals=s3.heap.objs.size:=by subst hce;rfl
 generalize Fq:upd H2 D (.lst [])=H3 at I3 I4 pg pt pe w0 MM f3;generalize hs4:({s3 with heap:=sP (s3.heap.push {cls:=.type "dict",data:=.dict #[]}) scope.names}:aS)=s4 at I4 ⊢;have MN:tn 0 s4.heap:=T.keep _ _ _ AL fun b _ o e=>by rw[←hs4];exact Ff _ _ _ _ (dW _ e)
 have si:∀{σ':St}{H':Hp}{s':aS},Inv (X.hU s3 H3 scope ce fp) [] σ' H' s'→(∀b∈fp,H' b=none)→∀b∈fp,lG (X.hU s3 H3 scope ce fp) [] H' b:=fun{σ' H' s'} I' hn b hb=>
  ⟨hn b hb,(I'.ok.Aw b hb).1,I'.ok.xr b hb,.inl hb,fun x c e=>(I'.ok.Aw b hb).2 x c e,fun p hp=>absurd (show p∈([]:List (ae×Obj))++[]from hp) (by simp)⟩
 have loop:vj (aP X.prog X.w) X.A (.compLoop (.ListComp elt [⟨tg,iter,ifs,0⟩] scope pos) 0 (.ref it) (.ref D) ce) (MK (aP X.prog X.w) X.A X.xe use Qf (.ref D) s3.heap.objs.size) s4:=by
  refine aa4 (fun n s'=>∃i H',Inv (X.hU s3 H3 scope ce fp) [] (wipe σ (own.map (·.2))) H' s'∧tn i s'.heap∧(∀b∈fp,H' b=none)∧W i n H') ?_ m0 ⟨0,H3,I4,MN,MM,w0⟩;rintro n s5 ⟨i,H5,I5,vd,n5,w5⟩;rcases turn i n H5 w5 with⟨stop,qq⟩|⟨go,Nx,hNx,step⟩
  ·have td:=T.done (X.hU s3 H3 scope ce fp) rfl rfl rfl hc i [] s5 _ H5 (fun _ _=>False) I5 (si I5 n5) vd stop;refine vK td fun r s6 ⟨hr,I6⟩=>?_;subst hr;have I7:Inv X pins σ H5 s6:=I3.Yn (ch:=fp) I6.os I6.base I6.aU I6.bare fun b hb=>⟨(f3 b hb).1.2.2.2.1,(f3 b hb).1.2.1,(f3 b hb).1.2.2.2.2.1,(f3 b hb).1.2.2.2.2.2⟩
   have nC:H5 s3.heap.objs.size=none:=by
    have z:H5 ce.locals=none:=I6.free;rw[cL]at z;exact z
   obtain⟨m,hn,_⟩:=I6.loc;have hn:s6.heap.Ns ce.locals m:=hn;rw[cL]at hn;exact hRR D s3.heap.objs.size s6 m H5 I7 qq hn (I3.qc (a9 _) nC)
  ·have ti:=T.item (X.hU s3 H3 scope ce fp) rfl rfl rfl hc i [] s5 _ H5 (fun _ _=>False) I5 (si I5 n5) vd go;refine vK ti fun r s6 ⟨u,hr,h6⟩=>?_;subst hr;refine vK h6 fun _ s7 ⟨x,H7,I7,r7,y7,Fs,n7⟩=>?_;have I7':=I7.pinned (si I7 n7) (T.obj _ _ Fs);refine vK (pg _ s7 _ H7 x u _ I7' r7 (step x H7 y7)) fun _ s8 ⟨σ8,H8,I8,MO,q8⟩=>?_;refine vK (pt _ s8 σ8 H8 _ I8 q8) fun b s9 ⟨H9,I9,q9⟩=>?_;have fin:∀{s':aS}{H':Hp},Inv (X.hU s3 H3 scope ce fp) ([]++xG fp s7.heap) σ8 H' s'→Nx H'→∃m,m<n∧∃i H',Inv (X.hU s3 H3 scope ce fp) [] (wipe σ (own.map (·.2))) H' s'∧tn i s'.heap∧(∀b∈fp,H' b=none)∧W i m H':=fun{s' H'} I' nx=>by
    obtain⟨m',hm,w'⟩:=hNx H' nx;have MP:∀b∈fp,∀o,s7.heap.get? b=some o→s'.heap.get? b=some o∧H' b=none:=fun b hb o e=>
     let z:=I'.pin (b,o) (sh _ (sh _ (Et hb e)))
     ⟨z.1,z.2.1⟩
    have hl:(wipe σ (own.map (·.2))).length=σ8.length:=by rw[←MO,Fl]
    refine⟨m',hm,i+1,H',(I'.AK (pins:=[])).weak hl (fun j v e=>?_),T.keep _ _ _ Fs fun b hb o e=>(MP b hb o e).1,fun b hb=>?_,w'⟩
    ·rw[←MO]at e;exact(Fm e).1
    ·obtain⟨o,e,_⟩:=T.obj _ _ Fs b hb;exact(MP b hb o e).2
   cases b with
   |false=>
    simp only[Ft,if_false]at q9 ⊢;exact fin I9 q9
   |true=>
    simp only[if_true]at q9 ⊢;refine vK (pe _ s9 σ8 H9 _ I9 q9) fun z Fu ⟨yv,H10,I10,r10,acc,abe,abf,nx⟩=>?_;exact aa2 (X:=X.hU s3 H3 scope ce fp) I10 abe abf r10 fun s11 I11=>fin I11 nx
 exact codeAny_compStart_list loop (T.self X.A 0 _ _ _ MN loop)
theorem i8{elt tg iter:aY}{ifs:List aY}{scope:iI}{own:List (Str×Nat)}{pos:Pos}{wi:TI}{g:TG}{tt:TT}{te:TE}(hc:X.calm=true)(hN:X.N.Nodup)(hi:PI X tg iter wi)(ok:x4 X.N X.env.scope scope own)
  (hg:∀(s:aS) (H:Hp) (C:ae) (cl:List (Str×ae)) (fp:List ae),PG (X.hU s H scope (lJ scope cl C X.env) fp) tg g) (ht:∀(s:aS) (H:Hp) (C:ae) (cl:List (Str×ae)) (fp:List ae),x8 (X.hU s H scope (lJ scope cl C X.env) fp) ifs tt)
  (he:∀(s:aS) (H:Hp) (C:ae) (cl:List (Str×ae)) (fp:List ae),PE (X.hU s H scope (lJ scope cl C X.env) fp) elt te) (hs:∀x,Eu iter X.env x=pure x:=by intro _;rfl):
  PE X (.ListComp elt [⟨tg,iter,ifs,0⟩] scope pos) (A9 wi g tt te (own.map (·.2))):=by
 intro pins s σ H Q I h;rw[eval_ListComp];refine MJ hc hN I hi ok hg ht he hs h fun D C s' m H' I' q hn f=>⟨m,hn,fun i9 sb=>?_⟩
 obtain⟨f0,f1,f2,f3,f4,f5⟩:=f;exact⟨.ref D,H',I'.turned (t':=s'.toks) (fun b o hb e=>(sb.2 b hb).trans e) f0 f1 f3 f4 f5,rfl,q⟩
theorem Fv{i:Nat}{y:Str}{py:Pos}{elt tg iter:aY}{ifs:List aY}{scope:iI}{own:List (Str×Nat)}{pos MQ:Pos}{wi:TI}{g:TG}{tt:TT}{te:TE}(hc:X.calm=true)(hN:X.N.Nodup)(hy:X.N[i]?=some y)(MR:X.env.scope.names.lookup y=some .local)
  (hsw:rZ (.ListComp elt [⟨tg,iter,ifs,0⟩] scope pos) (some (.Name y py)) MQ.line X.env=pure true) (hi:PI X tg iter wi) (ok:x4 X.N X.env.scope scope own)
  (hg:∀(s:aS) (H:Hp) (C:ae) (cl:List (Str×ae)) (fp:List ae),PG (X.hU s H scope (lJ scope cl C X.env) fp) tg g) (ht:∀(s:aS) (H:Hp) (C:ae) (cl:List (Str×ae)) (fp:List ae),x8 (X.hU s H scope (lJ scope cl C X.env) fp) ifs tt)
  (he:∀(s:aS) (H:Hp) (C:ae) (cl:List (Str×ae)) (fp:List ae),PE (X.hU s H scope (lJ scope cl C X.env) fp) elt te) (hs:∀x,Eu iter X.env x=pure x:=by intro _;rfl):
  PS X (.Assign [.Name y py] (.ListComp elt [⟨tg,iter,ifs,0⟩] scope pos) MQ) (AG (A9 wi g tt te (own.map (·.2))) (u6 i)):=by
 intro pins s σ H D I h;rw[exec_Assign_Name_used _ _ _ _ hsw];refine ay (El (ay ?_));show aD _ X.A (do let _←aa7 (.ListComp elt [⟨tg,iter,ifs,0⟩] scope pos) scope X.env (firstIterPos [⟨tg,iter,ifs,0⟩] pos) (newList []) false (eval iter X.env) (some (u5 (.Name y py) X.env))) _ _ s;have h:A9 wi g tt te (own.map (·.2)) σ H (fun x H1=>u6 i x σ H1 D.nx):=h;refine ay (aT (MJ (Qf:=fun _ s'=>SP X pins D .next s') hc hN I hi ok hg ht he hs h fun L C s' m H' I' q hn f=>?_) fun _ s' hq=>bc (bc hq));show aD _ _ (u5 (.Name y py) X.env (.ref L)) _ _ _;refine YM (Ld (v:=V.ref L) I' hN hy (.inl MR) rfl (fun s2 I2 ⟨a,sb,ha⟩=>?_) (.inr MR));obtain⟨f0,f1,f2,f3,f4,f5⟩:=f;have haC:C≠a:=by
  rcases ha with z|z
  ·rw[z];exact f1
  ·exact fun e=>f4 y a z e.symm
 refine⟨m,hn.sameBut sb haC,fun h3 sb3=>?_⟩;exact⟨_,H',I2.turned (t':=s2.toks) (fun b o hb e=>(sb3.2 b hb).trans e) f0 f1 f3 f4 f5,q⟩
theorem Fw{elt:aY}{gs:List Comprehension}{scope:iI}{pos py:Pos}{y:Str}{l:Nat}{env:Env}(hk:env.scope.kind=.function)(hy:env.scope.names.lookup y=some .local)(hl:(py.line==pos.line)=true)
  (ha:(scope.names.any fun(n,k)=>n==y&&(k==.local||k==.cell))=false):rZ (.ListComp elt gs scope pos) (some (.Name y py)) l env=pure true:=by
 have ky:env.kindOf y=some .local:=hy;have hb:env.blockKind=.function:=by unfold Env.blockKind;rw[hk];rfl
 unfold rZ;simp only[hb,ky,ha,Expr.pos,hl];rfl
end
theorem Fx{lo:Int}{g:TG}{tt:TT}{te:TE}{Qd:Hp→Prop}(Pv:Nat→Hp→Prop)(h0:Pv 0 (upd H1 D (.lst [])))
  (hs:∀i H,i<n→Pv i H→g (.int (lo+i)) (wipe σ vs) H fun σ2 H2=>wipe σ2 vs=wipe σ vs∧tt σ2 H2 fun b H3=>
   if b=true then te σ2 H3 fun y H4=>∃acc,H4 D=some (.lst acc)∧acc.length<bf∧Pv (i+1) (upd H4 D (.lst (acc++[y])))else Pv (i+1) H3) (hd:∀H,Pv n H→Qd H):
  ∃W:Nat→Nat→Hp→Prop,(∃m,W 0 m (upd H1 D (.lst [])))∧∀i m H,W i m H→
   ((m9 lo n).stop i H∧Qd H)∨((m9 lo n).go i H∧∃Nx:Hp→Prop,(∀H',Nx H'→∃m',m'<m∧W (i+1) m' H')∧∀x H',(m9 lo n).lE i H x H'→g x (wipe σ vs) H' fun σ2 H2=>wipe σ2 vs=wipe σ vs∧tt σ2 H2 fun b H3=>
    if b=true then te σ2 H3 fun y H4=>∃acc,H4 D=some (.lst acc)∧acc.length<bf∧Nx (upd H4 D (.lst (acc++[y])))else Nx H3):=by
 refine⟨fun i m H=>m=n-i∧i≤n∧Pv i H,⟨n,by simp,bu _,h0⟩,?_⟩;rintro i m H ⟨rfl,hi,p⟩;by_cases cW:i<n
 ·refine .inr ⟨cW,Pv (i+1),fun H' p'=>⟨n-(i+1),by lia,rfl,cW,p'⟩,fun x H' y=>?_⟩;obtain⟨e,y⟩:=y;subst e y;exact hs i _ cW p
 ·have e:i=n:=by lia
  subst e;exact .inl ⟨a9 _,hd H p⟩
theorem ny{K:PySem.W.Frag}{g:TG}{tt:TT}{te:TE}{Qd:Hp→Prop}(Pv:Nat→Hp→Prop)(h0:Pv 0 (upd H1 D (.lst [])))(hl:∀i H,i≤xs.length→Pv i H→ai K H a xs)
  (hs:∀i x H,xs[i]?=some x→Pv i H→g x (wipe σ vs) H fun σ2 H2=>wipe σ2 vs=wipe σ vs∧tt σ2 H2 fun b H3=>
   if b=true then te σ2 H3 fun y H4=>∃acc,H4 D=some (.lst acc)∧acc.length<bf∧Pv (i+1) (upd H4 D (.lst (acc++[y])))else Pv (i+1) H3) (hd:∀H,Pv xs.length H→Qd H):
  ∃W:Nat→Nat→Hp→Prop,(∃m,W 0 m (upd H1 D (.lst [])))∧∀i m H,W i m H→
   ((qd K a).stop i H∧Qd H)∨((qd K a).go i H∧∃Nx:Hp→Prop,(∀H',Nx H'→∃m',m'<m∧W (i+1) m' H')∧∀x H',(qd K a).lE i H x H'→g x (wipe σ vs) H' fun σ2 H2=>wipe σ2 vs=wipe σ vs∧tt σ2 H2 fun b H3=>
    if b=true then te σ2 H3 fun y H4=>∃acc,H4 D=some (.lst acc)∧acc.length<bf∧Nx (upd H4 D (.lst (acc++[y])))else Nx H3):=by
 refine⟨fun i m H=>m=xs.length-i∧i≤xs.length∧Pv i H,⟨xs.length,by simp,bu _,h0⟩,?_⟩;rintro i m H ⟨rfl,hi,p⟩;have q:=hl i H hi p;by_cases cW:i<xs.length
 ·refine .inr ⟨⟨xs,xs[i],q,by simp[cW]⟩,Pv (i+1),fun H' p'=>⟨xs.length-(i+1),by lia,rfl,cW,p'⟩,fun x H' y=>?_⟩;obtain⟨e,y⟩:=y;subst e;exact hs i x _ (y xs q) p
 ·have e:i=xs.length:=by lia
  subst e;exact .inl ⟨⟨xs,q,a9 _⟩,hd H p⟩
def MS(N:List Str)(sc scope:iI)(own:List (Str×Nat)):Bool:=
 (match scope.kind with| .function=>true|_=>false)&&(scope.names.all fun y=>decide (scope.names.lookup y.1=some y.2))&&(own.all fun p=>decide (N[p.2]?=some p.1))&&
  (scope.names.all fun y=>match y.2 with
   | .free=>(match sc.names.lookup y.1 with|some .cell=>true|some .free=>true|_=>false)
   | .local=>decide (y.1∈own.map (·.1))||decide (y.1∉N)
   | .cell=>decide (y.1∈own.map (·.1))||decide (y.1∉N)
   |_=>true)
theorem hZ(h:MS N sc scope own=true):x4 N sc scope own:=by
 unfold MS at h;simp only[dA,jC,decide_eq_true_eq]at h;obtain⟨⟨⟨h1,h2⟩,h3⟩,h4⟩:=h;refine⟨?_,h2,h3,fun y hy e=>?_,fun y hy e=>?_⟩
 ·split at h1
  ·assumption
  ·cases h1
 ·have q:=h4 y hy;simp only[e]at q;split at q <;>first|exact .inl (by assumption)|exact .inr (by assumption)|cases q
 ·have q:=h4 y hy;rcases e with e|e <;>(simp only[e,mC,decide_eq_true_eq]at q;exact q)
section
variable {prog:cQ}{w:cD}{A:eB}{R:Result→aS→Prop}{s:aS}{elt t0 i0 t1 i1:aY}{apo apq:List aY}{scope:iI}{pos:Pos}{it acc:aA}{env:Env}
end
section
variable {X:Cx}
end
section
variable {κ:Type}[DecidableEq κ]
def bw(aq:List (κ×V))(k:κ):Option V:=(aq.find? fun kv=>decide (kv.1=k)).map (·.2)
def putK(aq:List (κ×V))(k:κ)(v:V):List (κ×V):=
 if(aq.any fun kv=>decide (kv.1=k))=true then aq.map (fun kv=>if kv.1=k then(kv.1,v)else kv)else aq++[(k,v)]
theorem abk:bw ([]:List (κ×V)) k=none:=rfl
theorem kP{p:κ×V}(e:p.1=k):bw (p::r) k=some p.2:=by simp[bw,qp,e]
theorem kQ{p:κ×V}(e:¬p.1=k):bw (p::r) k=bw r k:=by simp[bw,qp,e]
theorem vL k:∀aq:List (κ×V),(aq.any fun kv=>decide (kv.1=k))=(bw aq k).isSome
 |[]=>rfl
 |p::r=>by
  rw[mv];by_cases e:p.1=k
  ·simp only[kP e,decide_eq_true e,abl,aaX]
  ·rw[kQ e,decide_eq_false e,gE];exact vL k r
theorem MT k j y:∀aq:List (κ×V),bw (aq.map fun kv=>if kv.1=k then(kv.1,y)else kv) j=(bw aq j).map fun x=>if j=k then y else x
 |[]=>rfl
 |p::r=>by
  have ih:=MT k j y r;rw[dw];by_cases h:p.1=k
  ·rw[if_pos h];by_cases e:p.1=j
   ·rw[kP (p:=(p.1,y)) e,kP e,i_,if_pos (e.symm.trans h)]
   ·rw[kQ (p:=(p.1,y)) e,kQ e,ih]
  ·rw[if_neg h];by_cases e:p.1=j
   ·rw[kP (p:=p) e,kP e,i_,if_neg (fun z=>h (e.trans z))]
   ·rw[kQ (p:=p) e,kQ e,ih]
theorem MU k j y:∀aq:List (κ×V),bw aq k=none→bw (aq++[(k,y)]) j=if j=k then some y else bw aq j
 |[],_=>by
  by_cases e:k=j
  ·rw[if_pos e.symm];exact kP (p:=(k,y)) e
  ·rw[if_neg (fun z=>e z.symm)];exact kQ (p:=(k,y)) e
 |p::r,hn=>by
  rw[mD];have hk:¬p.1=k:=fun z=>by rw[kP z]at hn;cases hn
  rw[kQ hk]at hn;have ih:=MU k j y r hn;by_cases e:p.1=j
  ·rw[kP e,kP e,if_neg (fun z=>hk (e.trans z))]
  ·rw[kQ e,kQ e,ih]
theorem sQ(aq:List (κ×V))k j y:bw (putK aq k y) j=if j=k then some y else bw aq j:=by
 unfold putK;by_cases a:(aq.any fun kv=>decide (kv.1=k))=true
 ·rw[if_pos a,MT];rw[vL]at a;by_cases e:j=k
  ·obtain⟨x,hx⟩:=EN.mp a;rw[if_pos e,e,hx,i_,if_pos rfl]
  ·rw[if_neg e];cases bw aq j with
   |none=>rfl
   |some x=>rw[i_,if_neg e]
 ·rw[if_neg a];refine MU k j y aq ?_;rw[vL]at a;cases q:bw aq k with
  |none=>rfl
  |some x=>rw[q]at a;exact(a rfl).elim
theorem Fy(aq:List (κ×V))k v:(putK aq k v).length≤aq.length+1:=by
 unfold putK;split
 ·rw[aB];lia
 ·rw[bT,b6,ja];lia
theorem abm{aq:List (κ×V)}v(h:bw aq k=none):putK aq k v=aq++[(k,v)]:=by
 unfold putK;rw[vL,h];exact if_neg (by decide)
theorem iH.sR(r:iH o u):o.isSome=u.isSome:=by
 cases o with
 |none=>cases u with
  |none=>rfl
  |some _=>exact(show False from r).elim
 |some _=>cases u with
  |none=>exact(show False from r).elim
  |some _=>rfl
theorem KV.val{aq:List (κ×V)}(r:KV aq vs)k:iH (bw aq k) (sS vs k):=by
 unfold KV at r;induction r with
 |nil=>exact True.intro
 |@cons p q ps qs h t ih=>
  obtain⟨h1,h2⟩:=h;by_cases e:p.1=k
  ·have e':q.1=k:=h1.symm.trans e;have b:sS (q::qs) k=some q.2:=by simp[sS,qp,e']
   rw[kP e,b];exact h2
  ·have e':¬q.1=k:=fun z=>e (h1.trans z);have b:sS (q::qs) k=sS qs k:=by simp[sS,qp,e']
   rw[kQ e,b];exact ih
theorem KV.any{aq:List (κ×V)}(r:KV aq vs)k:(aq.any fun kv=>decide (kv.1=k))=vs.any fun kv=>decide (kv.1=k):=by
 unfold KV at r;induction r with
 |nil=>rfl
 |cons h t ih=>rw[mv,mv,ih,h.1]
theorem KV.Fz{aq:List (κ×V)}(r:KV aq vs)k(ry:RelV y u):
  KV (aq.map fun kv=>if kv.1=k then(kv.1,y)else kv) (vs.map fun kv=>if kv.1=k then(kv.1,u)else kv):=by
 unfold KV at r ⊢;induction r with
 |nil=>exact .nil
 |@cons p q ps qs h t ih=>
  rw[dw,dw];refine .cons ?_ ih;obtain⟨h1,h2⟩:=h;by_cases e:p.1=k
  ·rw[if_pos e,if_pos (h1.symm.trans e)];exact⟨h1,ry⟩
  ·rw[if_neg e,if_neg (fun z=>e (h1.trans z))];exact⟨h1,h2⟩
theorem KV.put{aq:List (κ×V)}(r:KV aq vs)k(ry:RelV y u):KV (putK aq k y) (stored vs k u):=by
 unfold putK stored;rw[r.any k];by_cases e:(vs.any fun kv=>decide (kv.1=k))=true
 ·rw[if_pos e,if_pos e];exact r.Fz k ry
 ·rw[if_neg e,if_neg e];exact Paired.snoc r ⟨rfl,ry⟩
theorem KV.length{vs:List (κ×aA)}(r:KV aq vs):aq.length=vs.length:=Paired.length r
end
theorem qr(r:RelV (kV k) u):(g7 P w).is k u=true:=by
 cases k with
 |inl i=>obtain⟨t,e⟩:=(show ∃t,u=Value.int i t from r);subst e;exact X6 P w i t
 |inr x=>obtain⟨t,e⟩:=(show ∃t,u=Value.str x t from r);subst e;exact X7 P w x t
theorem MV:∀{ks}{us},a7 (ks.map kV) us→ItemsAre (g7 P w) ks us
 |[],_,r=>by rw[My]at r;cases r;exact .nil
 |k::ks,_,r=>by
  rw[dw]at r;cases r with
  |cons h t=>exact .cons (qr h) (MV t)
abbrev KT(H:Hp):List (List Key×V)→List (List Key×ae×aA)→Prop:=Paired fun p q=>p.1=q.1∧H q.2.1=some (.tup (p.1.map kV))∧RelV p.2 q.2.2
theorem KT.val(r:KT H aq xs)k:iH (bw aq k) ((qt xs k).map (·.2)):=by
 induction r with
 |nil=>exact True.intro
 |@cons p q ps qs h t ih=>
  obtain⟨h1,_,h2⟩:=h;by_cases e:p.1=k
  ·have e':q.1=k:=h1.symm.trans e;have b:qt (q::qs) k=some q.2:=by simp[qt,qp,e']
   rw[kP e,b];exact h2
  ·have e':¬q.1=k:=fun z=>e (h1.trans z);have b:qt (q::qs) k=qt qs k:=by simp[qt,qp,e']
   rw[kQ e,b];exact ih
theorem KT.Fz(r:KT H aq xs)k(ry:RelV y u):
  KT H (aq.map fun kv=>if kv.1=k then(kv.1,y)else kv) (xs.map (putAt k u)):=by
 induction r with
 |nil=>exact .nil
 |@cons p q ps qs h t ih=>
  rw[dw,dw];refine .cons ?_ ih;obtain⟨h1,h2,h3⟩:=h;unfold putAt;by_cases e:p.1=k
  ·rw[if_pos e,if_pos (h1.symm.trans e)];exact⟨h1,h2,ry⟩
  ·rw[if_neg e,if_neg (fun z=>e (h1.trans z))];exact⟨h1,h2,h3⟩
theorem KT.put(r:KT H aq xs)k(hb:H b=some (.tup (k.map kV)))(ry:RelV y u):
  KT H (putK aq k y) (storedH xs k b u):=by
 have e:(aq.any fun kv=>decide (kv.1=k))=(qt xs k).isSome:=by
  rw[vL,(r.val k).sR,MW]
 unfold putK storedH;rw[e];by_cases q:(qt xs k).isSome=true
 ·rw[if_pos q,if_pos q];exact r.Fz k ry
 ·rw[if_neg q,if_neg q];exact Paired.snoc r ⟨rfl,hb,ry⟩
theorem KT.keeps(r:KT H aq xs)(ht:∀b ys,H b=some (.tup ys)→H' b=some (.tup ys)):KT H' aq xs:=
 Paired.D8 r fun _ _ z=>⟨z.1,ht _ _ z.2.1,z.2.2⟩
section
variable {P:cQ}{w:cD}{H:Hp}{h:bU}{a:ae}
theorem MX(ok:dr P w H h)(e:Rd H a u):eN P w H h a u:=e.ok ok
theorem ya(ok:dr P w H h)(e:Rd H a (.dK aq)):aq.length≤bf∧(a==jx)=false∧∃vs,KV aq vs∧h.DictOf (g7 P w) a vs:=
 show eN P w H h a (.dK aq)from MX ok e
theorem abn(ok:dr P w H h)(e:H a=some (.dK aq)):aq.length≤bf∧(a==jx)=false∧∃vs,KV aq vs∧h.DictOf (g7 P w) a vs:=ya ok (.inl e)
theorem vM(ok:dr P w H h)(e:H a=some (.tup (ks.map kV))):(uR (g7 P w)).is h ks a:=by
 obtain⟨_,au,r,o,h1,h2,n,h3⟩:=(show eN P w H h a (.tup (ks.map kV))from ok a _ e)
 exact⟨o,au.toArray,n,h1,h2,h3,by simpa using MV r⟩
theorem yb(ok:dr P w H h)(e:Rd H a (.dT aq)):aq.length≤bf∧(a==jx)=false∧
  ∃xs,KT H aq xs∧h.DictOfH (uR (g7 P w)) a xs:=by
 obtain⟨z,y,xs,r,o,es,ep,h1,h2,h3,h4,h5⟩:=(show eN P w H h a (.dT aq)from MX ok e)
 refine⟨z,y,xs,r,o,es,ep,h1,h2,h3,h4,fun x hx=>?_,h5⟩;have all:∀{l:List (List Key×V)}{m:List (List Key×ae×aA)},KT H l m→∀x∈m,(uR (g7 P w)).is h x.1 x.2.1:=by
  intro l m q;induction q with
  |nil=>intro x hx;exact nomatch hx
  |@cons p q ps qs hq t ih=>
   intro x hx;rcases b_.mp hx with e|hx
   ·subst e;exact vM ok (by rw[←hq.1];exact hq.2.1)
   ·exact ih x hx
 exact all r x hx
theorem MY(ok:dr P w H h)(e:H a=some (.dT aq)):aq.length≤bf∧(a==jx)=false∧
  ∃xs,KT H aq xs∧h.DictOfH (uR (g7 P w)) a xs:=yb ok (.inl e)
end
def fW(H:Hp)(a:ae)(y:V)(r:Option V):Prop:=
 (∃aq k,Rd H a (.dK aq)∧y=kV k∧r=bw aq k)∨∃aq k b,Rd H a (.dT aq)∧y=.ref b∧H b=some (.tup (k.map kV))∧r=bw aq k
def nA(H:Hp)(a:ae)(y v:V)(H':Hp):Prop:=
 (∃aq k,H a=some (.dK aq)∧y=kV k∧aq.length<bf∧H'=upd H a (.dK (putK aq k v)))∨
 ∃aq k b,H a=some (.dT aq)∧y=.ref b∧H b=some (.tup (k.map kV))∧aq.length<bf∧H'=upd H a (.dT (putK aq k v))
theorem fW.k{k:Key}(e:H a=some (.dK aq)):fW H a (kV k) (bw aq k):=.inl ⟨aq,k,.inl e,rfl,rfl⟩
theorem fW.t{k:List Key}(e:H a=some (.dT aq))(eb:H b=some (.tup (k.map kV))):fW H a (.ref b) (bw aq k):=.inr ⟨aq,k,b,.inl e,rfl,eb,rfl⟩
theorem nA.k{k:Key}(e:H a=some (.dK aq))(hl:aq.length<bf):nA H a (kV k) v (upd H a (.dK (putK aq k v))):=.inl ⟨aq,k,e,rfl,hl,rfl⟩
theorem nA.t{k:List Key}(e:H a=some (.dT aq))(eb:H b=some (.tup (k.map kV)))(hl:aq.length<bf):
  nA H a (.ref b) v (upd H a (.dT (putK aq k v))):=.inr ⟨aq,k,b,e,rfl,eb,hl,rfl⟩
section
variable {X:Cx}{pins:List (ae×Obj)}{σ:St}{H:Hp}{s:aS}{a:ae}{y v:V}{u r:aA}{o:Option V}{A:eB}{E:aA→aS→Prop}
theorem Inv.FA(I:Inv X pins σ H s):jx<s.heap.objs.size:=by
 have h:jT<s.heap.objs.size:=(I.mod.glob.keeps I.bk).lt;exact Nat.lt_trans (by decide) h
theorem abo(hu:A.units+1<lH)(I:Inv X pins σ H s)(g:fW H a y (some v))(ry:RelV y u)(h:∀w' s',Inv X pins σ H s'→RelV v w'→Q w' s'):
  aD (aP X.prog X.w) A (oM (.ref a) u) Q E s:=by
 rcases g with⟨aq,k,e,ey,l⟩|⟨aq,k,b,e,ey,eb,l⟩
 ·subst ey;obtain⟨z,hd,vs,rel,dd⟩:=ya I.aU e;obtain⟨w',hw,mn⟩:=iH.some_of (v:=v) (o:=sS vs k) (by rw[l];exact rel.val k);exact abp (qr ry) dd.mapOf hw (h w' _ (I.tok _) mn)
 ·subst ey;cases (show u=dF b from ry);obtain⟨z,hd,xs,rel,dd⟩:=yb I.aU e;obtain⟨w',hw,mn⟩:=iH.some_of (v:=v) (o:=(qt xs k).map (·.2)) (by rw[l];exact rel.val k);obtain⟨p,hp,cX⟩:=fP.mp hw;refine wpAny_getItem_heap (FC hu) (vM I.aU eb) dd hp ?_;rw[cX];exact h w' _ (I.tok _) mn
theorem abq(hu:A.units+1<lH)(I:Inv X pins σ H s)(g:fW H a y o)(ry:RelV y u)(h:∀s',Inv X pins σ H s'→Q (.bool o.isSome) s'):
  aD (aP X.prog X.w) A (gy .In u (.ref a)) Q E s:=by
 rcases g with⟨aq,k,e,ey,l⟩|⟨aq,k,b,e,ey,eb,l⟩
 ·subst ey;obtain⟨z,hd,vs,rel,dd⟩:=ya I.aU e;refine wpAny_in_of (qr ry) hd dd.mapOf ?_;rw[←(rel.val k).sR,←l];exact h _ (I.tok _)
 ·subst ey;cases (show u=dF b from ry);obtain⟨z,hd,xs,rel,dd⟩:=yb I.aU e;refine wpAny_in_heap (FC hu) (vM I.aU eb) hd dd ?_;have q:=(rel.val k).sR;rw[MW]at q;rw[←q,←l];exact h _ (I.tok _)
theorem abr(hu:A.units+1<lH)(I:Inv X pins σ H s)(g:fW H a y o)(ry:RelV y u)(h:∀s',Inv X pins σ H s'→Q (.bool (!o.isSome)) s'):
  aD (aP X.prog X.w) A (gy .NotIn u (.ref a)) Q E s:=by
 rcases g with⟨aq,k,e,ey,l⟩|⟨aq,k,b,e,ey,eb,l⟩
 ·subst ey;obtain⟨z,hd,vs,rel,dd⟩:=ya I.aU e;refine abt (qr ry) hd dd.mapOf ?_;rw[←(rel.val k).sR,←l];exact h _ (I.tok _)
 ·subst ey;cases (show u=dF b from ry);obtain⟨z,hd,xs,rel,dd⟩:=yb I.aU e;refine wpAny_notIn_heap (FC hu) (vM I.aU eb) hd dd ?_;have q:=(rel.val k).sR;rw[MW]at q;rw[←q,←l];exact h _ (I.tok _)
theorem FD(I:Inv X pins σ H s)(mu:oq (H a))(hs:xx a s.heap h')(he:∃q,h'.get? a=some q)(new:eN X.prog X.w (upd H a ob) h' a ob):
  Inv X pins σ (upd H a ob) {s with heap:=h',toks:=t'}:=
 I.write (x:=a) (e:=a) mu (.inl rfl) (fun b q hb z=>(hs.2 b hb).trans z) he new
theorem abu(z:aq.length≤bf)(hd:(a==jx)=false)(rel:KV aq vs)(dd:h'.DictOf (g7 P w) a vs):
  eN P w H' h' a (.dK aq):=⟨z,hd,vs,rel,dd⟩
theorem abv(hu:A.units+1<lH)(I:Inv X pins σ H s)(g:nA H a y v H')(ry:RelV y u)(rv:RelV v r)(h:∀s',Inv X pins σ H' s'→Q () s'):
  aD (aP X.prog X.w) A (setItem (.ref a) u r) Q E s:=by
 rcases g with⟨aq,k,e,ey,l,eH⟩|⟨aq,k,b,e,ey,eb,l,eH⟩
 ·subst ey eH;obtain⟨z,hd,vs,rel,dd⟩:=abn I.aU e;have hz:vs.length≤bf:=by rw[←rel.length];exact z
  have hl:(putK aq k v).length≤bf:=by have:=Fy aq k v;lia
  refine wpAny_setItem_pairs (hsz:=hz) (qr ry) dd fun h' vN hs=>h _ ?_;have he:∃q,h'.get? a=some q:=let ⟨q,_,_,hq,_⟩:=vN;⟨q,hq⟩;exact FD I (by rw[e];exact True.intro) hs he (abu hl hd (rel.put k rv) vN)
 ·subst ey eH;cases (show u=dF b from ry);obtain⟨z,hd,xs,rel,dd⟩:=MY I.aU e;have hz:xs.length≤bf:=by rw[←Paired.length rel];exact z
  have hl:(putK aq k v).length≤bf:=by have:=Fy aq k v;lia
  refine wpAny_setItem_heap (hsz:=hz) (FC hu) (vM I.aU eb) dd fun h' vN hs=>h _ ?_;obtain⟨q,es,ep,hq,h2,h3,h4,_,h5⟩:=vN;refine FD I (by rw[e];exact True.intro) hs ⟨q,hq⟩ ⟨hl,hd,_,(rel.put k eb rv).keeps fun c ys ec=>?_,q,es,ep,hq,h2,h3,h4,h5⟩;rw[ao (cE ec e (fun z=>nomatch z))];exact ec
end
section
variable {X:Cx}{pins:List (ae×Obj)}{σ:St}{H:Hp}{s:aS}{a:ae}{aq:List (Key×V)}{k:Key}{u:aA}{A:eB}{E:aA→aS→Prop}
end
def A_(i:aY):Prop:=∀ov iv,EV i false ov iv=operate [ov,iv] (oM ov iv)
theorem MZ{T id:String}
  (hl:typeLookup (.type T) "__getitem__"=pure (some (.builtin id))) (hs:A_ slice)
  (h:aD (aP prog w) A (eval value env) (fun o s₁=>aD (aP prog w) A (eval slice env) (fun i s₂=>s₂.TypeIs o T∧aD (aP prog w) A (oM o i) Q E s₂) E s₁) E s):
  aD (aP prog w) A (eval (.Subscript value slice pos) env) Q E s:=by
 refine Mh (lD h (fun o s₁ h₁=>lD h₁ (fun i s₂ h₂=>?_) fun _ _ x=>x) fun _ _ x=>x);obtain⟨hT,h₂⟩:=h₂;unfold Mi;refine ay ?_;rw[getitemInPython_of_ne hT.not_modules];refine ay (wpAny_specialOf hT hl ?_);have fin:aD (aP prog w) A (EV slice false o i) (fun r s₃=>aD (aP prog w) A (letTemporaryGo value o r>>=fun _=>pure r) Q E s₃) E s₂:=by
  rw[hs o i];exact wpAny_operating (lD h₂ (fun r s₃ h₃=>ay (wpAny_letTemporaryGo (bc h₃))) fun _ _ x=>x)
 first
  |exact bc (ay fin)
  |exact ay (bc (ay fin))
  |exact ay fin
theorem abw{σ:St}(I:Inv X pins σ H s)(g:fW H a y o):s.TypeIs (.ref a) "dict":=by
 rcases g with⟨aq,k,e,_,_⟩|⟨aq,k,b,e,_,_,_⟩
 ·obtain⟨_,_,vs,_,dd⟩:=ya I.aU e;exact dd.typeIs
 ·obtain⟨_,_,xs,_,dd⟩:=yb I.aU e;exact dd.typeIs
inductive M0_(x y:V)(H:Hp)(Q:VK):Prop|mk a v:x=.ref a→fW H a y (some v)→Q v H→M0_ x y H Q
def M0(td ty:TE):TE:=fun σ H Q=>td σ H fun x H1=>ty σ H1 fun y H2=>M0_ x y H2 Q
inductive M1_(x y:V)(H:Hp)(Q:Option V→Prop):Prop|mk a o:x=.ref a→fW H a y o→Q o→M1_ x y H Q
def abx(ty td:TE):TE:=fun σ H Q=>ty σ H fun y H1=>td σ H1 fun x H2=>M1_ x y H2 fun o=>Q (.bl o.isSome) H2
def aby(ty td:TE):TE:=fun σ H Q=>ty σ H fun y H1=>td σ H1 fun x H2=>M1_ x y H2 fun o=>Q (.bl (!o.isSome)) H2
inductive M2_(x y v:V)(H:Hp)(Q:Hp→Prop):Prop|mk a H4:x=.ref a→nA H a y v H4→Q H4→M2_ x y v H Q
def abz(td ty tv:TE):TS:=fun D σ H=>tv σ H fun v H1=>td σ H1 fun x H2=>ty σ H2 fun y H3=>M2_ x y v H3 (D.nx σ)
section
variable {X:Cx}{o i e value:aY}{pos pos' iK:Pos}{td ty tv:TE}
theorem abA(hu:X.A.units+1<lH)(ho:PE X o td)(hi:PE X i ty)(hs:A_ i):PE X (.Subscript o i pos) (M0 td ty):=by
 intro pins s σ H Q I h;refine MZ PySem.F.slot_dict_getitem.lookup hs (aT (ho pins s σ H _ I h) fun u s1 ⟨x,H1,I1,rx,q1⟩=>aT (hi pins s1 σ H1 _ I1 q1) fun iv s2 ⟨y,H2,I2,ry,a,v,ex,g,q2⟩=>?_);subst ex;obtain rfl:u=dF a:=rx;exact⟨abw I2 g,abo hu I2 g ry fun w' s3 I3 mn=>⟨v,H2,I3,mn,q2⟩⟩
theorem abB(hu:X.A.units+1<lH)(hi:PE X i ty)(ho:PE X o td):PC X .In i o (abx ty td):=by
 intro pins s σ H Q I h;refine aT (hi pins s σ H _ I h) fun iv s1 ⟨y,H1,I1,ry,q1⟩=>aT (ho pins s1 σ H1 _ I1 q1) fun u s2 ⟨x,H2,I2,rx,a,ov,ex,g,q2⟩=>?_;subst ex;obtain rfl:u=dF a:=rx;exact abq hu I2 g ry fun s3 I3=>⟨.bl ov.isSome,H2,I3,rfl,q2⟩
theorem yc(hu:X.A.units+1<lH)(hi:PE X i ty)(ho:PE X o td):PC X .NotIn i o (aby ty td):=by
 intro pins s σ H Q I h;refine aT (hi pins s σ H _ I h) fun iv s1 ⟨y,H1,I1,ry,q1⟩=>aT (ho pins s1 σ H1 _ I1 q1) fun u s2 ⟨x,H2,I2,rx,a,ov,ex,g,q2⟩=>?_;subst ex;obtain rfl:u=dF a:=rx;exact abr hu I2 g ry fun s3 I3=>⟨.bl (!ov.isSome),H2,I3,rfl,q2⟩
theorem Ba(hu:X.A.units+1<lH)(ho:PE X o td)(hi:PE X i ty)(hv:PE X value tv)(hs:rZ value (some (.Subscript o i pos')) pos.line X.env=pure false):
  PS X (.Assign [.Subscript o i pos'] value pos) (abz td ty tv):=by
 intro pins s σ H D I h;refine wpAny_Assign_Subscript (aT (hv pins s σ H _ I h) fun r s1 ⟨v,H1,I1,rv,q1⟩=>aT (ho pins s1 σ H1 _ I1 q1) fun u s2 ⟨x,H2,I2,rx,q2⟩=>aT (hi pins s2 σ H2 _ I2 q2) fun iv s3 ⟨y,H3,I3,ry,a,H4,ex,g,q3⟩=>?_) hs;subst ex;obtain rfl:u=dF a:=rx;exact abv hu I3 g ry rv fun s4 I4=>⟨σ,H4,I4,q3⟩
end
theorem abC(h:bU)(hb:jx<h.objs.size):eN P w H (h.push {cls:=.type "dict",data:=.dict #[]}) h.objs.size (.dK []):=
 ⟨bu _,beq_eq_false_iff_ne.mpr (Ne.symm (fU hb)),[],.nil,apr h⟩
theorem M1(h:bU)(hb:jx<h.objs.size):eN P w H (h.push {cls:=.type "dict",data:=.dict #[]}) h.objs.size (.dT []):=
 ⟨bu _,beq_eq_false_iff_ne.mpr (Ne.symm (fU hb)),[],.nil,_,#[],0,eP _ rfl,⟨rfl,rfl,rfl⟩,rfl,rfl,M2⟩
def abD:TE:=fun _ H Q=>∀p,H p=none→Q (.ref p) (upd H p (.dK []))
def abE:TE:=fun _ H Q=>∀p,H p=none→Q (.ref p) (upd H p (.dT []))
section
variable {X:Cx}{pos:Pos}
theorem abF:PE X (.Dict [] [] pos) abD:=fun pins s σ H Q I h=>
 abG ⟨.ref s.heap.objs.size,_,I.laid (a:=s.heap.objs.size) (o:=.dK []) (t':=s.toks) (fun _ _ q=>dW _ q) (a9 _) (abC s.heap I.FA),rfl,h _ (I.aU.fresh (a9 _))⟩
theorem M3:PE X (.Dict [] [] pos) abE:=fun pins s σ H Q I h=>
 abG ⟨.ref s.heap.objs.size,_,I.laid (a:=s.heap.objs.size) (o:=.dT []) (t':=s.toks) (fun _ _ q=>dW _ q) (a9 _) (M1 s.heap I.FA),rfl,h _ (I.aU.fresh (a9 _))⟩
end
section
variable {X:Cx}{pins:List (ae×Obj)}{σ:St}{H:Hp}{s:aS}{a:ae}{y d:V}{u r:aA}{o:Option V}{A:eB}{E:aA→aS→Prop}
end
section
variable {X:Cx}{o e f:aY}{apos nu:Pos}{td ty tx:TE}
end
section
variable {X:Cx}{pins:List (ae×Obj)}{σ:St}{H:Hp}{s:aS}{a:ae}{aq:List (Key×V)}{A:eB}{E:aA→aS→Prop}
end
section
variable {X:Cx}{pins:List (ae×Obj)}{σ:St}{H:Hp}{s:aS}{a:ae}{y:V}{u:aA}{A:eB}{E:aA→aS→Prop}
end
section
variable {prog:cQ}{w:cD}{A:eB}{E:aA→aS→Prop}
end
section
variable {X:Cx}
end
theorem abH:uU "reversed"=some (.type "reversed"):=by decide+kernel
section
variable {X:Cx}{pins:List (ae×Obj)}{σ:St}{H:Hp}{s:aS}{h':bU}
theorem Inv.M4{ch:List ae}(I:Inv X pins σ H s)(k:∀b o,b∉ch→s.heap.get? b=some o→h'.get? b=some o)(hf:∀b∈ch,lG X pins H b):Inv X pins σ H {s with heap:=h',toks:=t'}:=by
 have p8:∀b u,H b=some u→b∉ch:=fun b u e z=>by
  have q:=(hf b z).1;rw[q]at e;cases e
 refine I.step (g':=s.gens) (d':=s.drawn) (ch:=ch) (fun b hb=>⟨(hf b hb).2.2.2.1,(hf b hb).2.1,(hf b hb).2.2.2.2.1,(hf b hb).2.2.2.2.2⟩) (fun b o _ _ hc e _=>k b o hc e) (fun b o _ _ hc e _=>⟨o.slots,k b o hc e⟩)
  (fun _ _ _ _ n=>n) (fun b o hc e=>⟨o,k b o hc e⟩) (fun _ _ e=>e) (fun _ _ _ e=>e) (fun b ps e=>⟨#[],by rw[e];simp⟩) (fun m hm=>?_) (fun b u e=>?_) I.bare
 ·obtain⟨o,es,ep,ho,r⟩:=hm;exact⟨o,es,ep,k _ o (fun z=>(hf _ z).2.1 rfl) ho,r⟩
 ·refine(I.aU b u e).kI (fun c v hc q=>k c v ?_ q) (fun _ q=>q) fun _ _ q=>q;rcases hc with z|z
  ·rw[z];exact p8 b u e
  ·exact p8 c _ z
theorem Inv.Bb{ch:List ae}{T:ae}(I:Inv X pins σ H s)(k:∀b o,b∉ch→s.heap.get? b=some o→h'.get? b=some o)(hf:∀b∈ch,lG X pins H b)(hT:s.heap.objs.size≤T)
  (new:eN X.prog X.w (upd H T ob) h' T ob):Inv X pins σ (upd H T ob) {s with heap:=h',toks:=t'}:=by
 have hn:H T=none:=I.aU.fresh hT;have p8:∀b u,H b=some u→b∉ch:=fun b u e z=>by
  have q:=(hf b z).1;rw[q]at e;cases e
 refine I.step (g':=s.gens) (d':=s.drawn) (ch:=ch) (fun b hb=>⟨(hf b hb).2.2.2.1,(hf b hb).2.1,(hf b hb).2.2.2.2.1,(hf b hb).2.2.2.2.2⟩) (fun b o _ _ hc e _=>k b o hc e) (fun b o _ _ hc e _=>⟨o.slots,k b o hc e⟩)
  (fun b o _ e n=>?_) (fun b o hc e=>⟨o,k b o hc e⟩) (fun b xs e=>?_) (fun b o u e=>?_) (fun b ps e=>⟨#[],?_⟩) (fun m hm=>?_) (fun b u e=>?_) I.bare
 ·rw[ao (fU (dG (cN e) hT))];exact n
 ·rw[ao (cy e hn)];exact e
 ·rw[ao (cy e hn)];exact e
 ·rw[ao (cy e hn),e];simp
 ·obtain⟨o,es,ep,ho,r⟩:=hm;exact⟨o,es,ep,k _ o (fun z=>(hf _ z).2.1 rfl) ho,r⟩
 ·by_cases hb:b=T
  ·subst hb;rw[ah]at e;cases e;exact new
  ·rw[ao hb]at e;refine(I.aU b u e).kI (fun c v hc q=>k c v ?_ q) (fun c q=>by rw[ao (cy q hn)];exact q) fun c xs q=>by rw[ao (cy q hn)];exact q
   rcases hc with z|z
   ·rw[z];exact p8 b u e
   ·exact p8 c _ z
theorem Inv.lock(I:Inv X pins σ H s)(h:H d=some u)(mu:oq (some u)):∃od,Inv X pins σ (upd H d (.bE od u)) s:=by
 have x:=I.aU d u h;have ex:∃od,s.heap.get? d=some od:=by
  cases u with
  |lst xs=>obtain⟨_,_,_,_,e⟩:=x;exact⟨_,e⟩
  |dK aq=>obtain⟨_,_,_,_,o,_,_,e,_⟩:=x;exact⟨o,e⟩
  |dT aq=>obtain⟨_,_,_,_,o,_,_,e,_⟩:=x;exact⟨o,e⟩
  |set S n=>obtain⟨o,_,_,_,e,_⟩:=x;exact⟨o,e⟩
  |ins C dx fs=>obtain⟨_,_,_,e,_⟩:=x;exact⟨_,e⟩
  |ext φ=>obtain⟨_,⟨_,e⟩,_⟩:=x;exact⟨_,e⟩
  |_=>exact iZ mu
 obtain⟨od,e⟩:=ex;have new:eN X.prog X.w (upd H d (.bE od u)) s.heap d (.bE od u):=by
  refine⟨e,x.kI (fun b v _ q=>q) (fun b q=>?_) fun b xs q=>?_⟩
  ·rw[ao (fun z=>by rw[z,h]at q;cases q;exact mu)];exact q
  ·rw[ao (fun z=>by rw[z,h]at q;cases q;exact mu)];exact q
 exact⟨od,I.write (x:=d) (e:=d) (t':=s.toks) (h':=s.heap) (by rw[h];exact mu) (.inl rfl) (fun b v _ q=>q) ⟨od,e⟩ new⟩
theorem Inv.yd(I:Inv X pins σ H s)(h:H d=some u)(mu:oq (some u)):∀o' u',X.H_0 d≠some (.bE o' u'):=fun o' u' e=>by
 have q:=I.base.mi d o' u' e;rw[h]at q;cases q;exact mu
theorem Inv.unlock(I:Inv X pins σ H s)(h:H d=some (.bE od u))(hn:∀o' u',X.H_0 d≠some (.bE o' u')):Inv X pins σ (upd H d u) s:=by
 have vO:∀b o,H b=some o→(∀o' u',o≠.bE o' u')→b≠d:=fun b o e cU z=>by
  rw[z,h]at e;cases e;exact cU _ _ rfl
 have neN:∀b,H b=none→b≠d:=fun b e z=>by rw[z,h]at e;cases e
 refine⟨I.ok,I.os,I.bare,⟨I.base.keep,I.base.slot,fun b o e n hx=>?_,I.base.there,fun b xs e=>?_,fun b o x e=>?_,fun b ps e=>?_⟩,I.loc,I.cell,?_,fun x c e=>?_,fun p hp=>?_,fun b o e=>?_,I.len⟩
 ·rw[ao (neN b (I.base.free b o e n hx))];exact I.base.free b o e n hx
 ·have q:=I.base.ou b xs e;rw[ao (vO b _ q (fun _ _ z=>nomatch z))];exact q
 ·have q:=I.base.mi b o x e;rw[ao (fun z=>by rw[z]at e;exact hn _ _ e)];exact q
 ·obtain⟨m,q⟩:=I.base.ow b ps e;exact⟨m,by rw[ao (vO b _ q (fun _ _ z=>nomatch z))];exact q⟩
 ·rw[ao (neN _ I.free)];exact I.free
 ·rw[ao (neN c (I.kJ x c e))];exact I.kJ x c e
 ·obtain⟨e,n,r⟩:=I.pin p hp;exact⟨e,by rw[ao (neN _ n)];exact n,r⟩
 ·by_cases hb:b=d
  ·rw[hb,ah]at e;cases e;rw[hb];obtain⟨_,x⟩:=I.aU d _ h;exact x.kI (fun c v _ q=>q) (fun c q=>by rw[ao (vO c _ q (fun _ _ z=>nomatch z))];exact q) fun c xs q=>by rw[ao (vO c _ q (fun _ _ z=>nomatch z))];exact q
  ·rw[ao hb]at e;exact(I.aU b o e).kI (fun c v _ q=>q) (fun c q=>by rw[ao (vO c _ q (fun _ _ z=>nomatch z))];exact q) fun c xs q=>by rw[ao (vO c _ q (fun _ _ z=>nomatch z))];exact q
end
def abI(t:TS):TS:=fun D σ H=>∃d u,H d=some u∧oq (some u)∧∀od,t ⟨fun σ' H'=>H' d=some (.bE od u)∧D.nx σ' (upd H' d u),fun v H'=>H' d=some (.bE od u)∧D.rt v (upd H' d u),fun σ' H'=>H' d=some (.bE od u)∧D.bk σ' (upd H' d u),fun σ' H'=>H' d=some (.bE od u)∧D.ct σ' (upd H' d u)⟩ σ (upd H d (.bE od u))
def abJ(t:TE):TE:=fun σ H Q=>∃d u,H d=some u∧oq (some u)∧∀od,t σ (upd H d (.bE od u)) fun v H'=>H' d=some (.bE od u)∧Q v (upd H' d u)
section
variable {X:Cx}
theorem abK{st:aK}(h:PS X st t):PS X st (abI t):=by
 intro pins s σ H D I hw;obtain⟨d,u,hd,mu,hw⟩:=hw;obtain⟨od,I1⟩:=I.lock hd mu;refine aT (h pins s σ _ _ I1 (hw od)) fun f s1 q=>?_;cases f with
 |next=>obtain⟨σ',H',I2,e,q⟩:=q;exact⟨σ',_,I2.unlock e (I.yd hd mu),q⟩
 |brk=>obtain⟨σ',H',I2,e,q⟩:=q;exact⟨σ',_,I2.unlock e (I.yd hd mu),q⟩
 |cont=>obtain⟨σ',H',I2,e,q⟩:=q;exact⟨σ',_,I2.unlock e (I.yd hd mu),q⟩
 |ret v=>obtain⟨x,σ',H',I2,r,e,q⟩:=q;exact⟨x,σ',_,I2.unlock e (I.yd hd mu),r,q⟩
theorem FE(h:PE X e t):PE X e (abJ t):=by
 intro pins s σ H Q I hw;obtain⟨d,u,hd,mu,hw⟩:=hw;obtain⟨od,I1⟩:=I.lock hd mu;refine aT (h pins s σ _ _ I1 (hw od)) fun v s1 ⟨x,H1,I2,r,e2,q⟩=>?_;exact⟨x,_,I2.unlock e2 (I.yd hd mu),r,q⟩
theorem vP{σ:St}(I:Inv X pins σ H s)o
  (T:Turn X.prog X.w X.K tg J [s.heap.objs.size] s.heap.objs.size tn) (st:tn 0 (s.heap.push o)) (q:R J H):Eo X pins σ tg R (.ref s.heap.objs.size) {s with heap:=s.heap.push o,toks:=tk}:=by
 refine⟨s.heap.objs.size,[s.heap.objs.size],tn,J,H,rfl,I.kept fun b ob e=>dW _ e,T,st,fun b hb=>?_,q⟩;have e:b=s.heap.objs.size:=by simpa using hb
 subst e;exact I.qc (a9 _) (I.aU.fresh (a9 _))
end
def ye(lo c:Int)(n:Nat):It:=⟨fun i _=>i<n,fun i H x H'=>H'=H∧x=.int (lo+(i:Nat)*c),fun i _=>n≤i⟩
theorem abL{P:cQ}{w:cD}{K:PySem.W.Frag}{tg:aY}(it:ae)(lo c:Int)(n:Nat):Turn P w K tg (ye lo c n) [it] it (fun i h=>Er h it (lo+(i:Nat)*c) ((n:Int)-(i:Nat)) c) where
 mem:=by simp
 obj:=fun i h st b hb=>by
  have e:b=it:=by simpa using hb
  subst e;exact⟨_,st,fun v z=>nomatch z⟩
 keep:=fun i h h' st k=>k it (by simp) _ st
 item:=by
  intro X hP hw hK hc i pins s σ H E I hf st hg;subst hP hw hK;obtain⟨f0,f1,f2,f3,f4,f5⟩:=hf it (by simp);have W:=YX (prog:=X.prog) (w:=X.w) (I.ok.hd hc) it lo c n;refine W.item i s _ _ hg st fun v h' tk hv ci kk=>?_;obtain⟨t,rfl⟩:=hv;have I1:Inv X pins σ H {s with heap:=h',toks:=tk}:=I.turned (fun b o hb e=>kk b o (by simpa using hb) e) f0 f1 f3 f4 f5;exact⟨_,rfl,r_ (s:={s with heap:=h',toks:=tk}) (n:="range_iterator") ci rfl rfl (by decide) ⟨.int (lo+(i:Nat)*c),H,I1,⟨t,rfl⟩,⟨rfl,rfl⟩,ci,fun b hb=>(hf b hb).1⟩⟩
 done:=by
  intro X hP hw hK hc i pins s σ H E I hf st hg;subst hP hw hK;obtain⟨f0,f1,f2,f3,f4,f5⟩:=hf it (by simp);exact YY (I.ok.hd hc) st (by have:n≤i:=hg;lia) fun h' eb=>⟨rfl,I.turned (t':=s.toks) (fun b o hb e=>eb b o hb e) f0 f1 f3 f4 f5⟩
 self:=fun A i s Q E st h=>YZ st h
def yf(i j c:Int)(n:Nat):Prop:=c≠0∧c.natAbs<1073741824∧abM i j c=true∧Es i j c=n
theorem yf.neg(ha: -(2^62)≤i)(ha':i<2^62)(hb: -(2^62)≤j)(mE:j<2^62):yf i j (-1) (i-j).toNat:=
 ⟨by decide,by decide,PySem.W.small_down ha ha' hb mE,PySem.W.rangeSize_downNat i j⟩
def abO(ta:TA):TI:=fun σ H R=>ta σ H fun vs H1=>∃(i j c:Int) (n:Nat),vs=[.int i,.int j,.int c]∧yf i j c n∧R (ye i c n) H1
section
variable {X:Cx}{tg:aY}
theorem M5{a b c:aY}{ta:TA}{p pos:Pos}(hg:Gl X "range")(hm:X.mg "range"=none)(ha:PA X [a,b,c] ta)
  (hs:bo [a,b,c] X.env=(false,eval a X.env)::bo [b,c] X.env:=by rfl) (df:(g9 pos (bo [b,c] X.env)).any (·.1)=false:=by rfl):
  PI X tg (.Call (.Name "range" p) [a,b,c] [] pos) (abO ta):=by
 intro pins s σ H R I h;refine sd (m6 I hg hm LB (qf (aT (ha pos pins s σ H _ I h) fun us s1 ⟨vs,H1,I1,r1,q1⟩=>?_) hs df));obtain⟨i,j,k,n,e,⟨c0,c1,c2,c3⟩,q⟩:=q1;subst e;cases r1 with
 |cons r rr=>
  cases rr with
  |cons r' rr=>
   cases rr with
   |cons r'' rr=>
    cases rr;obtain⟨t,rfl⟩:=r;obtain⟨t',rfl⟩:=r';obtain⟨t'',rfl⟩:=r'';refine call_range_3 c0 ?_ (.inl (PyProof.noPylong_small c1));refine Y1 (Y2 ..) c2 ?_;have I2:Inv X pins σ H1 {s1 with heap:=s1.heap.push {cls:=.type "range",data:=.fields #[.int i t,.int j t',.int k t'']}}:=I1.kept (t':=s1.toks) fun b o e=>dW _ e;refine vP (tk:=s1.toks) I2 _ (abL _ i k n) ?_ q;have e1:i+((0:Nat):Int)*k=i:=by simp
    have e2:(n:Int)-((0:Nat):Int)=Es i j k:=by rw[c3];simp
    show Er _ _ (i+((0:Nat):Int)*k) ((n:Int)-((0:Nat):Int)) k;rw[e1,e2];exact eP _ rfl
end
theorem M6{lo c:Int}{g:TG}{tb:TS}{D:Ends}(Pv:Nat→St→Hp→Prop)(h0:Pv 0 σ H)
  (hs:∀i σ H,i<n→Pv i σ H→g (.int (lo+(i:Nat)*c)) σ H fun σ2 H2=>tb {D with nx:=Pv (i+1),ct:=Pv (i+1),bk:=D.nx} σ2 H2) (hd:∀σ H,Pv n σ H→D.nx σ H):
  ∃W:Nat→Nat→St→Hp→Prop,(∃m,W 0 m σ H)∧∀i m σ H,W i m σ H→
   ((ye lo c n).stop i H∧D.nx σ H)∨((ye lo c n).go i H∧∃N:St→Hp→Prop,(∀σ' H',N σ' H'→∃m',m'<m∧W (i+1) m' σ' H')∧∀x H',(ye lo c n).lE i H x H'→g x σ H' fun σ2 H2=>tb {D with nx:=N,ct:=N,bk:=D.nx} σ2 H2):=by
 refine⟨fun i m σ H=>m=n-i∧i≤n∧Pv i σ H,⟨n,by simp,bu _,h0⟩,?_⟩;rintro i m σ H ⟨rfl,hi,p⟩;by_cases cW:i<n
 ·refine .inr ⟨cW,Pv (i+1),fun σ' H' p'=>⟨n-(i+1),by lia,rfl,cW,p'⟩,fun x H' y=>?_⟩;obtain⟨e,y⟩:=y;subst e y;exact hs i σ _ cW p
 ·have e:i=n:=by lia
  subst e;exact .inl ⟨a9 _,hd σ H p⟩
def M7(K:PySem.W.Frag)(a:ae)(n:Nat):It:=
 ⟨fun i H=>i<n∧∃(xs:List V) (x:V),ai K H a xs∧xs[n-1-i]?=some x,fun i H x H'=>H'=H∧∀xs,ai K H a xs→xs[n-1-i]?=some x,fun i _=>n≤i⟩
theorem abR{P:cQ}{w:cD}{K:PySem.W.Frag}{tg:aY}(a it:ae)(n:Nat):Turn P w K tg (M7 K a n) [it] it (fun i h=>i≤n∧h.IsRevIter it a ((n:Int)-1-(i:Nat))) where
 mem:=by simp
 obj:=fun i h st b hb=>by
  have e:b=it:=by simpa using hb
  subst e;obtain⟨_,o,e,c,d⟩:=st;exact⟨o,e,fun v z=>by rw[d]at z;cases z⟩
 keep:=fun i h h' st k=>⟨st.1,st.2.at fun o e=>k it (by simp) o e⟩
 item:=by
  intro X hP hw hK hc i pins s σ H E I hf st hg;subst hP hw hK;obtain⟨Bc,xs,x,hq,hx⟩:=hg;obtain⟨au,rv,p,hz⟩:=I.list hq;obtain⟨u,hu,ru⟩:=rv.get hx;obtain⟨f0,f1,f2,f3,f4,f5⟩:=hf it (by simp);obtain⟨_,hit⟩:=st;have e1:(n:Int)-1-((i:Nat):Int)=((n-1-i:Nat):Int):=by lia
  rw[e1]at hit;refine wpAny_pyNext_rev_item hit p.isList (x:=u) (by simpa using hu) fun h' ci sb=>?_;have e2:((n-1-i:Nat):Int)-1=(n:Int)-1-((i+1:Nat):Int):=by lia
  rw[e2]at ci;have I1:Inv X pins σ H {s with heap:=h'}:=I.turned (t':=s.toks) (fun b o hb e=>(sb.2 b hb).trans e) f0 f1 f3 f4 f5;obtain⟨o,e,c,d⟩:=id ci;exact⟨u,rfl,r_ (s:={s with heap:=h'}) e c d (by decide) ⟨x,H,I1,ru,⟨rfl,fun ys hy=>by rw[I.u4 hy hq];exact hx⟩,⟨Bc,ci⟩,fun b hb=>(hf b hb).1⟩⟩
 done:=by
  intro X hP hw hK hc i pins s σ H E I hf st hg;subst hP hw hK;obtain⟨f0,f1,f2,f3,f4,f5⟩:=hf it (by simp);obtain⟨Bc,hit⟩:=st;have M8:n≤i:=hg;have e1:(n:Int)-1-((i:Nat):Int)= -1:=by lia
  rw[e1]at hit;exact wpAny_pyNext_rev_end (I.ok.hd hc) hit fun h' eb=>⟨rfl,I.turned (t':=s.toks) (fun b o hb e=>eb b o hb e) f0 f1 f3 f4 f5⟩
 self:=fun A i s Q E st h=>abS st.2 h
def abT(K:PySem.W.Frag)(ta:TA):TI:=fun σ H R=>ta σ H fun vs H1=>∃(a:ae) (xs:List V),vs=[.ref a]∧ai K H1 a xs∧R (M7 K a xs.length) H1
section
variable {X:Cx}{tg:aY}
theorem abU{e:aY}{ta:TA}{p pos:Pos}(hg:Gl X "reversed")(hm:X.mg "reversed"=none)(ha:PA X [e] ta)(hs:bo [e] X.env=[(false,eval e X.env)]:=by rfl):PI X tg (.Call (.Name "reversed" p) [e] [] pos) (abT X.K ta):=by
 intro pins s σ H R I h;refine sd (m6 I hg hm abH (qf (aT (ha pos pins s σ H _ I h) fun us s1 ⟨vs,H1,I1,r1,q1⟩=>?_) hs rfl));obtain⟨a,xs,e,hq,q⟩:=q1;subst e;cases r1 with
 |cons r rr=>
  cases rr;cases r;obtain⟨au,rv,p',hz⟩:=I1.list hq;have hl:=rv.length;have e1:((au.toArray.size:Nat):Int)-1=(xs.length:Int)-1-((0:Nat):Int):=by simp only[c7];lia
  refine call_reversed_list p'.isList (abS (l:=a) (i:=((au.toArray.size:Nat):Int)-1) ⟨_,eP _ rfl,rfl,rfl⟩ ?_);refine vP (tk:=s1.toks) I1 _ (abR a _ xs.length) ⟨bu _,?_⟩ q;rw[←e1];exact⟨_,eP _ rfl,rfl,rfl⟩
end
def M9(x:Str):It:=⟨fun i _=>i<x.cps.size,fun i H v H'=>H'=H∧∃c,x.cps[i]?=some c∧v=.str ⟨#[c]⟩,fun i _=>x.cps.size≤i⟩
theorem M_{P:cQ}{w:cD}{K:PySem.W.Frag}{tg:aY}(it:ae)(x:Str)(t:Tok)(ty:String)(vE:ty="str_ascii_iterator"∨ty="str_iterator"):
  Turn P w K tg (M9 x) [it] it (fun i h=>h.IsStrIter it ty x t i) where
 mem:=by simp
 obj:=fun i h st b hb=>by
  have e:b=it:=by simpa using hb
  subst e;obtain⟨o,e,c,d⟩:=st;exact⟨o,e,fun v z=>by rw[d]at z;cases z⟩
 keep:=fun i h h' st k=>let ⟨o,ho,r⟩:=st;⟨o,k it (by simp) o ho,r⟩
 item:=by
  intro X hP hw hK hc i pins s σ H E I hf st hg;subst hP hw hK;obtain⟨f0,f1,f2,f3,f4,f5⟩:=hf it (by simp);have W:Walks X.prog X.w X.A it [it] [it] x.cps.size (SignAt x) (fun i h=>h.IsStrIter it ty x t i):=by
   rcases vE with e|e
   ·rw[e];exact Walks.strAscii (I.ok.hd hc) it x t
   ·rw[e];exact Walks.strWide (I.ok.hd hc) it x t
  have dh:["enumerate","zip","dict_itemiterator","dict_reverseitemiterator","odict_iterator","itertools.zip_longest","itertools.pairwise"].contains ty=false:=by
   rcases vE with e|e
   ·rw[e];decide
   ·rw[e];decide
  refine W.item i s _ _ hg st fun v h' tk hv ci kk=>?_;obtain⟨c,u,hcx,rfl⟩:=hv;have I1:Inv X pins σ H {s with heap:=h',toks:=tk}:=I.turned (fun b o hb e=>kk b o (by simpa using hb) e) f0 f1 f3 f4 f5;obtain⟨oi,e,cc,dd⟩:=id ci;exact⟨_,rfl,r_ (s:={s with heap:=h',toks:=tk}) e cc dd dh ⟨.str ⟨#[c]⟩,H,I1,⟨u,rfl⟩,⟨rfl,c,hcx,rfl⟩,ci,fun b hb=>(hf b hb).1⟩⟩
 done:=by
  intro X hP hw hK hc i pins s σ H E I hf st hg;subst hP hw hK;obtain⟨f0,f1,f2,f3,f4,f5⟩:=hf it (by simp);have hx:x.cps[i]?=none:=abW hg;rcases vE with e|e
  ·rw[e]at st;exact wpAny_pyNext_ascii_end (I.ok.hd hc) st hx fun h' eb=>⟨rfl,I.turned (t':=s.toks) (fun b o hb e=>eb b o hb e) f0 f1 f3 f4 f5⟩
  ·rw[e]at st;exact wpAny_pyNext_wide_end (I.ok.hd hc) st hx fun h' eb=>⟨rfl,I.turned (t':=s.toks) (fun b o hb e=>eb b o hb e) f0 f1 f3 f4 f5⟩
 self:=fun A i s Q E st h=>by
  rcases vE with e|e
  ·rw[e]at st;exact wpAny_pyIter_striter_ascii st h
  ·rw[e]at st;exact wpAny_pyIter_striter_wide st h
def abX(te:TE):TI:=fun σ H R=>te σ H fun v H1=>∃x,v=.str x∧R (M9 x) H1
theorem Na(he:PE X e te):PI X tg e (abX te):=by
 intro pins s σ H R I h;refine aT (he pins s σ H _ I h) fun v s1 ⟨y,H1,I1,r1,x,ex,q⟩=>?_;subst ex;obtain⟨t,rfl⟩:=r1;cases ha:x.cps.all (· <128)
 ·exact wpAny_pyIter_wide ha (vP (tk:=s1.toks) I1 _ (M_ _ x t "str_iterator" (.inr rfl)) ⟨_,eP _ rfl,rfl,rfl⟩ q)
 ·exact wpAny_pyIter_ascii ha (vP (tk:=s1.toks) I1 _ (M_ _ x t "str_ascii_iterator" (.inl rfl)) ⟨_,eP _ rfl,rfl,rfl⟩ q)
section
variable {prog:cQ}{w:cD}{A:eB}{E:aA→aS→Prop}{s:aS}
theorem Nb(hd:(d==jx)=false)(ho:s.heap.get? d=some o)(hc:o.ExactDict)(Nc:o.data=.dict es ep)
  (hQ:Q (.ref s.heap.objs.size) {s with heap:=s.heap.push {cls:=.type "dict_keyiterator",data:=.fields #[.ref d,.int 0 0,.int es.size 0,.int ep 0]}}):
  aD (aP prog w) A (AI (.ref d)) Q E s:=by
 have hT:s.TypeIs (.ref d) "dict":=⟨o,ho,hc.1⟩
 refine abY hT abZ (oN abZ hT F.entry_dict_iter ?_ (F.args_dict_iter_1 _));unfold yg.«dict.__iter__»;refine ay ?_;unfold aps;refine ay (wpAny_notOrdered_dict hT ?_);show aD _ _ (pure (dF d)) _ _ s;refine bc ?_;show aD _ _ (ab0 d>>=_) _ _ s;unfold ab0;rw[if_neg (by rw[hd];exact cb)];refine ay (bc ?_);refine ay (Nd ho Nc ?_);refine ay (Nf ho Nc ?_);refine ay (oO (bc ⟨_,rfl,"dict_keyiterator",_,⟨_,eP _ rfl,rfl⟩,yh.lookup,?_⟩));simpa[kK]using hQ
theorem ab1(hit:s.heap.IsKeyIter it d i n ep)(mF:s.heap.get? d=some od)(yi:od.data=.dict es ep)
  (hsz:es.size=n) (hx:es[i]?=some en) (hQ:∀h',h'.IsKeyIter it d (i+1) n ep→xx it s.heap h'→Q (some en.key) {s with heap:=h'}):aD (aP prog w) A (m8 (.ref it)) Q E s:=by
 obtain⟨o,ho,hc,hd⟩:=id hit;unfold m8;refine ay (FF (sF (name:=aZ "__next__") hit.typeIs yh
  (oN yh hit.typeIs ab2 ?_ (ab3 _))))
 refine ay (bc ?_);refine ay ?_;refine ay ?_
 first|refine ay (FG hit.typeIs (bc ?_))|refine ay (FH hit.typeIs (bc ?_))
 refine ay (ab4 ho hd ?_);have yj:ab5 "dict_keyiterator"=false:=by decide
 simp only[yj,Ft,if_false];show aD _ _ (if(dF d==Value.none)=true then _ else _) _ _ s;rw[if_neg (show ¬((dF d==Value.none)=true)from cb)];refine ay (bc ?_);refine ay (Nd mF yi ?_);rw[if_neg (by rw[hsz];simp)];refine ay (bc ?_);refine ay (Nf mF yi ?_);rw[if_neg (by simp)];refine bc ?_;obtain⟨ab6,FI⟩:=Array.getElem?_eq_some_iff.mp hx;simp only[show ¬((i:Int)<0)from by lia,if_false,ml,Array.getElem?_eq_getElem ab6];refine ay ?_
 first|refine ay (FG hit.typeIs (bc ?_))|refine ay (FH hit.typeIs (bc ?_))
 refine ay (ab7 hit.typeIs ?_);show aD _ _ (setField (.ref it) 1 (kK ((i:Int)+1))>>=_) _ _ s;refine ay (FJ ho hd (by simp) ?_);have qu:(s.heap.update it (ab8 (·.setIfInBounds 1 (kK ((i:Int)+1))))).IsKeyIter it d (i+1) n ep:=
  ⟨_,Mq _ ho (ab9 (FK hd _)),(ab_ ..).trans hc,by rw[FK hd];simp[kK]⟩
 refine ay (r9 ?_);refine ay (ab7 (s:={s with heap:=s.heap.update it (ab8 (·.setIfInBounds 1 (kK ((i:Int)+1))))}) qu.typeIs ?_);show aD _ _ (pure es[i].key) _ _ _;rw[FI];exact bc (bc ⟨_,rfl,bc (hQ _ qu (FL ..))⟩)
theorem Ng(hh:A.handled=none)(hit:s.heap.IsKeyIter it d i n ep)(mF:s.heap.get? d=some od)(yi:od.data=.dict es ep)
  (hsz:es.size=n) (M8:n≤i) (hQ:∀h',aca it s.heap h'→Q none {s with heap:=h'}):aD (aP prog w) A (m8 (.ref it)) Q E s:=by
 obtain⟨o,ho,hc,hd⟩:=id hit;unfold m8;refine ay (FF (sF (name:=aZ "__next__") hit.typeIs yh
  (oN yh hit.typeIs ab2 ?_ (ab3 _))))
 refine ay (bc ?_);refine ay ?_;refine ay ?_
 first|refine ay (FG hit.typeIs (bc ?_))|refine ay (FH hit.typeIs (bc ?_))
 refine ay (ab4 ho hd ?_);have yj:ab5 "dict_keyiterator"=false:=by decide
 simp only[yj,Ft,if_false];show aD _ _ (if(dF d==Value.none)=true then _ else _) _ _ s;rw[if_neg (show ¬((dF d==Value.none)=true)from cb)];refine ay (bc ?_);refine ay (Nd mF yi ?_);rw[if_neg (by rw[hsz];simp)];refine ay (bc ?_);refine ay (Nf mF yi ?_);rw[if_neg (by simp)];refine bc ?_;have acb:es.size≤i:=by rw[hsz];exact M8
 simp only[show ¬((i:Int)<0)from by lia,if_false,ml,abW acb];refine ay ?_
 first|refine ay (FG hit.typeIs (bc ?_))|refine ay (FH hit.typeIs (bc ?_))
 show aD _ _ (setField (.ref it) 0 .none>>=_) _ _ s;refine ay (FJ ho hd (by simp) ?_);show aD _ _ (newExc (.type "StopIteration") []>>=_) _ _ _;refine ay ?_;simp only[newExc,newTuple];refine ay (oO ?_ (by size_fits));refine ay (m:=FN _ _) (wpAny_of_eq (a:=Value.none) (by first|rfl|(simp only[FN];rfl)) ?_);refine oO ?_ (by size_fits);simp only[raiseNew];refine ay (acd ?_);rw[show A.in1.handled=none from hh];refine ay (bc (wpAny_throw ?_));refine ay (ace (T:="StopIteration") (b:=true) ⟨_,eP _ rfl,rfl⟩ acf ?_);exact bc (hQ _ (((FL ..).extBut.push _).push _))
end
theorem acg{κ:Type}{aq:List (κ×V)}{vs:List (κ×aA)}(h:KV aq vs):∀{i:Nat}{k}{v},aq[i]?=some (k,v)→∃u,vs[i]?=some (k,u)∧RelV v u:=by
 unfold KV at h;induction h with
 |nil=>intro i k v e;simp at e
 |@cons a b l₁ l₂ r t ih=>
  intro i k v e;cases i with
  |zero=>
   simp only[Nh,gF]at e;subst e;refine⟨b.2,?_,r.2⟩;simp only[Nh];exact congrArg some (ZS r.1.symm rfl)
  |succ j=>
   simp only[ach]at e ⊢;exact ih e
theorem fc{α β:Type}{G:α→β→Prop}{l₁:List α}{l₂:List β}(h:Paired G l₁ l₂):∀{i:Nat}{a},l₁[i]?=some a→∃b,l₂[i]?=some b∧G a b:=by
 induction h with
 |nil=>intro i a e;simp at e
 |@cons a b l₁ l₂ r t ih=>
  intro i a' e;cases i with
  |zero=>
   simp only[Nh,gF]at e;subst e;exact⟨b,rfl,r⟩
  |succ j=>
   simp only[ach]at e ⊢;exact ih e
theorem aci(h:oo k u=true):RelV (kV k) u:=by
 rcases mZ h with⟨i,t,rfl,rfl⟩|⟨x,t,rfl,rfl⟩
 ·exact⟨t,rfl⟩
 ·exact⟨t,rfl⟩
section
variable {X:Cx}{pins:List (ae×Obj)}{σ:St}{H:Hp}{s:aS}{d:ae}{o:Obj}
theorem Inv.FO(I:Inv X pins σ H s)(h:H d=some (.bE o (.dK aq))):
  (d==jx)=false∧s.heap.get? d=some o∧o.ExactDict∧∃(es:Array sT) (ep:Nat) (vs:List (Key×aA)),o.data=.dict es ep∧es.size=aq.length∧KV aq vs∧s.heap.DictAt (g7 X.prog X.w) d vs ep:=by
 obtain⟨hd,z,hs,vs,kv,o',es,ep,ho,hx,bF,r⟩:=I.aU d _ h;rw[hd]at ho;cases ho;refine⟨hs,hd,hx,es,ep,vs,bF,?_,kv,o,es,hd,hx,bF,r⟩;have l1:=r.2.1.length;have l2:aq.length=vs.length:=Paired.length kv;rw[u1]at l1
 lia
theorem Inv.FP(I:Inv X pins σ H s)(h:H d=some (.bE o (.dT aq))):
  (d==jx)=false∧s.heap.get? d=some o∧o.ExactDict∧∃(es:Array sT) (ep:Nat),o.data=.dict es ep∧es.size=aq.length∧
   ∀(i:Nat) k v,aq[i]?=some (k,v)→∃(en:sT) (q:ae),es[i]?=some en∧en.key=.ref q∧H q=some (.tup (k.map kV)):=by
 obtain⟨hd,z,hs,xs,pr,o',es,ep,ho,hx,bF,he,_⟩:=I.aU d _ h;rw[hd]at ho;cases ho;refine⟨hs,hd,hx,es,ep,bF,?_,fun i k v e=>?_⟩
 ·have l1:es.size=xs.length:=size_of_entries he;have l2:aq.length=xs.length:=Paired.length pr
  lia
 ·obtain⟨b,hb,e1,e2,_⟩:=fc pr e;have q:=entry_at he i;rw[hb]at q;exact⟨_,b.2.1,q,rfl,e2⟩
end
def Ni(d:ae)(o:Obj)(aq:List (Key×V)):It:=
 ⟨fun i H=>H d=some (.bE o (.dK aq))∧i<aq.length,fun i H x H'=>H'=H∧∃k v,aq[i]?=some (k,v)∧x=kV k,fun i H=>H d=some (.bE o (.dK aq))∧aq.length≤i⟩
def Nj(d:ae)(o:Obj)(aq:List (List Key×V)):It:=
 ⟨fun i H=>H d=some (.bE o (.dT aq))∧i<aq.length,fun i H x H'=>H'=H∧∃(k:List Key) (v:V) (q:ae),aq[i]?=some (k,v)∧x=.ref q∧H q=some (.tup (k.map kV)),fun i H=>H d=some (.bE o (.dT aq))∧aq.length≤i⟩
theorem Bd{o:Obj}(h:o.data=.dict es ep)(h':o.data=.dict oy oA):oy=es∧oA=ep:=by
 rw[h]at h';cases h';exact⟨rfl,rfl⟩
section
variable {P:cQ}{w:cD}{K:PySem.W.Frag}{tg:aY}{d:ae}{o:Obj}{es:Array sT}{ep:Nat}
theorem acj{aq:List (Key×V)}(it:ae)(mF:o.data=.dict es ep):Turn P w K tg (Ni d o aq) [it] it (fun i h=>h.IsKeyIter it d i aq.length ep) where
 mem:=by simp
 obj:=fun i h st b hb=>by
  have e:b=it:=by simpa using hb
  subst e;obtain⟨oi,e,c,dd⟩:=st;exact⟨oi,e,fun v z=>by rw[dd]at z;cases z⟩
 keep:=fun i h h' st k=>st.at fun oi e=>k it (by simp) oi e
 item:=by
  intro X hP hw hK hc i pins s σ H E I hf st hg;subst hP hw hK;obtain⟨hd,hi⟩:=hg;obtain⟨f0,f1,f2,f3,f4,f5⟩:=hf it (by simp);obtain⟨hs,nB,hx,oy,oA,vs,bF,hsz,kv,hm⟩:=I.FO hd;obtain⟨rfl,rfl⟩:=Bd mF bF;obtain⟨⟨k,v⟩,qv⟩:∃p,aq[i]?=some p:=⟨aq[i],di hi⟩
  obtain⟨u,hu,ru⟩:=acg kv qv;have hl:aq.length=vs.length:=Paired.length kv;rw[hl]at st;refine wpAny_pyNext_dict_item st hm hu fun key h' xM ci sb=>?_;have I1:Inv X pins σ H {s with heap:=h'}:=I.turned (t':=s.toks) (fun b ob hb e=>(sb.2 b hb).trans e) f0 f1 f3 f4 f5;obtain⟨oi,e,c,dd⟩:=id ci;refine⟨key,rfl,r_ (s:={s with heap:=h'}) e c dd (by decide) ⟨kV k,H,I1,aci (show oo k key=true from xM),⟨rfl,k,v,qv,rfl⟩,?_,fun b hb=>(hf b hb).1⟩⟩;show h'.IsKeyIter it d (i+1) aq.length _;rw[hl];exact ci
 done:=by
  intro X hP hw hK hc i pins s σ H E I hf st hg;subst hP hw hK;obtain⟨hd,hi⟩:=hg;obtain⟨f0,f1,f2,f3,f4,f5⟩:=hf it (by simp);obtain⟨hs,nB,hx,oy,oA,vs,bF,hsz,kv,hm⟩:=I.FO hd;obtain⟨rfl,rfl⟩:=Bd mF bF;exact Ng (I.ok.hd hc) st nB bF hsz hi fun h' eb=>⟨rfl,I.turned (t':=s.toks) (fun b ob hb e=>eb b ob hb e) f0 f1 f3 f4 f5⟩
 self:=fun A i s Q E st h=>wpAny_pyIter_keyiter st h
theorem ack{aq:List (List Key×V)}(it:ae)(mF:o.data=.dict es ep):Turn P w K tg (Nj d o aq) [it] it (fun i h=>h.IsKeyIter it d i aq.length ep) where
 mem:=by simp
 obj:=fun i h st b hb=>by
  have e:b=it:=by simpa using hb
  subst e;obtain⟨oi,e,c,dd⟩:=st;exact⟨oi,e,fun v z=>by rw[dd]at z;cases z⟩
 keep:=fun i h h' st k=>st.at fun oi e=>k it (by simp) oi e
 item:=by
  intro X hP hw hK hc i pins s σ H E I hf st hg;subst hP hw hK;obtain⟨hd,hi⟩:=hg;obtain⟨f0,f1,f2,f3,f4,f5⟩:=hf it (by simp);obtain⟨hs,nB,hx,oy,oA,bF,hsz,ent⟩:=I.FP hd;obtain⟨rfl,rfl⟩:=Bd mF bF;obtain⟨⟨k,v⟩,qv⟩:∃p,aq[i]?=some p:=⟨aq[i],di hi⟩
  obtain⟨en,q,FI,xM,hq⟩:=ent i k v qv;refine ab1 st nB bF hsz FI fun h' ci sb=>?_;have I1:Inv X pins σ H {s with heap:=h'}:=I.turned (t':=s.toks) (fun b ob hb e=>(sb.2 b hb).trans e) f0 f1 f3 f4 f5;obtain⟨oi,e,c,dd⟩:=id ci;exact⟨en.key,rfl,r_ (s:={s with heap:=h'}) e c dd (by decide) ⟨.ref q,H,I1,xM,⟨rfl,k,v,q,qv,rfl,hq⟩,ci,fun b hb=>(hf b hb).1⟩⟩
 done:=by
  intro X hP hw hK hc i pins s σ H E I hf st hg;subst hP hw hK;obtain⟨hd,hi⟩:=hg;obtain⟨f0,f1,f2,f3,f4,f5⟩:=hf it (by simp);obtain⟨hs,nB,hx,oy,oA,bF,hsz,ent⟩:=I.FP hd;obtain⟨rfl,rfl⟩:=Bd mF bF;exact Ng (I.ok.hd hc) st nB bF hsz hi fun h' eb=>⟨rfl,I.turned (t':=s.toks) (fun b ob hb e=>eb b ob hb e) f0 f1 f3 f4 f5⟩
 self:=fun A i s Q E st h=>by
  refine abY st.typeIs acm (oN acm st.typeIs F.entry_dict_keyiterator_iter ?_ (F.args_dict_keyiterator_iter_1 _));show aD _ _ (ret (.ref it)) _ _ s;exact bc ⟨_,rfl,"dict_keyiterator",_,st.typeIs,yh.lookup,h⟩
end
def acn(td:TE):TI:=fun σ H R=>td σ H fun x H1=>∃d o,x=.ref d∧((∃aq,H1 d=some (.bE o (.dK aq))∧R (Ni d o aq) H1)∨∃aq,H1 d=some (.bE o (.dT aq))∧R (Nj d o aq) H1)
section
variable {X:Cx}{tg e:aY}{td:TE}{apos nu:Pos}
theorem aco(he:PE X e td):PI X tg e (acn td):=by
 intro pins s σ H R I h;refine aT (he pins s σ H _ I h) fun u s1 ⟨x,H1,I1,rx,d,o,ex,q⟩=>?_;subst ex;obtain rfl:u=dF d:=rx;rcases q with⟨aq,hd,q⟩|⟨aq,hd,q⟩
 ·obtain⟨hs,nB,hx,es,ep,vs,bF,hsz,kv,hm⟩:=I1.FO hd;refine Nb hs nB hx bF (vP (tk:=s1.toks) I1 _ (acj _ bF) ⟨_,eP _ rfl,rfl,?_⟩ q);rw[hsz]<;>rfl
 ·obtain⟨hs,nB,hx,es,ep,bF,hsz,ent⟩:=I1.FP hd;refine Nb hs nB hx bF (vP (tk:=s1.toks) I1 _ (ack _ bF) ⟨_,eP _ rfl,rfl,?_⟩ q);rw[hsz]<;>rfl
end
def Nk(K:PySem.W.Frag)(a:ae):It:=
 ⟨fun i H=>∃(xs:List V) (x:V),ai K H a xs∧xs[i]?=some x,fun i H v H'=>∃T x,v=.ref T∧H T=none∧H'=upd H T (.tup [.int (i:Nat),x])∧∀xs,ai K H a xs→xs[i]?=some x,fun i H=>∃xs:List V,ai K H a xs∧xs.length≤i⟩
theorem acp{P:cQ}{w:cD}{K:PySem.W.Frag}{jD:List aY}{kk:Nat}{iK:Pos}(a e it:ae):
  Turn P w K (.Tuple jD kk iK) (Nk K a) [e,it] e (fun i h=>(∃old,IsEnum h e it ((i:Nat):Int) old)∧h.IsListIter it a i∧e≠it) where
 mem:=by simp
 obj:=fun i h st b hb=>by
  obtain⟨⟨old,he⟩,⟨o,ho,hc,hd⟩,_⟩:=st;have e':b=e∨b=it:=by simpa using hb
  rcases e' with z|z
  ·rw[z];exact⟨_,he,fun v q=>nomatch q⟩
  ·rw[z];exact⟨o,ho,fun v q=>by rw[hd]at q;cases q⟩
 keep:=fun i h h' st k=>let ⟨⟨old,he⟩,hi,cU⟩:=st;⟨⟨old,k e (by simp) _ he⟩,hi.at fun o q=>k it (by simp) o q,cU⟩
 item:=by
  intro X hP hw hK hc i pins s σ H E I hf st hg;subst hP hw hK;obtain⟨⟨old,he⟩,hit,cU⟩:=st;obtain⟨xs,x,hq,hx⟩:=hg;obtain⟨au,rv,p,hz⟩:=I.list hq;obtain⟨u,hu,ru⟩:=rv.get hx;have yk:e<s.heap.objs.size:=cN he;have oR:it<s.heap.objs.size:=by obtain⟨_,q,_⟩:=hit;exact cN q
  refine wpAny_pyNext_enum_item he hit p.isList (x:=u) (by simpa using hu) cU fun h' ho qu hT hsz hk=>?_;refine⟨_,rfl,acq (s:={s with heap:=h',toks:=s.toks+1}) ho fun i9 FQ sb=>?_⟩;have sU:i9.get? s.heap.objs.size=some {cls:=.type "tuple",data:=.seq #[.int i s.toks,u]}:=(sb.2 _ (va yk)).trans hT;have new:eN X.prog X.w (upd H s.heap.objs.size (.tup [.int (i:Nat),x])) i9 s.heap.objs.size (.tup [.int (i:Nat),x]):=
   ⟨by show 2≤bf;decide,[.int i s.toks,u],.cons ⟨_,rfl⟩ (.cons ru .nil),⟨_,sU,rfl,_,rfl⟩⟩
  have I1:Inv X pins σ (upd H s.heap.objs.size (.tup [.int (i:Nat),x])) {s with heap:=i9,toks:=s.toks+1}:=
   I.Bb (ch:=[e,it]) (fun b ob hb q=>(sb.2 b (fun z=>hb (by simp[z]))).trans (hk b ob (fun z=>hb (by simp[z])) (fun z=>hb (by simp[z])) q)) hf (a9 _) new
  refine⟨.ref s.heap.objs.size,_,I1,rfl,⟨_,x,rfl,I.aU.fresh (a9 _),rfl,fun ys hy=>by rw[I.u4 hy hq];exact hx⟩,⟨⟨u,?_⟩,qu.at fun o q=>(sb.2 it (Ne.symm cU)).trans q,cU⟩,fun b hb=>?_⟩
  ·have e1:((i+1:Nat):Int)=(i:Int)+1:=by lia
   rw[e1];exact FQ
  ·have mE:b<s.heap.objs.size:=by
    have e':b=e∨b=it:=by simpa using hb
    rcases e' with z|z
    ·rw[z];exact yk
    ·rw[z];exact oR
   rw[ao (fU mE)];exact(hf b hb).1
 done:=by
  intro X hP hw hK hc i pins s σ H E I hf st hg;subst hP hw hK;obtain⟨⟨old,he⟩,hit,cU⟩:=st;obtain⟨xs,hq,hx⟩:=hg;obtain⟨au,rv,p,hz⟩:=I.list hq;obtain⟨f0,f1,f2,f3,f4,f5⟩:=hf it (by simp);have hl:=rv.length;exact wpAny_pyNext_enum_end (I.ok.hd hc) he hit p.isList (by simp;lia) fun h' eb=>⟨rfl,I.turned (t':=s.toks) (fun b o hb q=>eb b o hb q) f0 f1 f3 f4 f5⟩
 self:=fun A i s Q E st h=>let ⟨⟨_,he⟩,_⟩:=st;FR he h
def acr(K:PySem.W.Frag)(ta:TA):TI:=fun σ H R=>ta σ H fun vs H1=>∃a xs,vs=[.ref a]∧ai K H1 a xs∧R (Nk K a) H1
theorem Be{X:Cx}{e:aY}{ta:TA}{p pos iK:Pos}{jD:List aY}{kk:Nat}(hg:Gl X "enumerate")(hm:X.mg "enumerate"=none)(ha:PA X [e] ta)(hs:bo [e] X.env=[(false,eval e X.env)]:=by rfl):
  PI X (.Tuple jD kk iK) (.Call (.Name "enumerate" p) [e] [] pos) (acr X.K ta):=by
 intro pins s σ H R I h;refine sd (m6 I hg hm acs (qf (aT (ha pos pins s σ H _ I h) fun us s1 ⟨vs,H1,I1,r1,q1⟩=>?_) hs rfl));obtain⟨a,xs,ex,hq,q⟩:=q1;subst ex;cases r1 with
 |cons r rr=>
  cases rr;cases r;obtain⟨au,rv,p',hz⟩:=I1.list hq;refine call_enumerate_list p'.isList fun h' he hit hsz hk=>FR he ?_;have I2:Inv X pins σ H1 {s1 with heap:=h'}:=I1.kept (t':=s1.toks) hk;refine⟨s1.heap.objs.size+1,[s1.heap.objs.size+1,s1.heap.objs.size],_,_,H1,rfl,I2,acp a (s1.heap.objs.size+1) s1.heap.objs.size,⟨⟨.none,he⟩,hit,acu _⟩,fun b hb=>?_,q⟩;have e':b=s1.heap.objs.size+1∨b=s1.heap.objs.size:=by simpa using hb
  have hle:s1.heap.objs.size≤b:=by
   rcases e' with z|z
   ·rw[z];exact vQ _ _
   ·rw[z];exact a9 _
  exact I1.qc hle (I1.aU.fresh hle)
theorem Nm:uU "zip"=some (.type "zip"):=by decide+kernel
def Nn(K:PySem.W.Frag)(a b:ae):It:=
 ⟨fun i H=>∃(xs ys:List V) (x y:V),ai K H a xs∧ai K H b ys∧xs[i]?=some x∧ys[i]?=some y,
  fun i H v H'=>∃T x y,v=.ref T∧H T=none∧H'=upd H T (.tup [x,y])∧(∀xs,ai K H a xs→xs[i]?=some x)∧∀ys,ai K H b ys→ys[i]?=some y,
  fun i H=>∃xs ys:List V,ai K H a xs∧ai K H b ys∧(xs.length≤i∨ys.length≤i)⟩
theorem acv{P:cQ}{w:cD}{K:PySem.W.Frag}{jD:List aY}{kk:Nat}{iK:Pos}{a b z TI TO i1 i2:ae}(D:ZipApart z TI TO i1 i2 a b):
  Turn P w K (.Tuple jD kk iK) (Nn K a b) [z,TI,TO,i1,i2] z (fun i h=>jb h z TI TO .none∧fX h TI (.ref i1) (.ref i2)∧(∃x y,fX h TO x y)∧h.IsListIter i1 a i∧h.IsListIter i2 b i) where
 mem:=by simp
 obj:=fun i h st c hc=>by
  obtain⟨hz,mG,⟨x,y,nE⟩,⟨o1,e1,_,d1⟩,⟨o2,e2,_,d2⟩⟩:=st;have e':c=z∨c=TI∨c=TO∨c=i1∨c=i2:=by simpa using hc
  rcases e' with q|q|q|q|q
  ·rw[q];exact⟨_,hz,fun v q=>nomatch q⟩
  ·rw[q];exact⟨_,mG,fun v q=>nomatch q⟩
  ·rw[q];exact⟨_,nE,fun v q=>nomatch q⟩
  ·rw[q];exact⟨o1,e1,fun v q=>by rw[d1]at q;cases q⟩
  ·rw[q];exact⟨o2,e2,fun v q=>by rw[d2]at q;cases q⟩
 keep:=fun i h h' st k=>by
  obtain⟨hz,mG,⟨x,y,nE⟩,h1,h2⟩:=st;exact⟨k z (by simp) _ hz,k TI (by simp) _ mG,⟨x,y,k TO (by simp) _ nE⟩,h1.at fun o q=>k i1 (by simp) o q,h2.at fun o q=>k i2 (by simp) o q⟩
 item:=by
  intro X hP hw hK hc i pins s σ H E I hf st hg;subst hP hw hK;obtain⟨hz,mG,⟨x0,y0,nE⟩,h1,h2⟩:=st;obtain⟨xs,ys,x,y,vR,vS,hx,hy⟩:=hg;obtain⟨au,rv,p,_⟩:=I.list vR;obtain⟨fV,nF,p2,_⟩:=I.list vS;obtain⟨u,hu,ru⟩:=rv.get hx;obtain⟨u2,gR,E8⟩:=nF.get hy;have Np:z<s.heap.objs.size:=cN hz;refine wpAny_pyNext_zip_item D hz mG nE h1 h2 p.isList p2.isList (x:=u) (y:=u2) (by simpa using hu) (by simpa using gR) fun h' z' TO' FT FU hT hsz hk=>?_;refine⟨_,rfl,acx (s:={s with heap:=h'}) z' fun i9 FV sb=>?_⟩;have sU:i9.get? s.heap.objs.size=some {cls:=.type "tuple",data:=.seq #[u,u2]}:=(sb.2 _ (va Np)).trans hT;have new:eN X.prog X.w (upd H s.heap.objs.size (.tup [x,y])) i9 s.heap.objs.size (.tup [x,y]):=
   ⟨by show 2≤bf;decide,[u,u2],.cons ru (.cons E8 .nil),⟨_,sU,rfl,_,rfl⟩⟩
  have I1:Inv X pins σ (upd H s.heap.objs.size (.tup [x,y])) {s with heap:=i9}:=
   I.Bb (t':=s.toks) (ch:=[z,TI,TO,i1,i2]) (fun c o hb q=>(sb.2 c (fun q'=>hb (by simp[q']))).trans (hk c o (fun q'=>hb (by simp[q'])) (fun q'=>hb (by simp[q'])) (fun q'=>hb (by simp[q'])) (fun q'=>hb (by simp[q'])) q)) hf (a9 _) new
  refine⟨.ref s.heap.objs.size,_,I1,rfl,⟨_,x,y,rfl,I.aU.fresh (a9 _),rfl,fun l hl=>by rw[I.u4 hl vR];exact hx,fun l hl=>by rw[I.u4 hl vS];exact hy⟩,⟨FV,?_,⟨u,u2,?_⟩,?_,?_⟩,fun c sV=>?_⟩
  ·exact(sb.2 _ D.TIz).trans (hk _ _ D.TIz D.TITO D.TIi1 D.TIi2 mG)
  ·exact(sb.2 _ D.TOz).trans TO'
  ·exact FT.at fun o q=>(sb.2 _ D.i1z).trans q
  ·exact FU.at fun o q=>(sb.2 _ D.i2z).trans q
  ·have cW:c<s.heap.objs.size:=by
    have e':c=z∨c=TI∨c=TO∨c=i1∨c=i2:=by simpa using sV
    rcases e' with q|q|q|q|q
    ·rw[q];exact Np
    ·rw[q];exact cN mG
    ·rw[q];exact cN nE
    ·rw[q];obtain⟨_,e1,_⟩:=h1;exact cN e1
    ·rw[q];obtain⟨_,e2,_⟩:=h2;exact cN e2
   rw[ao (fU cW)];exact(hf c sV).1
 done:=by
  intro X hP hw hK hc i pins s σ H E I hf st hg;subst hP hw hK;obtain⟨hz,mG,⟨x0,y0,nE⟩,h1,h2⟩:=st;obtain⟨xs,ys,vR,vS,sW⟩:=hg;obtain⟨au,rv,p,_⟩:=I.list vR;obtain⟨fV,nF,p2,_⟩:=I.list vS;have l1:=rv.length;have l2:=nF.length;have he:au.toArray[i]?=none∨fV.toArray[i]?=none:=by
   rcases sW with q|q
   ·exact .inl (by simp;lia)
   ·exact .inr (by simp;lia)
  exact wpAny_pyNext_zip_end (I.ok.hd hc) D hz mG nE h1 h2 p.isList p2.isList he fun h' hk=>⟨rfl,I.M4 (t':=s.toks) (ch:=[z,TI,TO,i1,i2]) (fun c o hb q=>
   hk c o (fun q'=>hb (by simp[q'])) (fun q'=>hb (by simp[q'])) (fun q'=>hb (by simp[q'])) (fun q'=>hb (by simp[q'])) q) hf⟩
 self:=fun A i s Q E st h=>FW st.1 h
def acy(K:PySem.W.Frag)(ta:TA):TI:=fun σ H R=>ta σ H fun vs H1=>∃a b xs ys,vs=[.ref a,.ref b]∧ai K H1 a xs∧ai K H1 b ys∧R (Nn K a b) H1
theorem Nq{X:Cx}{e e2:aY}{ta:TA}{p pos iK:Pos}{jD:List aY}{kk:Nat}(hg:Gl X "zip")(hm:X.mg "zip"=none)(ha:PA X [e,e2] ta)
  (hs:bo [e,e2] X.env=(false,eval e X.env)::bo [e2] X.env:=by rfl) (df:(g9 pos (bo [e2] X.env)).any (·.1)=false:=by rfl):
  PI X (.Tuple jD kk iK) (.Call (.Name "zip" p) [e,e2] [] pos) (acy X.K ta):=by
 intro pins s σ H R I h;refine sd (m6 I hg hm Nm (qf (aT (ha pos pins s σ H _ I h) fun us s1 ⟨vs,H1,I1,r1,q1⟩=>?_) hs df));obtain⟨a,b,xs,ys,ex,vR,vS,q⟩:=q1;subst ex;cases r1 with
 |cons r rr=>
  cases rr with
  |cons r' rr=>
   cases rr;cases r;cases r';obtain⟨au,rv,p1,_⟩:=I1.list vR;obtain⟨fV,nF,p2,_⟩:=I1.list vS;have la:a<s1.heap.objs.size:=p1.lt;have lb:b<s1.heap.objs.size:=p2.lt;refine call_zip_2 p1.isList p2.isList fun h' hz mG nE h1 h2 hsz hk=>FW hz ?_;have I2:Inv X pins σ H1 {s1 with heap:=h'}:=I1.kept (t':=s1.toks) hk;refine⟨s1.heap.objs.size+4,[s1.heap.objs.size+4,s1.heap.objs.size+2,s1.heap.objs.size+3,s1.heap.objs.size,s1.heap.objs.size+1],_,_,H1,rfl,I2,acv (PySem.W.ktu_apart s1.heap.objs.size a b la lb),⟨hz,mG,⟨_,_,nE⟩,h1,h2⟩,fun c sV=>?_,q⟩;have e':c=s1.heap.objs.size+4∨c=s1.heap.objs.size+2∨c=s1.heap.objs.size+3∨c=s1.heap.objs.size∨c=s1.heap.objs.size+1:=by simpa using sV
   have hle:s1.heap.objs.size≤c:=by
    rcases e' with z|z|z|z|z
    ·rw[z];exact vQ _ _
    ·rw[z];exact vQ _ _
    ·rw[z];exact vQ _ _
    ·rw[z];exact a9 _
    ·rw[z];exact vQ _ _
   exact I1.qc hle (I1.aU.fresh hle)
end L2
section
namespace acz
open PySem PyProof.Rows
end acz
end
section
namespace TL
open PySem PySem.Builtin PySem.Builtin.Str PySem.StrLaws
abbrev tl(x:Str):List Nat:=x.cps.toList
theorem sX x:x.length=(tl x).length:=by simp[tl,aac]
theorem sY(h:tl x=tl y):x=y:=Str.ext' (Array.toList_inj.mp h)
theorem FX x y:tl (x++y)=tl x++tl y:=by
 show(x++y).cps.toList=_;rw[Str.cps_append,Array.toList_append]
theorem Nr:∀{l m:List Str},l.map tl=m.map tl→l=m
 |[],[],_=>rfl
 |[],_::_,h=>by simp at h
 |_::_,[],h=>by simp at h
 |x::l,y::m,h=>by
  rw[dw,dw]at h;injection h with h1 h2;rw[sY h1,Nr h2]
theorem acA s:tl (aZ s)=s.toList.map Char.toNat:=apt s
def pre(S l:List Nat):Bool:=l.take S.length==S
def ft(S:List Nat):Nat→List Nat→List Nat→List (List Nat)
 |_,acc,[]=>[acc]
 |0,acc,c::r=>if pre S (c::r)=true then acc::ft S (S.length-1) [] r else ft S 0 (acc++[c]) r
 |k+1,acc,_::r=>ft S k acc r
theorem FY S k acc:ft S k acc []=[acc]:=by cases k <;>rfl
theorem Nt(h:pre S (c::r)=true):ft S 0 acc (c::r)=acc::ft S (S.length-1) [] r:=by
 show(if pre S (c::r)=true then acc::ft S (S.length-1) [] r else ft S 0 (acc++[c]) r)=_;rw[if_pos h]
theorem Nu(h:pre S (c::r)=false):ft S 0 acc (c::r)=ft S 0 (acc++[c]) r:=by
 show(if pre S (c::r)=true then acc::ft S (S.length-1) [] r else ft S 0 (acc++[c]) r)=_;rw[if_neg (by rw[h];exact cb)]
theorem Nv S:∀k acc l,ft S k acc l=ft S 0 acc (l.drop k)
 |0,_,_=>by rw[vT]
 |k+1,acc,[]=>by rw[List.drop_nil,FY,FY]
 |k+1,acc,c::r=>by
  show ft S k acc r=ft S 0 acc (r.drop k);exact Nv S k acc r
theorem acB(hS:S≠[]):pre S []=false:=by
 cases S with
 |nil=>exact absurd rfl hS
 |cons s S=>rfl
theorem acC{L:List Nat}(h:a<L.length):∃c,L.drop a=c::L.drop (a+1):=⟨L[a],FZ h⟩
theorem F0(S L:List Nat):∀m a acc,a+m≤L.length→(∀k,a≤k→k<a+m→pre S (L.drop k)=false)→
  ft S 0 acc (L.drop a)=ft S 0 (acc++(L.drop a).take m) (L.drop (a+m))
 |0,a,acc,_,_=>by rw[List.take_zero,gi,acD]
 |m+1,a,acc,h,hn=>by
  have cW:a<L.length:=by lia
  obtain⟨c,e⟩:=acC cW;have h0:=hn a (a9 _) (by lia);have ih:=F0 S L m (a+1) (acc++[c]) (by lia) (fun k h1 h2=>hn k (by lia) (by lia));have e2:a+1+m=a+(m+1):=by lia
  rw[e2]at ih;rw[e]at h0;rw[e,Nu h0,ih,acE,mx]<;>rfl
theorem acF(L:List Nat)a b:(L.drop a).drop b=L.drop (a+b):=by
 first
  |rw[yl]
  |rw[yl,A0]
theorem acG{S L:List Nat}(hS:S≠[])(h:pre S (L.drop c)=true):ft S 0 acc (L.drop c)=acc::ft S 0 [] (L.drop (c+S.length)):=by
 rw[←acF];cases e:L.drop c with
 |nil=>rw[e,acB hS]at h;cases h
 |cons d r=>
  rw[e]at h;rw[Nt h,Nv];cases S with
  |nil=>exact absurd rfl hS
  |cons s S=>rfl
theorem Nw(hy:tl y≠[])i:At x y x.length i↔pre (tl y) ((tl x).drop i)=true:=by
 have hx:=sX x;have hl:=sX y;constructor
 ·intro h;have h2:=h.2;rw[subAt_eq,hl]at h2;exact h2
 ·intro h;have e:((tl x).drop i).take (tl y).length=tl y:=eq_of_beq h;have e1:=congrArg i5 e;rw[eW,gj]at e1;have e2:0<(tl y).length:=vU.mpr hy;refine⟨by lia,?_⟩;rw[subAt_eq,hl];exact h
theorem Ny(hy:tl y≠[])(h:¬At x y x.length i):pre (tl y) ((tl x).drop i)=false:=by
 cases hp:pre (tl y) ((tl x).drop i)with
 |false=>rfl
 |true=>exact absurd ((Nw hy i).mpr hp) h
theorem F1(hy:tl y≠[]):1≤y.length:=by
 have e2:0<(tl y).length:=vU.mpr hy;rw[sX y];exact e2
theorem Nz x i j:tl (strSub x i j)=((tl x).drop i).take (j-i):=strSub_toList x i j
theorem acH x i:tl (strSub x i x.length)=(tl x).drop i:=by
 rw[Nz,sX x];exact A2 (by rw[gj]<;>lia)
theorem NB(hy:tl y≠[]):∀NC a f,a≤(tl x).length→ChainG x y x.length a NC f→(∀k,f≤k→¬At x y x.length k)→
  (partsFrom x y.length a NC).map tl=ft (tl y) 0 [] ((tl x).drop a)
 |[],a,f,ha,h,hn=>by
  have e:f=a:=h;subst e;show[tl (strSub x f x.length)]=_;have run:=F0 (tl y) (tl x) ((tl x).length-f) f [] (by lia) (fun k h1 _=>Ny hy (hn k h1));have e2:f+((tl x).length-f)=(tl x).length:=by lia
  rw[e2,qw,FY,xX,A2 (by rw[gj]<;>lia)]at run;rw[run,acH]
 |c::r,a,f,ha,h,hn=>by
  obtain⟨h1,h2,h3,h4⟩:=h;have hc:c+y.length≤x.length:=h2.1;have hx:=sX x;have hl:=sX y;have ih:=NB hy r (c+y.length) f (by lia) h4 hn;show tl (strSub x a c)::(partsFrom x y.length (c+y.length) r).map tl=_;have run:=F0 (tl y) (tl x) (c-a) a [] (by lia) (fun k k1 k2=>Ny hy (h3 k k1 (by lia)));have e2:a+(c-a)=c:=by lia
  rw[e2,xX,acG hy ((Nw hy c).mp h2)]at run;rw[run,ih,Nz,hl]
theorem acI x y(hy:tl y≠[])(hk:¬qA x<qA y):(Txt.split x y).map tl=ft (tl y) 0 [] (tl x):=by
 obtain⟨f,g,hn⟩:=occ_tight x y (F1 hy);have key:=NB hy _ 0 f (bu _) g hn;rw[vT]at key;have ND:occurrences x y 0 x.length (x.length+1)=[]→[x].map tl=ft (tl y) 0 [] (tl x):=fun ho=>by
  rw[ho]at key;rw[←key];show[tl x]=[tl (strSub x 0 x.length)];rw[sub_whole]
 unfold Txt.split;by_cases h1:(decide (x.length<y.length)||decide (qA x<qA y))=true
 ·rw[if_pos h1];have cW:x.length<y.length:=by
   simp only[mC,decide_eq_true_eq]at h1;rcases h1 with h|h
   ·exact h
   ·exact absurd h hk
  refine ND ?_;cases ho:occurrences x y 0 x.length (x.length+1)with
  |nil=>rfl
  |cons c r=>
   rw[ho]at g;have hc:c+y.length≤x.length:=g.2.1.1
   lia
 ·rw[if_neg h1];by_cases h2:(occurrences x y 0 x.length (x.length+1)).isEmpty=true
  ·rw[if_pos h2];exact ND (F2.mp h2)
  ·rw[if_neg h2,partsBetween_eq];exact key
theorem acJ(h:y.cps.all (· <256)=true):¬qA x<qA y:=by
 have e:qA y=1:=by unfold PySem.Builtin.Str.strKind;rw[if_pos h]
 rw[e];unfold PySem.Builtin.Str.strKind;split
 ·lia
 ·split <;>lia
def sZ(S:List Nat):List (List Nat)→List Nat
 |[]=>[]
 |[p]=>p
 |p::q::r=>p++(S++sZ S (q::r))
theorem Bf y:∀parts:List Str,tl (NE y parts)=sZ (tl y) (parts.map tl)
 |[]=>rfl
 |[_]=>rfl
 |x::z::r=>by
  show tl (x++y++NE y (z::r))=tl x++(tl y++sZ (tl y) ((z::r).map tl));rw[FX,FX,Bf y (z::r),mx]
theorem join_eq y parts:Txt.join y parts=NE y parts:=glued_eq_join y parts
end TL
end
namespace L2
open PySem PySem.Spec PyProof.Rows
theorem NF:∀l:List (Str×Tok),a7 ((l.map (·.1)).map V.str) (NG l)
 |[]=>.nil
 |p::r=>.cons ⟨p.2,rfl⟩ (NF r)
theorem F3:∀{ys}{us},a7 (ys.map V.str) us→StrsAre us ys
 |[],_,.nil=>.nil
 |y::ys,_,.cons r t=>by
  obtain⟨k,rfl⟩:=r;exact .cons y k (F3 t)
def F4(ys:List Str):Hp→VK→Prop:=fun H Q=>∀p,H p=none→Q (.ref p) (upd H p (.lst (ys.map V.str)))
section
variable {X:Cx}{pins:List (ae×Obj)}{σ:St}{H:Hp}{s:aS}{Q:VK}
theorem F5(I:Inv X pins σ H s)(e:l.map (·.1)=ys)(hz:ys.length≤bf)(h:F4 ys H Q):
  EP X pins σ Q (.ref s.heap.objs.size) {s with toks:=k,heap:=s.heap.push {cls:=.type "list",data:=.seq (NG l).toArray}}:=by
 have hp:=I.aU.fresh (a9 _);refine⟨.ref s.heap.objs.size,upd H s.heap.objs.size (.lst (ys.map V.str)),I.laid (fun b u q=>dW _ q) (a9 _) ⟨by rw[aB];exact hz,NG l,_,?_,eP _ rfl⟩,rfl,h _ hp⟩;rw[←e];exact NF l
end
section
variable {X:Cx}
theorem acK:nr X "str.split" (fun x xs H Q=>∃a b,x=.str a∧xs=[.str b]∧(b.length==0)=false∧a.length+2≤bf∧F4 (Txt.split a b) H Q):=by
 intro pins s σ H x xs v us Q I rx rs h;obtain⟨a,b,rfl,rfl,hb,hz,h⟩:=h;obtain⟨t,rfl⟩:=rx;cases rs with
 |cons r1 rs=>
  cases rs;obtain⟨u,rfl⟩:=r1;have hl:(Txt.split a b).length≤bf:=dU (acL a b) hz;have hn:(acM a (NH a b 0 a.length (a.length+1)) b.length).length≤bf:=by
   have e1:=StrLaws.occ_length_le a b 0 a.length (a.length+1);rw[length_partsBetween];lia
  cases h1:(decide (a.length<b.length)||decide (qA a<qA b))
  ·cases hf:(NH a b 0 a.length (a.length+1)).isEmpty
   ·refine ql F6 (vz _ _ _) NI (NJ _ _) (meets_str_split_sep a b t u h1 hb hf (by lia) hn) ?_;show EP X pins σ Q (.ref s.heap.objs.size) {s with toks:=_,heap:=s.heap.push {cls:=.type "list",data:=.seq (strsFrom s.toks (acM a (NH a b 0 a.length (a.length+1)) b.length)).toArray}};rw[strsFrom_eq];exact F5 (ys:=Txt.split a b) I ((numbered_texts _ _).trans ((if_neg (ne_true_of_eq_false h1)).trans (if_neg (ne_true_of_eq_false hf))).symm) hl h
   ·refine ql F6 (vz _ _ _) NI (NJ _ _) (meets_str_split_not_found a b t u h1 hb hf) ?_;exact F5 (l:=[(a,t)]) (ys:=Txt.split a b) (k:=s.toks) I ((if_neg (ne_true_of_eq_false h1)).trans (if_pos hf)).symm hl h
  ·refine ql F6 (vz _ _ _) NI (NJ _ _) (meets_str_split_cannot_occur a b t u h1) ?_;exact F5 (l:=[(a,t)]) (ys:=Txt.split a b) (k:=s.toks) I (if_pos h1).symm hl h
theorem acN:nr X "str.join" (fun x xs H Q=>∃a p,∃ys:List Str,x=.str a∧xs=[.ref p]∧(ai X.K H p (ys.map V.str)∨bV X.K H p (ys.map V.str))∧
  (ys.map (·.length)).sum+ys.length*a.length≤16777216∧Q (.str (Txt.join a ys)) H):=by
 intro pins s σ H x xs v us Q I rx rs h;obtain⟨a,p,ys,rfl,rfl,hp,hz,h⟩:=h;obtain⟨t,rfl⟩:=rx;cases rs with
 |cons r1 rs=>
  cases rs;cases r1;rcases hp with hp|hp
  ·obtain⟨au,r,⟨o,n,ho,hc,_,hd⟩,_⟩:=I.list hp;exact apu (items:=au.toArray) ⟨o,ho,hc,n,hd⟩ (by rw[acO];exact F3 r) hz fun t' k=>⟨.str _,H,I.tok k,⟨t',rfl⟩,h⟩
  ·obtain⟨au,r,ht,_⟩:=I.tuple hp;exact apv (items:=au.toArray) ht (by rw[acO];exact F3 r) hz fun t' k=>⟨.str _,H,I.tok k,⟨t',rfl⟩,h⟩
theorem F7{id:String}{C:Str→Prop}{g:Str→V}(rule:∀a t s Q,C a→(∀u k,RelV (g a) u→Q u {s with toks:=k})→
  aD (aP X.prog X.w) X.A (call (.builtin id) [.str a t]) Q X.xe s):nr X id (fun x xs H Q=>∃a,x=.str a∧xs=[]∧C a∧Q (g a) H):=by
 intro pins s σ H x xs v us Q I rx rs h;obtain⟨a,rfl,rfl,hc,h⟩:=h;obtain⟨t,rfl⟩:=rx;cases rs;exact rule a t s _ hc fun u k r=>⟨g a,H,I.tok k,r,h⟩
theorem acP:nr X "str.isdigit" (fun x xs H Q=>∃a,x=.str a∧xs=[]∧True∧Q (.bl (Txt.isdigit a)) H):=
 F7 (C:=fun _=>True) (g:=fun a=>.bl (Txt.isdigit a)) fun _ _ s _ _ h=>PySem.SC.isdigit (h _ s.toks rfl)
theorem acQ:nr X "str.isalpha" (fun x xs H Q=>∃a,x=.str a∧xs=[]∧True∧Q (.bl (Txt.isalpha a)) H):=
 F7 (C:=fun _=>True) (g:=fun a=>.bl (Txt.isalpha a)) fun _ _ s _ _ h=>PySem.SC.isalpha (h _ s.toks rfl)
theorem acR:nr X "str.isalnum" (fun x xs H Q=>∃a,x=.str a∧xs=[]∧True∧Q (.bl (Txt.isalnum a)) H):=
 F7 (C:=fun _=>True) (g:=fun a=>.bl (Txt.isalnum a)) fun _ _ s _ _ h=>PySem.SC.isalnum (h _ s.toks rfl)
theorem acS:jY X (.type "int") (fun xs H Q=>∃a n,xs=[.str a]∧PySem.intText? a=some n∧a.length≤640∧Q (.int n) H):=by
 intro pins s σ H xs us Q I rs h;obtain⟨a,n,rfl,hn,hl,h⟩:=h;cases rs with
 |cons r1 rs=>
  cases rs;obtain⟨t,rfl⟩:=r1;exact PySem.W.KIN.call_text hn hl ⟨.int n,H,I.tok _,⟨_,rfl⟩,h⟩
end
section
variable {X:Cx}{o e:aY}{to te:TE}
def tM0(r:V→List V→Hp→VK→Prop)(to:TE):TE:=fun σ H Q=>to σ H fun x H1=>(∃a,x=.str a)∧r x [] H1 Q
def Bg(r:V→List V→Hp→VK→Prop)(to te:TE):TE:=fun σ H Q=>to σ H fun x H1=>(∃a,x=.str a)∧te σ H1 fun y H2=>r x [y] H2 Q
theorem F8{id:String}{name:Str}{apos pos:Pos}{r:V→List V→Hp→VK→Prop}(slot:Slot "str" name id)(ty:typeOf (.builtin id)=pure (.type "method_descriptor"))(rule:nr X id r)(ho:PE X o to)
  (mw:oG o name X.env (eval o X.env)=eval o X.env:=by rfl) (j5:(apos.endLine==pos.line)=true:=by rfl):PE X (.Call (.Attribute o name apos) [] [] pos) (tM0 r to):=by
 intro pins s σ H Q I h;refine PySem.Call_method0 mw j5 (aT (ho pins s σ H _ I h) fun v s1 ⟨x,H1,I1,r1,q1⟩=>?_);obtain⟨⟨a,rfl⟩,q1⟩:=q1;obtain⟨t,rfl⟩:=_root_.id r1;exact⟨"str",_,acU,slot,ty,vz _ _ _,(fun _ e=>nomatch e),Mu rfl (PySem.evalArgs_none (rule pins s1 σ H1 _ [] _ [] Q I1 r1 .nil q1))⟩
theorem NK{id:String}{name:Str}{apos pos:Pos}{r:V→List V→Hp→VK→Prop}(slot:Slot "str" name id)(ty:typeOf (.builtin id)=pure (.type "method_descriptor"))(rule:nr X id r)(ho:PE X o to)(he:PE X e te)
  (hs:bo [e] X.env=[(false,eval e X.env)]:=by rfl) (mw:oG o name X.env (eval o X.env)=eval o X.env:=by rfl) (j5:(apos.endLine==pos.line)=true:=by rfl):
  PE X (.Call (.Attribute o name apos) [e] [] pos) (Bg r to te):=by
 intro pins s σ H Q I h;refine PySem.Call_method1 mw hs j5 (aT (ho pins s σ H _ I h) fun v s1 ⟨x,H1,I1,r1,q1⟩=>?_);obtain⟨⟨a,rfl⟩,q1⟩:=q1;obtain⟨t,rfl⟩:=_root_.id r1;refine⟨"str",_,acU,slot,ty,vz _ _ _,(fun _ e=>nomatch e),Mu rfl (aas (ZD ?_))⟩;exact aT (he pins s1 σ H1 _ I1 q1) fun u s2 ⟨y,H2,I2,r2,q2⟩=>ZC (rule pins s2 σ H2 _ [y] _ [u] Q I2 r1 (.cons r2 .nil) q2)
theorem acV{apos pos:Pos}(ho:PE X o to)(he:PE X e te)(hs:bo [e] X.env=[(false,eval e X.env)]:=by rfl)(mw:oG o "split" X.env (eval o X.env)=eval o X.env:=by rfl)(j5:(apos.endLine==pos.line)=true:=by rfl):
  PE X (.Call (.Attribute o "split" apos) [e] [] pos) (Bg (fun x xs H Q=>∃a b,x=.str a∧xs=[.str b]∧(b.length==0)=false∧a.length+2≤bf∧F4 (Txt.split a b) H Q) to te):=
 NK F6 F.type_str_split acK ho he hs mw j5
theorem F9{apos pos:Pos}(ho:PE X o to)(he:PE X e te)(hs:bo [e] X.env=[(false,eval e X.env)]:=by rfl)(mw:oG o "join" X.env (eval o X.env)=eval o X.env:=by rfl)(j5:(apos.endLine==pos.line)=true:=by rfl):
  PE X (.Call (.Attribute o "join" apos) [e] [] pos) (Bg (fun x xs H Q=>∃a p,∃ys:List Str,x=.str a∧xs=[.ref p]∧(ai X.K H p (ys.map V.str)∨bV X.K H p (ys.map V.str))∧
   (ys.map (·.length)).sum+ys.length*a.length≤16777216∧Q (.str (Txt.join a ys)) H) to te):=
 NK F.slot_str_join F.type_str_join acN ho he hs mw j5
end
section
variable {X:Cx}
end
end L2
namespace Att
open PySem PySem.W PySem.Calls PyProof.Rows
section
variable {prog:cQ}{w:cD}{A:eB}{E:aA→aS→Prop}{s:aS}{K:Frag}
end
end Att
namespace L2
open PySem PySem.Spec PyProof.Rows
abbrev Bh{K:PySem.W.Frag}(_:K.In h):PySem.W.Frag:=K
def inClass(s:aK)(j:Nat):aK:=match s with
 | .ClassDef _ _ _ body _ _ _ _ _ _ _=>body.getD j (.Pass ⟨0,0,0,0⟩)
 |_=>.Pass ⟨0,0,0,0⟩
def s_(s:aK):Arguments:=match s with
 | .FunctionDef _ a _ _ _ _ _ _ _ _=>a
 |_=>{posonlyargs:=[],args:=[],vararg:=none,kwonlyargs:=[],kw_defaults:=[],kwarg:=none,defaults:=[]}
def oS(s:aK):List aK:=match s with
 | .FunctionDef _ _ b _ _ _ _ _ _ _=>b
 |_=>[]
def aG(s:aK):iI:=match s with
 | .FunctionDef _ _ _ _ _ _ sc _ _ _=>sc
 |_=>{kind:=.function,names:=[],isGenerator:=false,isCoroutine:=false}
abbrev jE:ni:=fun _ _ _ _ _ _=>False
abbrev E0:XK:=fun _ _ _=>False
theorem jG:qi jE X E0:=fun _ _ _ _ _ _ _ h=>h.elim
structure Fun(K:PySem.W.Frag)(x qual:Str)(st:aK)(f:ae)(fd:aM):Prop where
 ex:∃(oc:aA) (od:Option ae) (kV doc pm:aA) (an:Option ae) (dy ct:aA) (oI:Array (Option aA)),
  fd=PySem.W.fnOf x qual (s_ st) (oS st) (aG st) .none kV doc pm an dy ct∧K.lookup f=some ⟨oc,od,.func fd,oI⟩∧PySem.W.codeIn K dy qual=true
 kp:PySem.W.keepIn K (.ref f)=true
section
variable {P:cQ}{w:cD}{K:PySem.W.Frag}{mg:Str→Option aA}{base:bU}
theorem Fun.ok{st:aK}(F:Fun K x qual st f fd)(S:aN N ps (aG st))(len:∀vs H Q E,sp vs H Q E→vs.length=ps.length)
  (xQ:∀dy A outer s H vs Q E,eC k (A.deeper (oH qual (aG st) s.heap.objs.size f dy))→sp vs H Q E→
   ∃t,jy (aO jE P w K mg base N qual (aG st) f dy A outer s H E).aQ (oS st) t∧t {nx:=fun _ H'=>Q .aC H',rt:=Q} (start N vs) H):fC P w K mg base jE (k+1) f fd ps sp:=by
 obtain⟨oc,od,kV,doc,pm,an,dy,ct,oI,rfl,lk,gw⟩:=F.ex;refine ZO lk gw S len fun A outer s H vs Q E hr nj=>?_;obtain⟨t,h,q⟩:=xQ dy A outer s H vs Q E hr nj;exact⟨t,h.aQ,q⟩
theorem Fun.binds{st:aK}(F:Fun K x qual st f fd)
  (h:∀kV doc pm an dy ct us,us.length=ps.length→LW (PySem.W.fnOf x qual (s_ st) (oS st) (aG st) .none kV doc pm an dy ct) ⟨us,[]⟩=pure (ps.zip us)):Binds K fd ps []:=by
 obtain⟨oc,od,kV,doc,pm,an,dy,ct,oI,rfl,lk,gw⟩:=F.ex;exact .all (h kV doc pm an dy ct)
theorem NM{st:aK}{kV doc pm dy ct:aA}(l:K.lookup f=some ⟨oc,od,.func (PySem.W.fnOf x qual (s_ st) (oS st) (aG st) .none kV doc pm an dy ct),oI⟩)
  (c:PySem.W.codeIn K dy qual=true) (k:PySem.W.keepIn K (.ref f)=true):Fun K x qual st f (PySem.W.fnOf x qual (s_ st) (oS st) (aG st) .none kV doc pm an dy ct):=⟨⟨oc,od,kV,doc,pm,an,dy,ct,oI,rfl,l,c⟩,k⟩
end
theorem d6(hr:eC k A):A.units+1<lH:=qB (Nat.add_le_add_left (by decide:1≤64) _) hr.units
section
variable {X:Cx}
theorem pv(i:Nat){x:Str}{pos:Pos}(hN:X.N[i]?=some x:=by rfl)(hv:p5 X.env.scope x:=by first|exact j7 rfl|exact iO (j7 rfl)|exact iO (iO rfl))(hd:(x==("__debug__":Str))=false:=by decide)
  (gw:(x==("__classdict__":Str))=false:=by decide):PE X (.Name x pos) (AA i):=Li hN hv hd gw
end
theorem cV{A B:Prop}(h:B):if false=true then A else B:=by
 rw[if_neg cb];exact h
theorem cP{A B:Prop}(h:A):if true=true then A else B:=by
 rw[if_pos rfl];exact h
def aa(H H':Hp):Prop:=∀b o,H b=some o→H' b=some o
theorem aa.refl H:aa H H:=fun _ _ h=>h
theorem aa.trans(a:aa H H1)(b:aa H1 H2):aa H H2:=fun c o h=>b c o (a c o h)
theorem aa.free(e:aa H H')(h:H' l=Option.none):H l=Option.none:=by
 cases q:H l with
 |none=>rfl
 |some o=>
  rw[e l o q]at h;cases h
theorem aa.seq{K:PySem.W.Frag}(e:aa H H')(h:ai K H a xs):ai K H' a xs:=by
 rcases h with(h|⟨o,h⟩)|h
 ·exact .inl (.inl (e _ _ h))
 ·exact .inl (.inr ⟨o,e _ _ h⟩)
 ·exact .inr h
section
variable {κ:Type}[DecidableEq κ]
theorem NN{k:κ}(h:bw aq k=none):¬k∈aq.map (·.1):=by
 intro m;obtain⟨p,hp,e⟩:=mB.mp m;have q:(aq.any fun kv=>decide (kv.1=k))=true:=acX.mpr ⟨p,hp,decide_eq_true e⟩;rw[vL,h]at q;exact absurd q (by simp)
theorem NO:∀{l}{k:κ},l.Nodup→¬k∈l→(l++[k]).Nodup
 |[],k,_,_=>by simp
 |a::r,k,h,hk=>by
  obtain⟨h1,h2⟩:=vm.mp h;show(a::(r++[k])).Nodup;refine vm.mpr ⟨fun m=>?_,NO h2 fun m=>hk (b_.mpr (iO m))⟩;rcases e_.mp m with q|q
  ·exact h1 q
  ·exact hk (b_.mpr (j7 (cA.mp q).symm))
theorem NP{aq:List (κ×V)}v(hn:(aq.map (·.1)).Nodup)(h:bw aq k=none):((putK aq k v).map (·.1)).Nodup:=by
 rw[abm v h,b9];exact NO hn (NN h)
end
end L2
namespace PySem
open Sem (wp)
open AutoSeq1 (wpAny_loadPart')
section
variable {prog:cQ}{w:cD}{A:eB}{E:aA→aS→Prop}{s:aS}
theorem acY(hit:s.heap.IsTupleIter it t i)(ht:s.heap.IsTuple t items)(hx:items[i]?=some x)
  (hQ:∀h',h'.IsTupleIter it t (i+1)→xx it s.heap h'→Q x {s with heap:=h'}):aD (aP prog w) A (tf (.ref it)) Q E s:=by
 obtain⟨r,hr,c1,d1⟩:=id hit;obtain⟨r2,F_,_,_,d2⟩:=ht;unfold tf;refine ay (sF (name:=aZ "__next__") hit.typeIs Ga
  (oN Ga hit.typeIs acZ ?_ (ac0 _)))
 show aD _ _ (tj (.ref it) 0>>=_) _ _ s;refine ay (j3 hr d1 (x:=.ref t) rfl ?_);show aD _ _ (if(dF t==Value.none)=true then _ else _) _ _ s;rw[if_neg (show ¬((dF t==Value.none)=true)from cb)];show aD _ _ (tj (.ref it) 1>>=_) _ _ s;refine ay (j3 hr d1 (x:=.int i 0) rfl ?_);show aD _ _ (seqItems? (.ref t)>>=_) _ _ s;refine ay (tp F_ d2 ?_);simp only[ml,hx];refine ay (FJ hr d1 (by simp) (bc ⟨x,rfl,bc (hQ _ ?_ (FL ..))⟩));exact⟨_,Mq _ hr (ab9 (FK d1 _)),(ab_ ..).trans c1,by
  rw[FK d1];simp[kK]⟩
theorem ac1(hh:A.handled=none)(hit:s.heap.IsTupleIter it t i)(ht:s.heap.IsTuple t items)(hx:items[i]?=none)
  (hE:∀h' e,aca it s.heap h'→(∃o,h'.get? e=some o∧o.cls=.type "StopIteration")→E (.ref e) {s with heap:=h'}):
  aD (aP prog w) A (tf (.ref it)) Q E s:=by
 obtain⟨r,hr,c1,d1⟩:=id hit;obtain⟨r2,F_,_,_,d2⟩:=ht;unfold tf;refine ay (sF (name:=aZ "__next__") hit.typeIs Ga
  (oN Ga hit.typeIs acZ ?_ (ac0 _)))
 show aD _ _ (tj (.ref it) 0>>=_) _ _ s;refine ay (j3 hr d1 (x:=.ref t) rfl ?_);show aD _ _ (if(dF t==Value.none)=true then _ else _) _ _ s;rw[if_neg (show ¬((dF t==Value.none)=true)from cb)];show aD _ _ (tj (.ref it) 1>>=_) _ _ s;refine ay (j3 hr d1 (x:=.int i 0) rfl ?_);show aD _ _ (seqItems? (.ref t)>>=_) _ _ s;refine ay (tp F_ d2 ?_);simp only[ml,hx];refine ay (Gb (ay (FJ hr d1 (by simp) ?_)));show aD _ _ (newExc (.type "StopIteration") []>>=_) _ _ _;refine ay ?_;simp only[newExc,newTuple];refine ay (oO ?_ (by size_fits));refine ay (m:=FN _ _) (wpAny_of_eq (a:=Value.none) (by first|rfl|(simp only[FN];rfl)) ?_);refine oO ?_ (by size_fits);simp only[raiseNew];refine ay (acd ?_)
 first|rw[show A.in1.handled=none from hh]|rw[hh]
 refine ay (bc (wpAny_throw ?_));exact hE _ _ (((FL ..).extBut.push _).push _) ⟨_,eP _ rfl,rfl⟩
end
theorem Bi{prog:cQ}{w:cD}{A:eB}(hh:A.handled=none)(it t:ae)(cU:t≠it)(items:Array aA):
  qC prog w A it [it,t] items.size (fun i v=>items[i]?=some v) (fun i h=>h.IsTupleIter it t i∧h.IsTuple t items) where
 live:=fun _ _ st=>let ⟨o,ho,_⟩:=st.1;⟨o,ho⟩
 frame:=fun _ _ _ st hk=>⟨st.1.at fun o e=>hk it (by simp) o e,let ⟨o,ho,q⟩:=st.2;⟨o,hk t (by simp) o ho,q⟩⟩
 item:=fun i s Q E hi st hQ=>by
  refine acY st.1 st.2 (x:=items[i]) (by simp[hi]) fun h' qu NQ=>?_;exact hQ _ h' s.toks (by simp[hi]) ⟨qu,st.2.extBut NQ.extBut cU⟩ NQ
 done:=fun s Q E st hE=>ac1 hh st.1 st.2 (by simp) hE
set_option tactic.hygienic true in
theorem ac2 l items n ym sl:
  Meets (yg.«enumerate.__new__» ⟨[.type "enumerate",.ref l],[]⟩) (fun _ R s=>s.heap.get? l=some {cls:=.type "tuple",dict:=ym,data:=.seq items n,slots:=sl}∧
   R (.ok (.ret (.ref (s.heap.push {cls:=.type "tuple_iterator",data:=.fields #[.ref l,.int 0 0]}).objs.size)))
    {s with heap:=(s.heap.push {cls:=.type "tuple_iterator",data:=.fields #[.ref l,.int 0 0]}).push {cls:=.type "enumerate",data:=.fields #[.none,.bool false,.ref s.heap.objs.size,kK 0,.none,.none]}}):=
 .of_wp fun prog w A R s h=>by
  obtain⟨hp,g,d,tk,os⟩:=s;obtain⟨hl,h⟩:=h;have apw:=sub_enumerate;have hL:ac3 (NR ⟨hp,g,d,tk,os⟩) l items:=⟨_,hl,rfl,n,rfl⟩
  wp_walk using wpAny_loadPart' hl
  refine wpAny_stack_any fun st=>bc ?_;split
  ·rename_i c _ _ _ _ _;cases (c==rS "enumerate")
   ·wp_walk using wpAny_loadPart' hl,Gc hL
    exact⟨_,rfl,h⟩
   ·wp_walk using wpAny_loadPart' hl,Gc hL
    exact⟨_,rfl,h⟩
  ·wp_walk using wpAny_loadPart' hl,Gc hL
   exact⟨_,rfl,h⟩
theorem ac4{s:aS}(hL:s.heap.IsTuple l items)
  (h:∀h',IsEnum h' (s.heap.objs.size+1) s.heap.objs.size 0 .none→h'.IsTupleIter s.heap.objs.size l 0→h'.objs.size=s.heap.objs.size+2→
   (∀b o,s.heap.get? b=some o→h'.get? b=some o)→Q (.ref (s.heap.objs.size+1)) {s with heap:=h'}):
  aD (aP prog w) A (call (.type "enumerate") [.ref l]) Q E s:=by
 obtain⟨⟨c,ym,dt,sl⟩,hl,hc,n,hd⟩:=hL
 replace hc:c=.type "tuple":=hc
 replace hd:dt=.seq items n:=hd
 subst hc hd;refine callType_new F.called_enumerate (by decide) (F.typeCall_enumerate_1 _) (F.newCall_enumerate_1 _) (fun obj=>F.args_object_init_2 obj _) F.entry_enumerate_new
  (ac2 l items n ym sl) ⟨hl,?_⟩
 have hz:(s.heap.push {cls:=.type "tuple_iterator",data:=.fields #[.ref l,.int 0 0]}).objs.size=s.heap.objs.size+1:=g_ ..;show _∧_;rw[hz];have he:IsEnum ((s.heap.push {cls:=.type "tuple_iterator",data:=.fields #[.ref l,.int 0 0]}).push
   {cls:=.type "enumerate",data:=.fields #[.none,.bool false,.ref s.heap.objs.size,kK 0,.none,.none]}) (s.heap.objs.size+1) s.heap.objs.size 0 .none:=by
  have:=eP (s.heap.push {cls:=.type "tuple_iterator",data:=.fields #[.ref l,.int 0 0]})
   (o:={cls:=.type "enumerate",data:=.fields #[.none,.bool false,.ref s.heap.objs.size,kK 0,.none,.none]}) rfl
  rw[hz]at this;exact this
 refine⟨⟨_,he,rfl⟩,h _ he ⟨_,dW _ (eP _ rfl),rfl,rfl⟩ (by rw[g_,hz]) fun b o x=>dW _ (dW _ x)⟩
end PySem
namespace L2
open PySem PySem.Spec PyProof.Rows
def NS(K:PySem.W.Frag)(a:ae):It:=
 ⟨fun i H=>∃(xs:List V) (x:V),bV K H a xs∧xs[i]?=some x,fun i H v H'=>∃T x,v=.ref T∧H T=none∧H'=upd H T (.tup [.int (i:Nat),x])∧∀xs,bV K H a xs→xs[i]?=some x,fun i H=>∃xs:List V,bV K H a xs∧xs.length=i⟩
theorem ac5{P:cQ}{w:cD}{K:PySem.W.Frag}{jD:List aY}{kk:Nat}{iK:Pos}(a e it:ae)(NT:a≠it):
  Turn P w K (.Tuple jD kk iK) (NS K a) [e,it] e (fun i h=>(∃old,IsEnum h e it ((i:Nat):Int) old)∧h.IsTupleIter it a i∧e≠it) where
 mem:=by simp
 obj:=fun i h st b hb=>by
  obtain⟨⟨old,he⟩,⟨o,ho,hc,hd⟩,_⟩:=st;have e':b=e∨b=it:=by simpa using hb
  rcases e' with z|z
  ·rw[z];exact⟨_,he,fun v q=>nomatch q⟩
  ·rw[z];exact⟨o,ho,fun v q=>by rw[hd]at q;cases q⟩
 keep:=fun i h h' st k=>let ⟨⟨old,he⟩,hi,cU⟩:=st;⟨⟨old,k e (by simp) _ he⟩,hi.at fun o q=>k it (by simp) o q,cU⟩
 item:=by
  intro X hP hw hK hc i pins s σ H E I hf st hg;subst hP hw hK;obtain⟨⟨old,he⟩,hit,cU⟩:=st;obtain⟨xs,x,hq,hx⟩:=hg;obtain⟨au,rv,p,hz⟩:=I.tuple hq;have p':s.heap.IsTuple a au.toArray:=p;have yk:e<s.heap.objs.size:=cN he;have oR:it<s.heap.objs.size:=by obtain⟨_,q,_⟩:=hit;exact cN q
  have hea:e≠a:=fun z=>by
   obtain⟨o,ho,cz,_⟩:=p';rw[←z,he]at ho;cases ho;injection cz with cz;exact absurd cz (by decide)
  have cW:i<au.toArray.size:=by
   rw[c7,←rv.length];exact(du.mp hx).1
  have D:=Bi (prog:=X.prog) (w:=X.w) (A:=X.A.in1) (I.ok.hd hc) it a NT au.toArray;refine wpAny_pyNext_enum_itemD D he ⟨hit,p'⟩ cW cU (by simp[cU,hea]) fun u h' tk hu ho qu hT hsz hk=>?_;obtain⟨x',NU,ru⟩:∃x',xs[i]?=some x'∧RelV x' u:=by
   obtain⟨u',A4,ru'⟩:=rv.get hx;have:au[i]?=some u:=by simpa using hu
   rw[this]at A4;cases A4;exact⟨x,hx,ru'⟩
  rw[hx]at NU;cases NU;refine⟨_,rfl,acq (s:={s with heap:=h',toks:=tk+1}) ho fun i9 FQ sb=>?_⟩;have sU:i9.get? s.heap.objs.size=some {cls:=.type "tuple",data:=.seq #[.int i tk,u]}:=(sb.2 _ (va yk)).trans hT;have new:eN X.prog X.w (upd H s.heap.objs.size (.tup [.int (i:Nat),x])) i9 s.heap.objs.size (.tup [.int (i:Nat),x]):=
   ⟨by show 2≤bf;decide,[.int i tk,u],.cons ⟨_,rfl⟩ (.cons ru .nil),⟨_,sU,rfl,_,rfl⟩⟩
  have I1:Inv X pins σ (upd H s.heap.objs.size (.tup [.int (i:Nat),x])) {s with heap:=i9,toks:=tk+1}:=
   I.Bb (ch:=[e,it]) (fun b ob hb q=>(sb.2 b (fun z=>hb (by simp[z]))).trans (hk b ob (fun z=>hb (by simp[z])) (fun z=>hb (by simp[z])) q)) hf (a9 _) new
  refine⟨.ref s.heap.objs.size,_,I1,rfl,⟨_,x,rfl,I.aU.fresh (a9 _),rfl,fun ys hy=>by rw[I.Ln hy hq];exact hx⟩,⟨⟨u,?_⟩,qu.1.at fun o q=>(sb.2 it (Ne.symm cU)).trans q,cU⟩,fun b hb=>?_⟩
  ·have e1:((i+1:Nat):Int)=(i:Int)+1:=by lia
   rw[e1];exact FQ
  ·have mE:b<s.heap.objs.size:=by
    have e':b=e∨b=it:=by simpa using hb
    rcases e' with z|z
    ·rw[z];exact yk
    ·rw[z];exact oR
   rw[ao (fU mE)];exact(hf b hb).1
 done:=by
  intro X hP hw hK hc i pins s σ H E I hf st hg;subst hP hw hK;obtain⟨⟨old,he⟩,hit,cU⟩:=st;obtain⟨xs,hq,hx⟩:=hg;obtain⟨au,rv,p,hz⟩:=I.tuple hq;obtain⟨f0,f1,f2,f3,f4,f5⟩:=hf it (by simp);have D:=Bi (prog:=X.prog) (w:=X.w) (A:=X.A.in1) (I.ok.hd hc) it a NT au.toArray;have e1:au.toArray.size=i:=by rw[c7,←rv.length];exact hx
  exact wpAny_pyNext_enum_endD D he (by rw[e1];exact⟨hit,p⟩) fun h' eb=>⟨rfl,I.turned (t':=s.toks) (fun b o hb q=>eb b o hb q) f0 f1 f3 f4 f5⟩
 self:=fun A i s Q E st h=>let ⟨⟨_,he⟩,_⟩:=st;FR he h
def ac8(K:PySem.W.Frag)(ta:TA):TI:=fun σ H R=>ta σ H fun vs H1=>∃a xs,vs=[.ref a]∧bV K H1 a xs∧R (NS K a) H1
theorem NV{X:Cx}{e:aY}{ta:TA}{p pos iK:Pos}{jD:List aY}{kk:Nat}(hg:Gl X "enumerate")(hm:X.mg "enumerate"=none)(ha:PA X [e] ta)(hs:bo [e] X.env=[(false,eval e X.env)]:=by rfl):
  PI X (.Tuple jD kk iK) (.Call (.Name "enumerate" p) [e] [] pos) (ac8 X.K ta):=by
 intro pins s σ H R I h;refine sd (m6 I hg hm acs (qf (aT (ha pos pins s σ H _ I h) fun us s1 ⟨vs,H1,I1,r1,q1⟩=>?_) hs rfl));obtain⟨a,xs,ex,hq,q⟩:=q1;subst ex;cases r1 with
 |cons r rr=>
  cases rr;cases r;obtain⟨au,rv,p',hz⟩:=I1.tuple hq;have p2:s1.heap.IsTuple a au.toArray:=p';have al:a<s1.heap.objs.size:=by obtain⟨_,ho,_⟩:=p2;exact cN ho
  refine ac4 p2 fun h' he hit hsz hk=>FR he ?_;have I2:Inv X pins σ H1 {s1 with heap:=h'}:=I1.kept (t':=s1.toks) hk;refine⟨s1.heap.objs.size+1,[s1.heap.objs.size+1,s1.heap.objs.size],_,_,H1,rfl,I2,ac5 a (s1.heap.objs.size+1) s1.heap.objs.size (fU al),⟨⟨.none,he⟩,hit,acu _⟩,fun b hb=>?_,q⟩;have e':b=s1.heap.objs.size+1∨b=s1.heap.objs.size:=by simpa using hb
  have hle:s1.heap.objs.size≤b:=by
   rcases e' with z|z
   ·rw[z];exact vQ _ _
   ·rw[z];exact a9 _
  exact I1.qc hle (I1.aU.fresh hle)
end L2
namespace PySem
open Sem (wp)
open AutoSeq1 (wpAny_loadPart')
structure ZA(z u o a b:ae)(f g:List ae):Prop where
 uz:u≠z
 oz:o≠z
 uo:u≠o
 ua:u≠a
 ub:u≠b
 ab:a≠b
 za:z∉f
 zb:z∉g
 oa:o∉f
 ob:o∉g
 ga:a∉g
 fb:b∉f
 am:a∈f
 bm:b∈g
section
variable {prog:cQ}{w:cD}{A:eB}{E:aA→aS→Prop}{s:aS}{z u o a b:ae}{f g:List ae}{n m i:Nat}{P R:Nat→aA→Prop}{S T:Nat→bU→Prop}{x0 y0:aA}
theorem ac9{Q:aA→aS→Prop}(Z:ZA z u o a b f g)(D:qC prog w A a f n P S)(G:qC prog w A b g m R T)(hz:jb s.heap z u o .none)(hu:fX s.heap u (.ref a) (.ref b))(ho:fX s.heap o x0 y0)
  (h1:S i s.heap) (h2:T i s.heap) (l1:i<n) (l2:i<m)
  (hQ:∀x y h' tk,P i x→R i y→jb h' z u o (kK s.heap.objs.size)→fX h' o x y→S (i+1) h'→T (i+1) h'→fX h' s.heap.objs.size x y→h'.objs.size=s.heap.objs.size+1→
   (∀c k,c≠z→c≠o→c≠a→c≠b→s.heap.get? c=some k→h'.get? c=some k)→Q (.ref s.heap.objs.size) {s with heap:=h',toks:=tk}):
  aD (aP prog w) A (yg.«zip.__next__» ⟨[.ref z],[]⟩) (fun fin s'=>∃v,fin=.done (.ret v)∧Q v s') E s:=by
 have az:a≠z:=fun e=>Z.za (e▸Z.am);have bz:b≠z:=fun e=>Z.zb (e▸Z.bm);have oa:o≠a:=fun e=>Z.oa (e▸Z.am);have ob:o≠b:=fun e=>Z.ob (e▸Z.bm);show aD _ _ (tj (.ref z) 2>>=_) _ _ _;refine ay (j3 hz rfl (x:=.bool false) rfl ?_);show aD _ _ (tj (.ref z) 3>>=_) _ _ _;refine ay (j3 hz rfl (x:=.ref u) rfl ?_);refine ay (tp hu rfl ?_);show aD _ _ (Gd (.ref z)>>=_) _ _ _;refine ay ?_;unfold Gd;refine ay (j3 hz rfl (x:=.none) rfl (bc ?_));simp only[if_true];refine ay (Gb ?_);refine ay (j3 hz rfl (x:=.ref o) rfl ?_);refine ay (yn hz (by simp) fun k1 e1 b1=>?_)
 replace e1:jb k1 z u o .ellipsis:=e1
 refine ay ?_;simp only[ac_,ada,Fc,A6];refine ay (ay (Ge ?_));show aD _ _ (tf (.ref a)>>=_) _ _ _;have d1:S i k1:=D.frame _ _ _ h1 fun c hc r q=>b1.extBut _ _ (fun e=>Z.za (e▸hc)) q;refine ay (D.item i _ _ _ l1 d1 fun x k2 t2 px d2 b2=>bc ?_);have o2:fX k2 o x0 y0:=b2.extBut _ _ oa (b1.extBut _ _ Z.oz ho);refine ay (tp o2 rfl ?_);refine ay (NW o2 fun k3 o3 b3=>?_)
 replace o3:fX k3 o x y0:=o3
 refine ay (NY (bc ?_));refine ay (ay (Ge ?_));show aD _ _ (tf (.ref b)>>=_) _ _ _;have g3:T i k3:=G.frame _ _ _ h2 fun c hc r q=>b3.extBut _ _ (fun e=>Z.ob (e▸hc)) (b2.extBut _ _ (fun e=>Z.ga (e▸hc)) (b1.extBut _ _ (fun e=>Z.zb (e▸hc)) q));refine ay (G.item i _ _ _ l2 g3 fun y k4 t4 py g4 b4=>bc ?_);have o4:fX k4 o x y0:=b4.extBut _ _ ob o3;refine ay (tp o4 rfl ?_);refine ay (NW o4 fun k5 o5 b5=>?_)
 replace o5:fX k5 o x y:=o5
 refine ay (NY (bc (bc ?_)));refine ay (tp o5 rfl ?_);refine ay (wpAny_newTuple ?_);have sz:k5.objs.size=s.heap.objs.size:=by rw[b5.1,b4.1,b3.1,b2.1,b1.1]
 have e5:jb k5 z u o .ellipsis:=b5.extBut _ _ Z.oz.symm (b4.extBut _ _ bz.symm (b3.extBut _ _ Z.oz.symm (b2.extBut _ _ az.symm e1)));have kp:∀c r,c≠z→c≠o→c≠a→c≠b→s.heap.get? c=some r→k5.get? c=some r:=fun c r n1 n2 n3 n4 q=>
  b5.extBut _ _ n2 (b4.extBut _ _ n4 (b3.extBut _ _ n2 (b2.extBut _ _ n3 (b1.extBut _ _ n1 q))))
 have d5:S (i+1) k5:=D.frame _ _ _ d2 fun c hc r q=>b5.extBut _ _ (fun e=>Z.oa (e▸hc)) (b4.extBut _ _ (fun e=>Z.fb (e▸hc)) (b3.extBut _ _ (fun e=>Z.oa (e▸hc)) q));have g5:T (i+1) k5:=G.frame _ _ _ g4 fun c hc r q=>b5.extBut _ _ (fun e=>Z.ob (e▸hc)) q;have zl:z<k5.objs.size:=cN e5;show aD _ _ (adb (.ref z) (.ref k5.objs.size)>>=_) _ _ _;refine ay ?_;unfold adb;have e6:jb (k5.push {cls:=.type "tuple",data:=.seq #[x,y]}) z u o .ellipsis:=dW _ e5;refine ay (yn e6 (by simp) fun k7 e7 b7=>?_)
 replace e7:jb k7 z u o (kK k5.objs.size):=e7
 refine yn e7 (by simp) fun k8 e8 b8=>?_
 replace e8:jb k8 z u o (kK k5.objs.size):=e8
 have up:∀c r,c≠z→k5.get? c=some r→k8.get? c=some r:=fun c r n1 q=>b8.extBut _ _ n1 (b7.extBut _ _ n1 (dW _ q));have t8:fX k8 k5.objs.size x y:=b8.extBut _ _ (va zl) (b7.extBut _ _ (va zl) (eP _ rfl));have s8:k8.objs.size=k5.objs.size+1:=by rw[b8.1,b7.1,g_]
 rw[sz]at e8 t8 s8;refine bc ⟨_,rfl,?_⟩;show Q (.ref k5.objs.size) _;rw[sz];exact hQ x y k8 _ px py e8 (up _ _ Z.oz o5) (D.frame _ _ _ d5 fun c hc r q=>up c r (fun e=>Z.za (e▸hc)) q) (G.frame _ _ _ g5 fun c hc r q=>up c r (fun e=>Z.zb (e▸hc)) q) t8 s8
  fun c r n1 n2 n3 n4 q=>up c r n1 (kp c r n1 n2 n3 n4 q)
theorem ade(Z:ZA z u o a b f g)(D:qC prog w A a f n P S)(G:qC prog w A b g m R T)(hz:jb s.heap z u o .none)(hu:fX s.heap u (.ref a) (.ref b))(ho:fX s.heap o x0 y0)
  (sW:S n s.heap∨(i<n∧S i s.heap∧T m s.heap))
  (hE:∀h' e tk,(∀c k,c≠z→c≠o→c≠a→c≠b→s.heap.get? c=some k→h'.get? c=some k)→(∃k,h'.get? e=some k∧k.cls=.type "StopIteration")→E (.ref e) {s with heap:=h',toks:=tk}):
  aD (aP prog w) A (yg.«zip.__next__» ⟨[.ref z],[]⟩) Q E s:=by
 have az:a≠z:=fun e=>Z.za (e▸Z.am);have bz:b≠z:=fun e=>Z.zb (e▸Z.bm);have oa:o≠a:=fun e=>Z.oa (e▸Z.am);show aD _ _ (tj (.ref z) 2>>=_) _ _ _;refine ay (j3 hz rfl (x:=.bool false) rfl ?_);show aD _ _ (tj (.ref z) 3>>=_) _ _ _;refine ay (j3 hz rfl (x:=.ref u) rfl ?_);refine ay (tp hu rfl ?_);show aD _ _ (Gd (.ref z)>>=_) _ _ _;refine ay ?_;unfold Gd;refine ay (j3 hz rfl (x:=.none) rfl (bc ?_));simp only[if_true];refine ay (Gb ?_);refine ay (j3 hz rfl (x:=.ref o) rfl ?_);refine ay (yn hz (by simp) fun k1 e1 b1=>?_)
 replace e1:jb k1 z u o .ellipsis:=e1
 refine ay ?_;simp only[ac_,ada,Fc,A6];refine ay (ay (Ge ?_));show aD _ _ (tf (.ref a)>>=_) _ _ _;rcases sW with h1|⟨l1,h1,h2⟩
 ·have d1:S n k1:=D.frame _ _ _ h1 fun c hc r q=>b1.extBut _ _ (fun e=>Z.za (e▸hc)) q;refine ay (D.done _ _ _ d1 fun k2 e b2 he=>?_);obtain⟨r,hr,cz⟩:=he;have e2:jb k2 z u o .ellipsis:=b2 _ _ az.symm e1;have ez:e≠z:=fun q=>by subst q;rw[e2]at hr;cases hr;simp at cz
  refine yn e2 (by simp) fun k3 _ b3=>hE k3 e s.toks (fun c k n1 _ n3 _ q=>b3.extBut _ _ n1 (b2 _ _ n3 (b1.extBut _ _ n1 q))) ⟨r,b3.extBut _ _ ez hr,cz⟩
 ·have d1:S i k1:=D.frame _ _ _ h1 fun c hc r q=>b1.extBut _ _ (fun e=>Z.za (e▸hc)) q;refine ay (D.item i _ _ _ l1 d1 fun x k2 t2 px d2 b2=>bc ?_);have o2:fX k2 o x0 y0:=b2.extBut _ _ oa (b1.extBut _ _ Z.oz ho);refine ay (tp o2 rfl ?_);refine ay (NW o2 fun k3 o3 b3=>?_);refine ay (NY (bc ?_));refine ay (ay (Ge ?_));show aD _ _ (tf (.ref b)>>=_) _ _ _;have g3:T m k3:=G.frame _ _ _ h2 fun c hc r q=>b3.extBut _ _ (fun e=>Z.ob (e▸hc)) (b2.extBut _ _ (fun e=>Z.ga (e▸hc)) (b1.extBut _ _ (fun e=>Z.zb (e▸hc)) q));refine ay (G.done _ _ _ g3 fun k4 e b4 he=>?_);obtain⟨r,hr,cz⟩:=he;have e4:jb k4 z u o .ellipsis:=b4 _ _ bz.symm (b3.extBut _ _ Z.oz.symm (b2.extBut _ _ az.symm e1));have ez:e≠z:=fun q=>by subst q;rw[e4]at hr;cases hr;simp at cz
  refine yn e4 (by simp) fun k5 _ b5=>hE k5 e t2 (fun c k n1 n2 n3 n4 q=>b5.extBut _ _ n1 (b4 _ _ n4 (b3.extBut _ _ n2 (b2.extBut _ _ n3 (b1.extBut _ _ n1 q))))) ⟨r,b5.extBut _ _ ez hr,cz⟩
end
section
variable {prog:cQ}{w:cD}{A:eB}{E:aA→aS→Prop}{s:aS}{z u o a b:ae}{f g:List ae}{n m i:Nat}{P R:Nat→aA→Prop}{S T:Nat→bU→Prop}{x0 y0:aA}
theorem adf(Z:ZA z u o a b f g)(D:qC prog w A.in1 a f n P S)(G:qC prog w A.in1 b g m R T)(hz:jb s.heap z u o .none)(hu:fX s.heap u (.ref a) (.ref b))(ho:fX s.heap o x0 y0)
  (h1:S i s.heap) (h2:T i s.heap) (l1:i<n) (l2:i<m)
  (hQ:∀x y h' tk,P i x→R i y→jb h' z u o (kK s.heap.objs.size)→fX h' o x y→S (i+1) h'→T (i+1) h'→fX h' s.heap.objs.size x y→h'.objs.size=s.heap.objs.size+1→
   (∀c k,c≠z→c≠o→c≠a→c≠b→s.heap.get? c=some k→h'.get? c=some k)→Q (some (.ref s.heap.objs.size)) {s with heap:=h',toks:=tk}):aD (aP prog w) A (m8 (.ref z)) Q E s:=by
 have ty:s.TypeIs (.ref z) "zip":=⟨_,hz,rfl⟩
 unfold m8;exact ay (FF (sF (name:=aZ "__next__") ty Gf
  (oN Gf ty adg (ac9 Z D G hz hu ho h1 h2 l1 l2 fun x y h' tk q1 q2 q3 q4 q5 q6 q7 q8 q9=>bc (hQ x y h' tk q1 q2 q3 q4 q5 q6 q7 q8 q9)) (adh _))))
theorem adi(Z:ZA z u o a b f g)(D:qC prog w A.in1 a f n P S)(G:qC prog w A.in1 b g m R T)(hz:jb s.heap z u o .none)(hu:fX s.heap u (.ref a) (.ref b))(ho:fX s.heap o x0 y0)
  (sW:S n s.heap∨(i<n∧S i s.heap∧T m s.heap))
  (hQ:∀h' tk,(∀c k,c≠z→c≠o→c≠a→c≠b→s.heap.get? c=some k→h'.get? c=some k)→Q none {s with heap:=h',toks:=tk}):aD (aP prog w) A (m8 (.ref z)) Q E s:=by
 have ty:s.TypeIs (.ref z) "zip":=⟨_,hz,rfl⟩
 unfold m8;refine ay (FF (sF (name:=aZ "__next__") ty Gf
  (oN Gf ty adg (ade Z D G hz hu ho sW fun h' e tk kp he=>?_) (adh _))))
 obtain⟨r,hr,cz⟩:=he;exact ay (ace (T:="StopIteration") (b:=true) ⟨r,hr,cz⟩ acf (bc (hQ _ tk kp)))
end
def yo(h:bU)(t:ae):bU:=h.push {cls:=.type "tuple_iterator",data:=.fields #[.ref t,.int 0 0]}
def vV(h:bU)(t l:ae):bU:=(yo h t).push {cls:=.type "list_iterator",data:=.fields #[.ref l,.int 0 0]}
def vW(h:bU)(t l:ae):bU:=(vV h t l).push {cls:=.type "tuple",data:=.seq #[.ref h.objs.size,.ref (yo h t).objs.size]}
def vX(h:bU)(t l:ae):bU:=(vW h t l).push {cls:=.type "tuple",data:=.seq #[.none,.none]}
def kR(h:bU)(t l:ae):bU:=(vX h t l).push {cls:=.type "zip",data:=.fields #[.none,.bool false,.bool false,.ref (vV h t l).objs.size,.ref (vW h t l).objs.size]}
theorem adj t l xs ys:
  Meets (yg.«zip.__new__» ⟨[.type "zip",.ref t,.ref l],[]⟩) (fun _ R s=>s.heap.IsTuple t xs∧s.heap.IsList l ys∧R (.ok (.ret (.ref (vX s.heap t l).objs.size))) {s with heap:=kR s.heap t l}):=
 .of_wp fun prog w A R s q=>by
  obtain⟨hp,g,d,tk,os⟩:=s;obtain⟨q1,q2,q⟩:=q;have sub:=sub_zip;have i1:ac3 (NR ⟨hp,g,d,tk,os⟩) t xs:=q1;have i2:Heap.IsList (NR ⟨hp.push {cls:=.type "tuple_iterator",data:=.fields #[.ref t,.int 0 0]},g,d,tk,os⟩) l ys:=apx q2 _
  wp_walk using Gc i1,Ly i2
  exact⟨_,rfl,q⟩
theorem adk{s:aS}(q1:s.heap.IsTuple t xs)(q2:s.heap.IsList l ys)
  (q:∀h',jb h' (s.heap.objs.size+4) (s.heap.objs.size+2) (s.heap.objs.size+3) .none→fX h' (s.heap.objs.size+2) (.ref s.heap.objs.size) (.ref (s.heap.objs.size+1))→
   fX h' (s.heap.objs.size+3) .none .none→h'.IsTupleIter s.heap.objs.size t 0→h'.IsListIter (s.heap.objs.size+1) l 0→h'.objs.size=s.heap.objs.size+5→
   (∀c k,s.heap.get? c=some k→h'.get? c=some k)→Q (.ref (s.heap.objs.size+4)) {s with heap:=h'}):aD (aP prog w) A (call (.type "zip") [.ref t,.ref l]) Q E s:=by
 refine callType_new F.called_zip (by decide) (F.typeCall_zip_2 _ _) (F.newCall_zip_2 _ _) (fun obj=>F.args_object_init_3 obj _ _) F.entry_zip_new (adj t l xs ys) ⟨q1,q2,?_⟩;have n1:(yo s.heap t).objs.size=s.heap.objs.size+1:=g_ ..;have n2:(vV s.heap t l).objs.size=s.heap.objs.size+2:=by unfold vV;rw[g_,n1]
 have n3:(vW s.heap t l).objs.size=s.heap.objs.size+3:=by unfold vW;rw[g_,n2]
 have n4:(vX s.heap t l).objs.size=s.heap.objs.size+4:=by unfold vX;rw[g_,n3]
 have n5:(kR s.heap t l).objs.size=s.heap.objs.size+5:=by unfold kR;rw[g_,n4]
 have k5:∀c r,(vX s.heap t l).get? c=some r→(kR s.heap t l).get? c=some r:=fun c r e=>dW _ e;have k4:∀c r,(vW s.heap t l).get? c=some r→(kR s.heap t l).get? c=some r:=fun c r e=>k5 c r (dW _ e);have k3:∀c r,(vV s.heap t l).get? c=some r→(kR s.heap t l).get? c=some r:=fun c r e=>k4 c r (dW _ e);have k2:∀c r,(yo s.heap t).get? c=some r→(kR s.heap t l).get? c=some r:=fun c r e=>k3 c r (dW _ e);have k1:∀c r,s.heap.get? c=some r→(kR s.heap t l).get? c=some r:=fun c r e=>k2 c r (dW _ e);have g5:(kR s.heap t l).get? (vX s.heap t l).objs.size=some _:=eP _ rfl;have g4:(kR s.heap t l).get? (vW s.heap t l).objs.size=some _:=k5 _ _ (eP _ rfl);have g3:(kR s.heap t l).get? (vV s.heap t l).objs.size=some _:=k4 _ _ (eP _ rfl);have g2:(kR s.heap t l).get? (yo s.heap t).objs.size=some _:=k3 _ _ (eP _ rfl);have g1:(kR s.heap t l).get? s.heap.objs.size=some _:=k2 _ _ (eP _ rfl);show _∧_;rw[n2,n3,n4]at g5;rw[n1,n2]at g3;rw[n3]at g4;rw[n1]at g2;rw[n4];exact⟨⟨_,g5,rfl⟩,q _ g5 g3 g4 ⟨_,g1,rfl,rfl⟩ ⟨_,g2,rfl,rfl⟩ n5 k1⟩
end PySem
namespace L2
open PySem PySem.Spec PyProof.Rows
def NZ(K:PySem.W.Frag)(a b:ae):It:=
 ⟨fun i H=>∃(xs ys:List V) (x y:V),bV K H a xs∧ai K H b ys∧xs[i]?=some x∧ys[i]?=some y,
  fun i H v H'=>∃p x y,v=.ref p∧H p=none∧H'=upd H p (.tup [x,y])∧(∀xs,bV K H a xs→xs[i]?=some x)∧∀ys,ai K H b ys→ys[i]?=some y,
  fun i H=>∃xs ys:List V,bV K H a xs∧ai K H b ys∧(xs.length=i∨(i<xs.length∧ys.length=i))⟩
theorem adl{P:cQ}{w:cD}{K:PySem.W.Frag}{jD:List aY}{kk:Nat}{iK:Pos}{a b z u o p q:ae}(Z:ZA z u o p q [p,a] [q,b])(N0:a≠p)(N7:b≠q):
  Turn P w K (.Tuple jD kk iK) (NZ K a b) [z,u,o,p,q] z (fun i h=>jb h z u o .none∧fX h u (.ref p) (.ref q)∧(∃x y,fX h o x y)∧h.IsTupleIter p a i∧h.IsListIter q b i) where
 mem:=by simp
 obj:=fun i h st c hc=>by
  obtain⟨hz,hu,⟨x,y,ho⟩,⟨r1,e1,_,d1⟩,⟨r2,e2,_,d2⟩⟩:=st;have e':c=z∨c=u∨c=o∨c=p∨c=q:=by simpa using hc
  rcases e' with e|e|e|e|e <;>rw[e]
  ·exact⟨_,hz,fun v q=>nomatch q⟩
  ·exact⟨_,hu,fun v q=>nomatch q⟩
  ·exact⟨_,ho,fun v q=>nomatch q⟩
  ·exact⟨r1,e1,fun v q=>by rw[d1]at q;cases q⟩
  ·exact⟨r2,e2,fun v q=>by rw[d2]at q;cases q⟩
 keep:=fun i h h' st k=>by
  obtain⟨hz,hu,⟨x,y,ho⟩,h1,h2⟩:=st;exact⟨k z (by simp) _ hz,k u (by simp) _ hu,⟨x,y,k o (by simp) _ ho⟩,h1.at fun r e=>k p (by simp) r e,h2.at fun r e=>k q (by simp) r e⟩
 item:=by
  intro X hP hw hK hc i pins s σ H E I hf st hg;subst hP hw hK;obtain⟨hz,hu,⟨x0,y0,ho⟩,h1,h2⟩:=st;obtain⟨xs,ys,x,y,qx,qy,hx,hy⟩:=hg;obtain⟨au,rv,px,_⟩:=I.tuple qx;obtain⟨fV,nF,py,_⟩:=I.list qy;have tq:s.heap.IsTuple a au.toArray:=px;obtain⟨ux,N_,rux⟩:=rv.get hx;obtain⟨uy,Oa,ruy⟩:=nF.get hy;have zl:z<s.heap.objs.size:=cN hz;have D:=Bi (prog:=X.prog) (w:=X.w) (A:=X.A.in1) (I.ok.hd hc) p a N0 au.toArray;have G:=ado (prog:=X.prog) (w:=X.w) (A:=X.A.in1) (I.ok.hd hc) q b N7 fV.toArray;refine adf Z D G hz hu ho ⟨h1,tq⟩ ⟨h2,py.isList⟩ (i:=i) ?_ ?_ fun vx vy h' tk ex ey z' o' FT FU hT hsz hk=>?_
  ·rw[c7,←rv.length];exact(du.mp hx).1
  ·rw[c7,←nF.length];exact(du.mp hy).1
  have e1:vx=ux:=by
   have t:au[i]?=some vx:=by simpa using ex
   rw[t]at N_;exact bS N_
  have e2:vy=uy:=by
   have t:fV[i]?=some vy:=by simpa using ey
   rw[t]at Oa;exact bS Oa
  subst e1 e2;refine⟨_,rfl,acx (s:={s with heap:=h',toks:=tk}) z' fun i9 FV sb=>?_⟩;have sU:i9.get? s.heap.objs.size=some {cls:=.type "tuple",data:=.seq #[vx,vy]}:=(sb.2 _ (va zl)).trans hT;have new:eN X.prog X.w (upd H s.heap.objs.size (.tup [x,y])) i9 s.heap.objs.size (.tup [x,y]):=
   ⟨by show 2≤bf;decide,[vx,vy],.cons rux (.cons ruy .nil),⟨_,sU,rfl,_,rfl⟩⟩
  have I1:Inv X pins σ (upd H s.heap.objs.size (.tup [x,y])) {s with heap:=i9,toks:=tk}:=
   I.Bb (t':=tk) (ch:=[z,u,o,p,q]) (fun c r hb e=>(sb.2 c (fun q'=>hb (by simp[q']))).trans (hk c r (fun q'=>hb (by simp[q'])) (fun q'=>hb (by simp[q'])) (fun q'=>hb (by simp[q'])) (fun q'=>hb (by simp[q'])) e)) hf (a9 _) new
  have pz:p≠z:=fun e=>Z.za (e▸Z.am);have qz:q≠z:=fun e=>Z.zb (e▸Z.bm);refine⟨.ref s.heap.objs.size,_,I1,rfl,⟨_,x,y,rfl,I.aU.fresh (a9 _),rfl,fun l hl=>by rw[I.Ln hl qx];exact hx,fun l hl=>by rw[I.u4 hl qy];exact hy⟩,⟨FV,?_,⟨vx,vy,?_⟩,?_,?_⟩,fun c sV=>?_⟩
  ·exact(sb.2 _ Z.uz).trans (hk _ _ Z.uz Z.uo Z.ua Z.ub hu)
  ·exact(sb.2 _ Z.oz).trans o'
  ·exact FT.1.at fun r e=>(sb.2 _ pz).trans e
  ·exact FU.1.at fun r e=>(sb.2 _ qz).trans e
  ·have cW:c<s.heap.objs.size:=by
    have e':c=z∨c=u∨c=o∨c=p∨c=q:=by simpa using sV
    rcases e' with e|e|e|e|e <;>rw[e]
    ·exact zl
    ·exact cN hu
    ·exact cN ho
    ·obtain⟨_,e1,_⟩:=h1;exact cN e1
    ·obtain⟨_,e2,_⟩:=h2;exact cN e2
   rw[ao (fU cW)];exact(hf c sV).1
 done:=by
  intro X hP hw hK hc i pins s σ H E I hf st hg;subst hP hw hK;obtain⟨hz,hu,⟨x0,y0,ho⟩,h1,h2⟩:=st;obtain⟨xs,ys,qx,qy,sW⟩:=hg;obtain⟨au,rv,px,_⟩:=I.tuple qx;obtain⟨fV,nF,py,_⟩:=I.list qy;have tq:s.heap.IsTuple a au.toArray:=px;have l1:=rv.length;have l2:=nF.length;have D:=Bi (prog:=X.prog) (w:=X.w) (A:=X.A.in1) (I.ok.hd hc) p a N0 au.toArray;have G:=ado (prog:=X.prog) (w:=X.w) (A:=X.A.in1) (I.ok.hd hc) q b N7 fV.toArray;refine adi Z D G hz hu ho (i:=i) ?_ fun h' tk hk=>⟨rfl,I.M4 (t':=tk) (ch:=[z,u,o,p,q]) (fun c r hb e=>
   hk c r (fun q'=>hb (by simp[q'])) (fun q'=>hb (by simp[q'])) (fun q'=>hb (by simp[q'])) (fun q'=>hb (by simp[q'])) e) hf⟩
  rcases sW with e|⟨e1,e2⟩
  ·have n1:au.toArray.size=i:=by rw[c7];lia
   exact .inl (by rw[n1];exact⟨h1,tq⟩)
  ·have n1:fV.toArray.size=i:=by rw[c7];lia
   exact .inr ⟨by rw[c7];lia,⟨h1,tq⟩,by rw[n1];exact⟨h2,py.isList⟩⟩
 self:=fun A i s Q E st h=>FW st.1 h
theorem adp(N a b:Nat)(la:a<N)(lb:b<N):ZA (N+4) (N+2) (N+3) N (N+1) [N,a] [N+1,b]:=by
 have no:∀{c x y:Nat},c≠x→c≠y→c∉[x,y]:=fun h1 h2 m=>by
  rcases b_.mp m with e|m
  ·exact h1 e
  ·exact h2 (cA.mp m)
 have ne:∀{x y:Nat},x≠y→((x:ae)≠(y:ae)):=fun h=>h;exact⟨ne (by lia),ne (by lia),ne (by lia),ne (by lia),ne (by lia),ne (by lia),no (by lia) (by lia),no (by lia) (by lia),no (by lia) (by lia),no (by lia) (by lia),no (by lia) (by lia),no (by lia) (by lia),cI,cI⟩
def adq(K:PySem.W.Frag)(ta:TA):TI:=fun σ H R=>ta σ H fun vs H1=>∃a b xs ys,vs=[.ref a,.ref b]∧bV K H1 a xs∧ai K H1 b ys∧R (NZ K a b) H1
theorem ads{X:Cx}{e e2:aY}{ta:TA}{p pos iK:Pos}{jD:List aY}{kk:Nat}(hg:Gl X "zip")(hm:X.mg "zip"=none)(ha:PA X [e,e2] ta)
  (hs:bo [e,e2] X.env=(false,eval e X.env)::bo [e2] X.env:=by rfl) (df:(g9 pos (bo [e2] X.env)).any (·.1)=false:=by rfl):
  PI X (.Tuple jD kk iK) (.Call (.Name "zip" p) [e,e2] [] pos) (adq X.K ta):=by
 intro pins s σ H R I h;refine sd (m6 I hg hm Nm (qf (aT (ha pos pins s σ H _ I h) fun us s1 ⟨vs,H1,I1,r1,q1⟩=>?_) hs df));obtain⟨a,b,xs,ys,ex,qx,qy,k⟩:=q1;subst ex;obtain⟨ua,ur,rfl,ra,r2⟩:∃ua ur,us=ua::ur∧RelV (.ref a) ua∧a7 [.ref b] ur:=by cases r1 with|cons r t=>exact⟨_,_,rfl,r,t⟩
 obtain⟨ub,rfl,rb⟩:=vals1 r2;cases ra;cases rb;obtain⟨au,rv,px,_⟩:=I1.tuple qx;obtain⟨fV,nF,py,_⟩:=I1.list qy;have tq:s1.heap.IsTuple a au.toArray:=px;have la:a<s1.heap.objs.size:=by obtain⟨_,ho,_⟩:=tq;exact cN ho
 have lb:b<s1.heap.objs.size:=py.lt;refine adk tq py.isList fun h' hz hu ho h1 h2 hsz hk=>FW hz ?_;have I2:Inv X pins σ H1 {s1 with heap:=h'}:=I1.kept (t':=s1.toks) hk;generalize hN:s1.heap.objs.size=N at*;have Z:=adp N a b la lb;refine⟨N+4,[N+4,N+2,N+3,N,N+1],_,_,H1,rfl,I2,adl Z (fU la) (fU (Fj lb)),⟨hz,hu,⟨_,_,ho⟩,h1,h2⟩,fun c hc=>?_,k⟩;have hle:N≤c:=by
  have e':c=N+4∨c=N+2∨c=N+3∨c=N∨c=N+1:=by simpa using hc
  rcases e' with e|e|e|e|e <;>(rw[e];first|exact a9 _|exact vQ _ _)
 exact I1.qc (by rw[hN];exact hle) (I1.aU.fresh (by rw[hN];exact hle))
section
variable {X:Cx}{CX:ni}{k:Nat}{fO:List V}{ds:List aA}{E:XK}{x:Str}{p pos:Pos}{e:aY}{es:List aY}{t:TA}
theorem Ob{ι:Type}{ps:ι→List Str}{fs:ι→ae}{yp:ι→aM}{tu:ι→Sp}(i:Nat)(F:∀j,fC X.prog X.w X.K X.mg X.base CX k (fs j) (yp j) (ps j) (tu j))(hr:eC k X.A)(hk:∀j,PySem.W.keepIn X.K (.ref (fs j))=true)
  (hb:∀j,Binds X.K (yp j) (ps j) ds) (hd:a7 fO ds) (hx:qi CX X E) (ha:PA X (e::es) t)
  (hN:X.N[i]?=some x:=by rfl) (hv:p5 X.env.scope x:=by first|exact j7 rfl|exact iO (j7 rfl)|exact iO (iO rfl)) (iL:(x==("__debug__":Str))=false:=by decide) (gw:(x==("__classdict__":Str))=false:=by decide)
  (he:bo (e::es) X.env=(false,eval e X.env)::bo es X.env:=by rfl) (df:(g9 pos (bo es X.env)).any (·.1)=false:=by rfl):
  PE X (.Call (.Name x p) (e::es) [] pos) (fun σ H Q=>∃j,σ[i]?=some (some (.ref (fs j)))∧t σ H fun vs H1=>tu j (vs++fO) H1 Q E):=by
 intro pins s σ H Q I ⟨j,hj,h⟩;refine xP (aT (Li (i:=i) hN hv iL gw pins s σ H (fun v H'=>v=.ref (fs j)∧H'=H) I (Lh.mk _ hj ⟨rfl,rfl⟩)) fun u s0 ⟨v,H0,I0,r,q⟩=>?_);obtain⟨rfl,rfl⟩:=q;obtain rfl:u=dF (fs j):=r;refine PySem.W.callWith_K (h₀:=X.base) I.ok.mod.uT (hk j) (aT (ha pos pins s0 σ H0 _ I0 h) fun us s1 ⟨vs,H1,I1,r1,q1⟩=>⟨I1.iq,?_⟩) he df;exact EJ (F j) hr (hb j) hd hx I1 r1 q1
end
def nG(P:cQ)(w:cD)(K:PySem.W.Frag)(a:ae)(aq:List (Key×V)):Prop:=
 (a==jx)=false∧∃(o:Obj) (es:Array sT) (ep:Nat) (vs:List (Key×aA)),K.lookup a=some o∧o.ExactDict∧o.data=.dict es ep∧KV aq vs∧
  PySem.KeysOf (g7 P w) es∧Pairs (g7 P w) es.toList vs∧(vs.map (·.1)).Nodup
theorem nG.at{K:PySem.W.Frag}(d:nG P w K a aq)(i:K.In h):(a==jx)=false∧∃vs,KV aq vs∧h.DictOf (g7 P w) a vs:=by
 obtain⟨z,o,es,ep,vs,l,q1,q2,q3,q4,q5,q6⟩:=d;exact⟨z,vs,q3,o,es,ep,i _ _ l,q1,q2,q4,q5,q6⟩
section
variable {X:Cx}{o i:aY}{pos:Pos}{ty td:TE}{a:ae}{aq:List (Key×V)}
theorem vY(hD:nG X.prog X.w X.K a aq)(ho:PE X o (tC (.ref a)))(hi:PE X i ty)(hs:A_ i):PE X (.Subscript o i pos) (fun σ H Q=>ty σ H fun y H1=>∃k v,y=kV k∧bw aq k=some v∧Q v H1):=by
 intro pins s σ H Q I h;refine MZ PySem.F.slot_dict_getitem.lookup hs (aT (ho pins s σ H (fun v H'=>v=.ref a∧H'=H) I ⟨rfl,rfl⟩) fun u s1 ⟨x,H1,I1,rx,q1⟩=>?_);obtain⟨rfl,rfl⟩:=q1;obtain rfl:u=dF a:=rx;refine aT (hi pins s1 σ H1 _ I1 h) fun iv s2 ⟨y,H2,I2,ry,k,v,ey,l,q2⟩=>?_;subst ey;obtain⟨z,vs,rel,dd⟩:=hD.at I2.iq;obtain⟨w',hw,mn⟩:=iH.some_of (v:=v) (o:=sS vs k) (by rw[←l];exact rel.val k);exact⟨dd.typeIs,abp (qr ry) dd.mapOf hw ⟨v,H2,I2.tok _,mn,q2⟩⟩
theorem adt(hD:nG X.prog X.w X.K a aq)(hi:PE X i ty)(ho:PE X o (tC (.ref a))):PC X .In i o (fun σ H Q=>ty σ H fun y H1=>∃k,y=kV k∧Q (.bl (bw aq k).isSome) H1):=by
 intro pins s σ H Q I h;refine aT (hi pins s σ H _ I h) fun iv s1 ⟨y,H1,I1,ry,k,ey,q1⟩=>aT (ho pins s1 σ H1 (fun v H'=>v=.ref a∧H'=H1) I1 ⟨rfl,rfl⟩) fun u s2 ⟨x,H2,I2,rx,q2⟩=>?_;obtain⟨rfl,rfl⟩:=q2;subst ey;obtain rfl:u=dF a:=rx;obtain⟨z,vs,rel,dd⟩:=hD.at I2.iq;refine wpAny_in_of (qr ry) z dd.mapOf ?_;rw[←(rel.val k).sR];exact⟨.bl (bw aq k).isSome,H2,I2.tok _,rfl,q1⟩
theorem adu(hD:nG X.prog X.w X.K a aq)(hi:PE X i ty)(ho:PE X o (tC (.ref a))):PC X .NotIn i o (fun σ H Q=>ty σ H fun y H1=>∃k,y=kV k∧Q (.bl (!(bw aq k).isSome)) H1):=by
 intro pins s σ H Q I h;refine aT (hi pins s σ H _ I h) fun iv s1 ⟨y,H1,I1,ry,k,ey,q1⟩=>aT (ho pins s1 σ H1 (fun v H'=>v=.ref a∧H'=H1) I1 ⟨rfl,rfl⟩) fun u s2 ⟨x,H2,I2,rx,q2⟩=>?_;obtain⟨rfl,rfl⟩:=q2;subst ey;obtain rfl:u=dF a:=rx;obtain⟨z,vs,rel,dd⟩:=hD.at I2.iq;refine abt (qr ry) z dd.mapOf ?_;rw[←(rel.val k).sR];exact⟨.bl (!(bw aq k).isSome),H2,I2.tok _,rfl,q1⟩
end
section
variable {X:Cx}
def adv(K:PySem.W.Frag):List V→Hp→VK→Prop:=fun vs H Q=>∃(a:ae) (ns:List Int),vs=[V.ref a]∧bV K H a (ns.map V.int)∧Q (.int ns.sum) H
theorem adw(hc:X.calm=true):jY X (.builtin "sum") (adv X.K):=by
 intro pins s σ H vs us Q I r h;obtain⟨a,ns,rfl,hs,q⟩:=h;obtain⟨au,rv,hl,_⟩:=I.tuple hs;rw[a7.A1 r];have hi:=rv.ints;obtain⟨xs,e⟩:=hi.allInts.items;have hn:numsOf (E5 xs).toList=ns:=by rw[←e];exact hi.numsOf
 rw[MA]at hn;obtain⟨o,ho,cz,n,hd⟩:=hl;have ht:s.heap.IsTuple a (E5 xs):=⟨o,ho,cz,n,by rw[←e];exact hd⟩
 refine PySem.W.ktm_sumG (I.ok.hd hc) ht fun h' tk t' hk=>⟨.int ns.sum,H,I.kept hk,⟨t',?_⟩,q⟩
 rw[preSum_eq,A2 (by simp),hn]
end
end L2
namespace PySem.AutoSeq1
theorem adx(l:ae)(items:Array aA)(n:Nat)(b:ae)(yq:Array aA)(n2:Nat)(ym:Option ae)(sl:Array (Option aA))(hs0:¬(!items.isEmpty&&xV (items.size+yq.size))=true)(hs1:items.size≤bf)(se:items.size+yq.size≤bf+1):
  Meets (yg.«list.extend» ⟨[.ref l,.ref b],[]⟩) (fun _ R s=>s.heap.get? l=some {cls:=.type "list",dict:=none,data:=.seq items n,slots:= #[]}∧s.heap.get? b=some {cls:=.type "tuple",dict:=ym,data:=.seq yq n2,slots:=sl}∧R (.ok (.ret Value.none)) {s with heap:=s.heap.update l (xT fun x=>x++yq),toks:=s.toks}):=
 .of_wp fun prog w A R s h=>by
  obtain⟨hp,g,d,tk,os⟩:=s;obtain⟨hl,hb,h⟩:=h;have f1:=idx_int;have f2:=sub_tuple_tuple;have f3:=sub_list_list;have f4:=sub_tuple_list;have f5:=sub_list_tuple;have vJ:(items++yq).size≤bf+1:=by rw[Array.size_append];exact se
  wp_walk using(wpAny_updateSeq hl rfl (hz:=hs1) (_hz':=vJ)),wpAny_loadPart' hl,wpAny_loadPart' hb;exact⟨_,rfl,h⟩
end PySem.AutoSeq1
namespace L2
open PySem PySem.Spec PyProof.Rows
section
variable {X:Cx}
def adz(K:PySem.W.Frag):V→List V→Hp→VK→Prop:=fun x vs H Q=>∃l b xs zs,x=.ref l∧vs=[.ref b]∧H l=some (.lst xs)∧bV K H b zs∧xs.length+zs.length≤bf∧Q .aC (upd H l (.lst (xs++zs)))
theorem Oc:E1 X "list.extend" (adz X.K):=by
 intro pins s σ H x vs v us Q I rx rv h;obtain⟨l,b,xs,zs,rfl,rfl,hH,hB,hz,q⟩:=h;cases rx;obtain⟨u,rfl,ru⟩:=rv.one;cases ru;obtain⟨z,au,n,r,hl,e⟩:=I.sJ hH;obtain⟨fV,r2,⟨⟨c2,d2,dt2,sl2⟩,ho2,vZ,n2,hd2⟩,tz⟩:=I.tuple hB;simp only at vZ hd2;subst vZ hd2;have qo:=r2.length;have hsz:au.toArray.size+fV.toArray.size≤bf:=by rw[c7,c7];lia
 have sM:¬(!au.toArray.isEmpty&&xV (au.toArray.size+fV.toArray.size))=true:=by
  rw[E3 hsz,xW];exact cb
 refine ql aav ⟨_,e,rfl⟩ aaw (aax _ _)
  (AutoSeq1.adx l au.toArray n b fV.toArray n2 d2 sl2 sM (by rw[c7];lia) (by lia)) ⟨e,ho2,?_⟩
 refine⟨.aC,_,I.E2 (its':=au++fV) hH e (by simp) (r.append r2) ?_,rfl,q⟩;rw[bT]
 lia
end
theorem HT.adC{prog:cQ}{w:cD}{A:eB}{E:aA→aS→Prop}{s:aS}{t sl:ae}{items:Array aA}{vl vu:aA}{lo hi:Option Int}{Q:aA→aS→Prop}(ht:IsTup s.heap t items)(hs:s.heap.IsSliceOf sl vl vu .none)(pl:oK vl lo)(pu:oK vu hi)
  (h1:HT.bH items.size 0 lo=0) (h2:HT.bH items.size items.size hi=items.size) (h:Q (.ref t) s):aD (aP prog w) A (oM (.ref t) (.ref sl)) Q E s:=by
 obtain⟨os,sE,AU,xR⟩:=id hs;have ES:s.TypeIs (.ref sl) "slice":=⟨os,sE,AU⟩
 unfold oM
 try with_reducible refine r9 ?_
 first|refine ay (bc ?_)|skip
 refine ay (ZY ht.typeIs (by decide) ?_);refine ay (sF (name:=aZ "__getitem__") ht.typeIs xS
  (oN xS ht.typeIs ZZ ?_ (Z0 _ _)))
 show aD _ _ (Z1 (.ref t)>>=_) _ _ s;refine ay (Z2 ht ?_);refine ay (Mg ES ?_);rw[if_pos (by decide)];refine ay (HT.Mf hs pl pu ?_);have adD:((((HT.bH items.size 0 lo:Nat):Int)==0&&(1:Int)==1&&(HT.bH items.size items.size hi-HT.bH items.size 0 lo)==items.size)=true):=by
  rw[h1,h2];simp
 show aD _ _ (if(((HT.bH items.size 0 lo:Nat):Int)==0&&(1:Int)==1&&(HT.bH items.size items.size hi-HT.bH items.size 0 lo)==items.size)=true then _ else _) _ _ s;rw[if_pos adD];refine ay ?_;unfold apA;refine ay (Mg ht.typeIs (bc ?_));rw[if_pos (by decide)];exact ay (Gb (bc ⟨_,rfl,bc h⟩))
section
variable {X:Cx}
def adE(K:PySem.W.Frag):V→Option Int→Option Int→Hp→VK→Prop:=fun x lo hi H Q=>∃a xs,x=.ref a∧bV K H a xs∧(HT.bH xs.length 0 lo=0∧HT.bH xs.length xs.length hi=xs.length)∧Q (.ref a) H
theorem adF:oP X (adE X.K):=by
 intro pins s σ H x v vl vu lo hi sl Q I rx hs pl pu h;obtain⟨a,xs,rfl,hx,hw,q⟩:=h;cases rx;obtain⟨au,r,ht,hz⟩:=I.tuple hx;have hlen:au.toArray.size=xs.length:=by rw[c7];exact r.length.symm
 refine⟨"tuple",_,xS.lookup,ht.typeIs,?_⟩;exact HT.adC ht hs pl pu (by rw[hlen];exact hw.1) (by rw[hlen];exact hw.2) ⟨.ref a,H,I,rfl,q⟩
end
section
variable {X:Cx}
theorem adG{pos:Pos}{k v:aY}{tk tv:TE}(hu:X.A.units+1<lH)(hk:PE X k tk)(hv:PE X v tv):
  PE X (.Dict [some k] [v] pos) (fun σ H Q=>∀p,H p=none→tk σ (upd H p (.dT [])) fun x H1=>tv σ H1 fun y H2=>H2 p=some (.dT [])∧∃b ks,x=.ref b∧H2 b=some (.tup (ks.map kV))∧Q (.ref p) (upd H2 p (.dT [(ks,y)]))):=by
 intro pins s σ H Q I q;have hn:=I.aU.fresh (a9 s.heap.objs.size);have I1:=I.laid (a:=s.heap.objs.size) (o:=.dT []) (h':=s.heap.push {cls:=.type "dict",data:=.dict #[]}) (t':=s.toks) (fun _ _ q=>dW _ q) (a9 _) (M1 s.heap I.FA);rw[arm_eval_Dict,zip_pairTrees [some k] [v] X.env pos rfl rfl,dictDisplay_pairs (Bj [some k] [v] X.env pos) (by simp[Bj]) (by simp[Bj])];refine ay (El (ay ?_));unfold subDict;refine ay (wpAny_alloc ?_);refine ay (r9 ?_);rw[if_pos (show(Bj [some k] [v] X.env pos).length≤15 by simp[Bj])];refine ay (pairTrees_cons_walk (aT (hk pins _ σ _ _ I1 (q _ hn)) fun u s1 ⟨x,H1,I2,rx,q1⟩=>aT (hv pins s1 σ H1 _ I2 q1) fun w2 s2 ⟨y,H2,I3,ry,q2⟩=>pairTrees_nil_walk ?_));obtain⟨e,b,ks,ex,eb,q3⟩:=q2;subst ex;obtain rfl:u=dF b:=rx;obtain⟨z,hd,xs,rel,dd⟩:=MY I3.aU e;cases rel;refine r9 ?_;rw[Fc];refine ay (ay (ay (wpAny_dictSet_heap (hsz:=bu _) (show(uR (g7 X.prog X.w)).room X.A from Nat.lt_of_succ_lt hu) (vM I3.aU eb) dd fun h' vN hs=>bc ?_)));dsimp only;rw[A6];refine bc (bc (bc (bc ?_)));have I4:Inv X pins σ (upd H2 s.heap.objs.size (.dT [(ks,y)])) {s2 with heap:=h',toks:=s2.toks+(uR (g7 X.prog X.w)).draws ks}:=by
  obtain⟨qq,es,ep,hq,h2,h3,h4,_,h5⟩:=vN;refine FD I3 (by rw[e];exact True.intro) hs ⟨qq,hq⟩ ⟨by show 1≤bf;decide,hd,_,.cons ⟨rfl,?_,ry⟩ .nil,qq,es,ep,hq,h2,h3,h4,h5⟩;rw[ao (cE eb e (fun z=>nomatch z))];exact eb
 exact⟨.ref s.heap.objs.size,_,I4,rfl,q3⟩
end
section
variable {X:Cx}{x:Str}{e a b:aY}{es:List aY}{te ta tb:TE}{t:TA}{pos pos' p:Pos}{N ps:List Str}{sc:iI}{CX:ni}{k n:Nat}{f C:ae}{fd:aM}{sp:Sp}{E:aA→aS→Prop}
theorem aE(i:Nat)(s:aN X.N ps sc)(he:PE X e te)(hi:X.N[i]?=some x:=by rfl)(hx:Loc X.env.scope x:=by first|exact j7 rfl|exact iO rfl)(hs:rZ e (some (.Name x pos')) pos.line X.env=pure false:=by rfl)(hf:X.fn x=true∨X.env.scope.names.lookup x=some .local:=by first|exact .inl rfl|exact .inr rfl|assumption):
  PS X (.Assign [.Name x pos'] e pos) (AG te (u6 i)):=YR s.nd hi hx he hs hf
theorem bY(i:Nat)(s:aN X.N ps sc)(hi:X.N[i]?=some x:=by rfl)(hx:Loc X.env.scope x:=by first|exact j7 rfl|exact iO rfl)(hf:X.fn x=true∨X.env.scope.names.lookup x=some .local:=by first|exact .inl rfl|exact .inr rfl|assumption):PG X (.Name x pos) (u6 i):=YL s.nd hi hx hf
theorem tD{op:Lr}{ti:xF}(i:Nat)(s:aN X.N ps sc)(he:PE X e te)(ho:AF X op ti)(hi:X.N[i]?=some x:=by rfl)(hx:Loc X.env.scope x:=by first|exact j7 rfl|exact iO rfl)(hf:X.fn x=true∨X.env.scope.names.lookup x=some .local:=by first|exact .inl rfl|exact .inr rfl|assumption):
  PS X (.AugAssign (.Name x pos') op e pos) (Lv i te ti):=YS s.nd hi hx he ho hf
end
structure Fb(K:PySem.W.Frag)(x q:Str)(ps:List Str)(st:aK)(f:ae)(fd:aM):Prop extends Fun K x q st f fd where
 b:Binds K fd ps []
structure Fn(K:PySem.W.Frag)(mg:Str→Option aA)(x:Str)(ps:List Str)(st:aK)(f:ae)(fd:aM):Prop extends Fb K x x ps st f fd where
 m:mg x=some (.ref f)
structure Km(K:PySem.W.Frag)(mg:Str→Option aA)(x:Str)(C f:ae):Prop extends Mk K C f where
 m:mg x=some (.ref C)
section
variable {X:Cx}{x q:Str}{st:aK}{e a b:aY}{es:List aY}{te ta tb:TE}{t:TA}{pos p:Pos}{ps:List Str}{k n:Nat}{f C:ae}{fd:aM}{sp:Sp}
theorem aI(F:fC X.prog X.w X.K X.mg X.base jE k f fd ps sp)(hr:eC n X.A)(B:Fn X.K X.mg x ps st f fd)(ha:PA X (e::es) t)(yr:k≤n:=by decide)(hg:Gl X x:=by rfl)(iL:(x==("__debug__":Str))=false:=by decide)(he:bo (e::es) X.env=(false,eval e X.env)::bo es X.env:=by rfl)(df:(g9 pos (bo es X.env)).any (·.1)=false:=by rfl):
  PE X (.Call (.Name x p) (e::es) [] pos) (EI sp [] E0 t):=EL F (hr.mono yr) hg B.m B.kp B.b .nil jG ha iL he df
theorem gk(F:fC X.prog X.w X.K X.mg X.base jE k f fd ps sp)(hr:eC n X.A)(M:Km X.K X.mg x C f)(B:Fb X.K y q ps st f fd)(ha:PA X (e::es) t)(yr:k+1≤n:=by decide)(hg:Gl X x:=by rfl)(iL:(x==("__debug__":Str))=false:=by decide)(he:bo (e::es) X.env=(false,eval e X.env)::bo es X.env:=by rfl)(df:(g9 pos (bo es X.env)).any (·.1)=false:=by rfl):
  PE X (.Call (.Name x p) (e::es) [] pos) (AQ C sp [] E0 t):=ZI M.toMk F (hr.mono yr) hg M.m B.b .nil jG ha iL he df
theorem Od(F:fC X.prog X.w X.K X.mg X.base jE k f fd ps sp)(hr:eC n X.A)(M:Km X.K X.mg x C f)(B:Fb X.K y q ps st f fd)(yr:k+1≤n:=by decide)(hg:Gl X x:=by rfl)(iL:(x==("__debug__":Str))=false:=by decide):PE X (.Call (.Name x p) [] [] pos) (AQ C sp [] E0 nh):=ZJ M.toMk F (hr.mono yr) hg M.m B.b .nil jG iL
end
section
variable {X:Cx}{a b o i e:aY}{ta tb to td ty:TE}{op:uY}{r:R2}{pos p nu apos:Pos}{x:Str}
theorem aL(ho:eQ X (gy op) r)(ha:PE X a ta)(hb:PE X b tb)(h:op≠.In:=by decide)(h2:op≠.NotIn:=by decide):PT X (.Compare a [op] [b] pos) (Ez (sk r ta tb)):=oE ho ha hb (LI b h h2)
theorem nI(ho:eQ X (gy op) r)(ha:PE X a ta)(hb:PE X b tb)(h:op≠.In:=by decide)(h2:op≠.NotIn:=by decide):PE X (.Compare a [op] [b] pos) (sk r ta tb):=LJ ho ha hb (LI b h h2)
theorem bM(hr:vv X r)(ha:PE X a ta)(hb:PE X b tb)(hs:Mn b:=by exact fun _ _=>rfl):PE X (.Subscript a b pos) (sk r ta tb):=Z9 hr ha hb hs
theorem eD(hu:X.A.units+1<lH)(ho:PE X o td)(hi:PE X i ty)(hs:A_ i:=by exact fun _ _=>rfl):PE X (.Subscript o i pos) (M0 td ty):=abA hu ho hi hs
theorem cT(hm:X.mg "len"=none)(ha:PE X a ta)(hg:Gl X "len":=by rfl)(he:bo [a] X.env=(false,eval a X.env)::bo [] X.env:=by rfl)(df:(g9 pos (bo [] X.env)).any (·.1)=false:=by rfl):PE X (.Call (.Name "len" p) [a] [] pos) (AR (Ln_ X.K) (j1 ta nh)):=gB aan hg hm PySem.boot_len (gh ha gA he) (by decide) (by decide) he df
end
theorem be{n:Nat}(h:decide (n≤1000)=true:=by rfl):n≤bf:=dU (of_decide_eq_true h) (by decide)
abbrev Fb.Ok{K:PySem.W.Frag}{st:aK}(_:Fb K x q ps st f fd)(P:cQ)(w:cD)(mg:Str→Option aA)(base:bU)(l:Nat)(sp:Sp):Prop:=fC P w K mg base jE l f fd ps sp
theorem Fb.go{P:cQ}{w:cD}{K:PySem.W.Frag}{mg:Str→Option aA}{base:bU}{x qual:Str}{st:aK}{f:ae}{fd:aM}{N ps:List Str}{k:Nat}{sp:Sp}(F:Fb K x qual ps st f fd)(S:aN N ps (aG st))
  (xQ:∀(dy:aA) (A:eB) (outer:List Env) (s:aS) (H:Hp) (vs:List V) (Q:VK) (E:XK),eC k (A.deeper (oH qual (aG st) s.heap.objs.size f dy))→sp vs H Q E→
   ∃t,jy (aO jE P w K mg base N qual (aG st) f dy A outer s H E).aQ (oS st) t∧t {nx:=fun _ H'=>Q .aC H',rt:=Q} (start N vs) H)
  (len:∀vs H Q E,sp vs H Q E→vs.length=ps.length:=by intro vs H Q E h;first|(cases h;subst_vars;rfl)|repeat (first|(obtain⟨rfl,_⟩:=h;rfl)|obtain⟨_,h⟩:=h)):fC P w K mg base jE (k+1) f fd ps sp:=F.ok S len xQ
theorem ag{K:PySem.W.Frag}(h:H a=some (.ins C dx fs))(c:bg K C∧bQ K C g)(e:fs.lookup g=some v)(k:Q v H):EF K g (.ref a) H Q:=⟨a,C,dx,fs,v,rfl,h,c.1,c.2,e,k⟩
theorem aN.by(h:(decide (sc.kind=.function)&&(!sc.isCoroutine&&(!sc.isGenerator&&(decide N.Nodup&&(decide (N.take P.length=P)&&(P.all (fun x=>decide (sc.names.lookup x=some .local)||decide (sc.names.lookup x=some .cell))&&sc.names.all (fun y=>decide (y.2≠.free))))))))=true):aN N P sc:=by
 simp only[dA,decide_eq_true_eq,h8,jC,mC]at h;exact⟨h.1,h.2.1,h.2.2.1,h.2.2.2.1,h.2.2.2.2.1,h.2.2.2.2.2.1,h.2.2.2.2.2.2⟩
section
variable {X:Cx}{e e2 e3 e4:aY}{te t2 t3 t4:TE}{x f:Str}{p pos:Pos}{v:V}
theorem aF(a:PE X e te)(h:bo [e] X.env=(false,eval e X.env)::bo [] X.env:=by rfl):PA X [e] (j1 te nh):=gh a gA h
theorem aX(a:PE X e te)(b:PE X e2 t2)(h:bo [e,e2] X.env=(false,eval e X.env)::bo [e2] X.env:=by rfl)(h2:bo [e2] X.env=(false,eval e2 X.env)::bo [] X.env:=by rfl):PA X [e,e2] (j1 te (j1 t2 nh)):=gh a (aF b h2) h
theorem cS(a:PE X e te)(b:PE X e2 t2)(c:PE X e3 t3)(h:bo [e,e2,e3] X.env=(false,eval e X.env)::bo [e2,e3] X.env:=by rfl)(h2:bo [e2,e3] X.env=(false,eval e2 X.env)::bo [e3] X.env:=by rfl)(h3:bo [e3] X.env=(false,eval e3 X.env)::bo [] X.env:=by rfl):PA X [e,e2,e3] (j1 te (j1 t2 (j1 t3 nh))):=gh a (aX b c h2 h3) h
theorem c8(a:PE X e te)(b:PE X e2 t2)(c:PE X e3 t3)(d:PE X e4 t4)(h:bo [e,e2,e3,e4] X.env=(false,eval e X.env)::bo [e2,e3,e4] X.env:=by rfl)(h2:bo [e2,e3,e4] X.env=(false,eval e2 X.env)::bo [e3,e4] X.env:=by rfl)(h3:bo [e3,e4] X.env=(false,eval e3 X.env)::bo [e4] X.env:=by rfl)(h4:bo [e4] X.env=(false,eval e4 X.env)::bo [] X.env:=by rfl):PA X [e,e2,e3,e4] (j1 te (j1 t2 (j1 t3 (j1 t4 nh)))):=gh a (cS b c d h2 h3 h4) h
theorem aj(i:Nat)(hN:X.N[i]?=some x:=by rfl)(hv:p5 X.env.scope x:=by first|exact j7 rfl|exact iO (j7 rfl)|exact iO (iO rfl))(hd:(x==("__debug__":Str))=false:=by decide)(gw:(x==("__classdict__":Str))=false:=by decide)(hb:oG (.Name x p) f X.env (eval (.Name x p) X.env)=eval (.Name x p) X.env:=by rfl):PE X (.Attribute (.Name x p) f pos) (AO X.K (AA i) f):=iw (pv i hN hv hd gw) hb
end
theorem bD{K:PySem.W.Frag}{H:Hp}{a C dx:ae}{fs:List (Str×V)}{g:Str}{Q:ae→ae→ae→List (Str×V)→Prop}(h:H a=some (.ins C dx fs))(c:bg K C∧bQ K C g)(k:Q a C dx fs)(l:decide (fs.length<1000)=true:=by rfl):∃a' C' Oe xo,V.ref a=.ref a'∧H a'=some (.ins C' Oe xo)∧bg K C'∧bQ K C' g∧xo.length<1000∧Q a' C' Oe xo:=⟨a,C,dx,fs,rfl,h,c.1,c.2,of_decide_eq_true l,k⟩
open PySem.W (WData Codec OpenSpec Well WellAll ReadsW ReadsAllW)
mutual
inductive Dw(K:PySem.W.Frag)(H:Hp):V→WData→Prop
 |aC:Dw K H .aC .none
 |bl (b:Bool):Dw K H (.bl b) (.bool b)
 |int (i:Int):Dw K H (.int i) (.int i)
 |str (x:Str):Dw K H (.str x) (.str x)
 |iY (b:Array UInt8):Dw K H (.iY b) (.bytes b.toList)
 |lst {a:ae}{xs:List V}{ds:List WData}:ai K H a xs→lK K H xs ds→Dw K H (.ref a) (.list ds)
 |tup {a:ae}{xs:List V}{ds:List WData}:bV K H a xs→lK K H xs ds→Dw K H (.ref a) (.tuple ds)
inductive lK(K:PySem.W.Frag)(H:Hp):List V→List WData→Prop
 |nil:lK K H [] []
 |cons {v:V}{vs:List V}{d:WData}{ds:List WData}:Dw K H v d→lK K H vs ds→lK K H (v::vs) (d::ds)
end
theorem Of{K:PySem.W.Frag}:∀ns:List Int,lK K H (ns.map V.int) (ns.map WData.int)
 |[]=>.nil
 |n::r=>.cons (.int n) (Of r)
theorem Og{K:PySem.W.Frag}:∀(ns:List Int) xs,lK K H xs (ns.map WData.int)→xs=ns.map V.int
 |[],xs,h=>by
  cases h;rfl
 |n::r,xs,h=>by
  cases h with
  |cons h1 h2=>
   cases h1;rw[Og r _ h2]<;>rfl
section
variable {P:cQ}{w:cD}{K:PySem.W.Frag}{H:Hp}{h:bU}{R:PySem.W.WRecords}{cl:Str→Option ae}
theorem adH(aU:dr P w H h)(KX:K.In h)(q:ai K H a xs):∃(au:List aA) (o:Obj) (n:Nat),a7 xs au∧h.get? a=some o∧o.cls=.type "list"∧o.data=.seq au.toArray n:=by
 rcases q with q|⟨o,au,n,e,hc,_,hd,_,hv⟩
 ·obtain⟨_,au,n,hv,e⟩:=(show eN P w H h a (.lst xs)from q.ok aU)
  exact⟨au,_,n,hv,e,rfl,rfl⟩
 ·exact⟨au.toList,o,n,hv,KX _ _ e,hc,by simp[hd]⟩
theorem adI(aU:dr P w H h)(KX:K.In h)(q:bV K H a xs):∃(au:List aA) (o:Obj) (n:Nat),a7 xs au∧h.get? a=some o∧o.cls=.type "tuple"∧o.data=.seq au.toArray n:=by
 rcases q with q|⟨o,au,n,e,hc,hd,_,hv⟩
 ·obtain⟨_,au,hv,o,e,hc,n,hd⟩:=(show eN P w H h a (.tup xs)from q.ok aU)
  exact⟨au,o,n,hv,e,hc,hd⟩
 ·exact⟨au.toList,o,n,hv,KX _ _ e,hc,by simp[hd]⟩
mutual
theorem Dw.reads(aU:dr P w H h)(KX:K.In h):∀d v u,Dw K H v d→RelV v u→∃as,ReadsW R cl h u d as
 | .none,_,_,x,r=>by
  cases x;cases r;exact⟨_,ReadsW.none⟩
 | .bool b,_,_,x,r=>by
  cases x;cases r;exact⟨_,ReadsW.bool b⟩
 | .int i,_,_,x,r=>by
  cases x;obtain⟨t,rfl⟩:=r;exact⟨_,ReadsW.int i t⟩
 | .str s,_,_,x,r=>by
  cases x;obtain⟨t,rfl⟩:=r;exact⟨_,ReadsW.str s t⟩
 | .bytes b,_,_,x,r=>by
  cases x;obtain⟨t,rfl⟩:=r;exact⟨_,ReadsW.bytes _ t⟩
 | .list ds,_,_,x,r=>by
  cases x with
  |lst hs ha=>
   cases r;obtain⟨au,o,n,rv,ho,hc,hd⟩:=adH aU KX hs;obtain⟨as,hr⟩:=Dw.readsAll aU KX ds _ au ha rv;exact⟨_,ReadsW.list ho hc hd hr⟩
 | .tuple ds,_,_,x,r=>by
  cases x with
  |tup hs ha=>
   cases r;obtain⟨au,o,n,rv,ho,hc,hd⟩:=adI aU KX hs;obtain⟨as,hr⟩:=Dw.readsAll aU KX ds _ au ha rv;exact⟨_,ReadsW.tuple ho hc hd hr⟩
 | .float _,_,_,x,_=>by cases x
 | .dict _,_,_,x,_=>by cases x
 | .bytearray _,_,_,x,_=>by cases x
 | .set _,_,_,x,_=>by cases x
 | .frozenset _,_,_,x,_=>by cases x
 | .obj _ _,_,_,x,_=>by cases x
theorem Dw.readsAll(aU:dr P w H h)(KX:K.In h):∀ds vs us,lK K H vs ds→a7 vs us→∃as,ReadsAllW R cl h us ds as
 |[],_,_,x,r=>by
  cases x;cases r;exact⟨_,ReadsAllW.nil⟩
 |d::ds,_,_,x,r=>by
  cases x with
  |cons h1 h2=>
   cases r with
   |cons r1 r2=>
    obtain⟨as,q1⟩:=Dw.reads aU KX d _ _ h1 r1;obtain⟨bs,q2⟩:=Dw.readsAll aU KX ds _ _ h2 r2;exact⟨_,ReadsAllW.cons q1 q2⟩
end
end
mutual
def j8:WData→Bool
 | .none=>true
 | .bool _=>true
 | .int _=>true
 | .str _=>true
 | .bytes _=>true
 | .list xs=>lL xs
 | .tuple xs=>lL xs
 |_=>false
def lL:List WData→Bool
 |[]=>true
 |x::r=>j8 x&&lL r
end
theorem Oh{α:Type}{f:α→WData}(h:∀a,j8 (f a)=true):∀l:List α,lL (l.map f)=true
 |[]=>rfl
 |x::r=>by
  show(j8 (f x)&&lL (r.map f))=true;rw[h x,Oh h r]<;>rfl
theorem qD:∀(c:Codec) a,j8 (c.enc a)=true
 | .unit,_=>rfl
 | .bool,_=>rfl
 | .int _ _,_=>rfl
 | .nat _ _,_=>rfl
 | .u8,_=>rfl
 | .bytes _ _,_=>rfl
 | .text _ _ _ _,_=>rfl
 | .list _ _ c,a=>Oh (fun x=>qD c x) a
 | .pair c d,a=>by
  show(j8 (c.enc a.1)&&(j8 (d.enc a.2)&&true))=true;rw[qD c a.1,qD d a.2]<;>rfl
 | .triple c d e,a=>by
  show(j8 (c.enc a.1)&&(j8 (d.enc a.2.1)&&(j8 (e.enc a.2.2)&&true)))=true;rw[qD c a.1,qD d a.2.1,qD e a.2.2]<;>rfl
 | .option c,none=>rfl
 | .option c,some x=>qD c x
theorem Oi:∀cs a,lL (Codec.encAll cs a)=true
 |[],_=>rfl
 |c::cs,a=>by
  show(j8 (c.enc a.1)&&lL (Codec.encAll cs a.2))=true;rw[qD c a.1,Oi cs a.2]<;>rfl
theorem Gg:∀{xs}{d},d∈xs→d.weight≤WData.weightAll xs
 |[],d,h=>absurd h (by simp)
 |x::r,d,h=>by
  show d.weight≤x.weight+1+WData.weightAll r;rcases b_.mp h with e|m
  ·rw[e]
   lia
  ·have z:=Gg m
   lia
def toV:aA→V
 | .none=>.aC
 | .bool b=>.bl b
 | .int i _=>.int i
 | .str x _=>.str x
 | .bytes b _=>.iY b
 | .ref a=>.ref a
 |_=>.aC
def kS(A:List ae):aA→Prop
 | .none=>True
 | .bool _=>True
 | .int _ _=>True
 | .str _ _=>True
 | .bytes _ _=>True
 | .ref a=>a∈A
 |_=>False
theorem kS.mono(h:∀a∈A,a∈B):∀{u},kS A u→kS B u:=fun{u} x=>by
 cases u with
 |ref a=>exact h a x
 |none=>trivial
 |bool b=>trivial
 |int i t=>trivial
 |str s t=>trivial
 |bytes b t=>trivial
 |_=>exact iZ x
theorem adJ(x:kS A u):RelV (toV u) u:=by
 cases u with
 |ref a=>rfl
 |none=>rfl
 |bool b=>rfl
 |int i t=>exact⟨t,rfl⟩
 |str s t=>exact⟨t,rfl⟩
 |bytes b t=>exact⟨t,rfl⟩
 |_=>exact iZ x
theorem v_:∀{vs},(∀u∈vs,kS A u)→a7 (vs.map toV) vs
 |[],_=>.nil
 |u::r,h=>.cons (adJ (h u (cI ..))) (v_ fun x hx=>h x (c_ _ hx))
def lM(h:bU)(A:List ae)(a:ae):Prop:=∃vs:List aA,vs.length≤bf∧(∀u∈vs,kS A u)∧
 (h.get? a=some {cls:=.type "list",data:=.seq vs.toArray}∨h.get? a=some {cls:=.type "tuple",data:=.seq vs.toArray})
theorem lM.mono(k:∀a∈A,a∈B)(x:lM h A a):lM h B a:=by
 obtain⟨vs,h1,h2,h3⟩:=x;exact⟨vs,h1,fun u hu=>(h2 u hu).mono k,h3⟩
theorem Bk:∀{vs}{ds},WellAll P h vs ds→vs.length=ds.length
 |_,_,.nil=>rfl
 |_,_,.cons _ b=>by
  show _+1=_+1;rw[Bk b]
theorem Oj(x:Well P h v (.list ds)):∃(a:ae) (vs:List aA),v=.ref a∧h.get? a=some {cls:=.type "list",data:=.seq vs.toArray}∧WellAll P h vs ds:=by
 cases x with
 |list ho d7=>exact⟨_,_,rfl,ho,d7⟩
theorem Ol(x:Well P h v (.tuple ds)):∃(a:ae) (vs:List aA),v=.ref a∧h.get? a=some {cls:=.type "tuple",data:=.seq vs.toArray}∧WellAll P h vs ds:=by
 cases x with
 |tuple ho d7=>exact⟨_,_,rfl,ho,d7⟩
theorem Om(x:WellAll P h us (d::ds)):∃(v:aA) (vs:List aA),us=v::vs∧Well P h v d∧WellAll P h vs ds:=by
 cases x with
 |cons a b=>exact⟨_,_,rfl,a,b⟩
theorem Oo(h:n≤1048576):n≤bf:=dU h (by decide)
section
variable {P:Params}{h:bU}
mutual
theorem adK:∀d v,Well P h v d→j8 d=true→d.weight≤1048576→∃A:List ae,kS A v∧∀a∈A,lM h A a
 | .none,_,x,_,_=>by
  cases x;exact⟨[],trivial,fun a m=>absurd m (by simp)⟩
 | .bool b,_,x,_,_=>by
  cases x;exact⟨[],trivial,fun a m=>absurd m (by simp)⟩
 | .int i,_,x,_,_=>by
  cases x;exact⟨[],trivial,fun a m=>absurd m (by simp)⟩
 | .str s,_,x,_,_=>by
  cases x;exact⟨[],trivial,fun a m=>absurd m (by simp)⟩
 | .bytes b,_,x,_,_=>by
  cases x;exact⟨[],trivial,fun a m=>absurd m (by simp)⟩
 | .list ds,_,x,p,z=>by
  obtain⟨a,vs,rfl,ho,d7⟩:=Oj x;have z2:WData.weightAll ds≤1048576:=z;obtain⟨A,h1,h2⟩:=Bl ds _ d7 p fun d hd=>dU (Gg hd) z2;have k:∀b∈A,b∈a::A:=fun b hb=>c_ _ hb;refine⟨a::A,cI ..,fun b hb=>?_⟩;rcases b_.mp hb with e|m
  ·rw[e];exact⟨vs,Oo (by rw[Bk d7];exact dU (PySem.W.length_le_weightAllW ds) z2),fun u hu=>(h1 u hu).mono k,.inl ho⟩
  ·exact(h2 b m).mono k
 | .tuple ds,_,x,p,z=>by
  obtain⟨a,vs,rfl,ho,d7⟩:=Ol x;have z2:WData.weightAll ds≤1048576:=z;obtain⟨A,h1,h2⟩:=Bl ds _ d7 p fun d hd=>dU (Gg hd) z2;have k:∀b∈A,b∈a::A:=fun b hb=>c_ _ hb;refine⟨a::A,cI ..,fun b hb=>?_⟩;rcases b_.mp hb with e|m
  ·rw[e];exact⟨vs,Oo (by rw[Bk d7];exact dU (PySem.W.length_le_weightAllW ds) z2),fun u hu=>(h1 u hu).mono k,.inr ho⟩
  ·exact(h2 b m).mono k
 | .float _,_,_,p,_=>lN (show false=true from p)
 | .dict _,_,_,p,_=>lN (show false=true from p)
 | .bytearray _,_,_,p,_=>lN (show false=true from p)
 | .set _,_,_,p,_=>lN (show false=true from p)
 | .frozenset _,_,_,p,_=>lN (show false=true from p)
 | .obj _ _,_,_,p,_=>lN (show false=true from p)
theorem Bl:∀ds vs,WellAll P h vs ds→lL ds=true→(∀d∈ds,d.weight≤1048576)→∃A:List ae,(∀u∈vs,kS A u)∧∀a∈A,lM h A a
 |[],_,x,_,_=>by
  cases x;exact⟨[],fun u m=>absurd m (by simp),fun a m=>absurd m (by simp)⟩
 |d::ds,_,x,p,z=>by
  obtain⟨v,vs,rfl,x1,x2⟩:=Om x;have q:j8 d=true∧lL ds=true:=adL.mp p;obtain⟨A,a1,a2⟩:=adK d v x1 q.1 (z d (cI ..));obtain⟨B,b1,b2⟩:=Bl ds vs x2 q.2 fun e he=>z e (c_ _ he);have kA:∀b∈A,b∈A++B:=fun b hb=>e_.mpr (.inl hb);have kB:∀b∈B,b∈A++B:=fun b hb=>e_.mpr (.inr hb);refine⟨A++B,fun u hu=>?_,fun b hb=>?_⟩
  ·rcases b_.mp hu with e|m
   ·rw[e];exact a1.mono kA
   ·exact(b1 u m).mono kB
  ·rcases e_.mp hb with m|m
   ·exact(a2 b m).mono kA
   ·exact(b2 b m).mono kB
end
end
def Bm(o:Obj):Option HO:=match o.data with
 | .seq vs _=>if(o.cls==rS "list")=true then some (.bE o (.lst (vs.toList.map toV)))else some (.bE o (.tup (vs.toList.map toV)))
 |_=>none
def h9(K:PySem.W.Frag)(h:bU)(A:List ae):Hp:=fun b=>if b∈A then(if(K.lookup b).isNone=true then(h.get? b).bind Bm else none)else none
def yt(H:Hp):Prop:=∀b,H b=none∨∃o u,H b=some (.bE o u)
theorem Oq(vs:List aA):Bm {cls:=.type "list",data:=.seq vs.toArray}=some (.bE {cls:=.type "list",data:=.seq vs.toArray} (.lst (vs.map toV))):=by
 show(if(rS "list"==rS "list")=true then some (HO.bE {cls:=.type "list",data:=.seq vs.toArray} (.lst (vs.toArray.toList.map toV)))else some (HO.bE {cls:=.type "list",data:=.seq vs.toArray} (.tup (vs.toArray.toList.map toV))))=_;rw[if_pos (beq_self_eq_true _)]
theorem Ot(vs:List aA):Bm {cls:=.type "tuple",data:=.seq vs.toArray}=some (.bE {cls:=.type "tuple",data:=.seq vs.toArray} (.tup (vs.map toV))):=by
 show(if(rS "tuple"==rS "list")=true then some (HO.bE {cls:=.type "tuple",data:=.seq vs.toArray} (.lst (vs.toArray.toList.map toV)))else some (HO.bE {cls:=.type "tuple",data:=.seq vs.toArray} (.tup (vs.toArray.toList.map toV))))=_;rw[if_neg (by decide)]
section
variable {P:cQ}{w:cD}{K:PySem.W.Frag}{h:bU}{A:List ae}
theorem Bn(hb:b∈A)(hk:K.lookup b=none)(e:h.get? b=some o):h9 K h A b=Bm o:=by
 unfold h9;rw[if_pos hb,hk,if_pos (show(none:Option Obj).isNone=true from rfl),e]<;>rfl
theorem adM(q:h9 K h A b=some u):b∈A∧K.lookup b=none:=by
 unfold h9 at q;by_cases hb:b∈A
 ·rw[if_pos hb]at q;cases hk:K.lookup b with
  |none=>exact⟨hb,rfl⟩
  |some o=>
   rw[hk,if_neg (by simp)]at q;cases q
 ·rw[if_neg hb]at q;cases q
theorem Bo(ar:∀a∈A,lM h A a)(q:h9 K h A b=some u):K.lookup b=none∧∃vs:List aA,vs.length≤bf∧(∀u∈vs,kS A u)∧
  ((h.get? b=some {cls:=.type "list",data:=.seq vs.toArray}∧u=.bE {cls:=.type "list",data:=.seq vs.toArray} (.lst (vs.map toV)))∨
   (h.get? b=some {cls:=.type "tuple",data:=.seq vs.toArray}∧u=.bE {cls:=.type "tuple",data:=.seq vs.toArray} (.tup (vs.map toV)))):=by
 obtain⟨hb,hk⟩:=adM q;obtain⟨vs,h1,h2,h3⟩:=ar b hb;refine⟨hk,vs,h1,h2,?_⟩;rcases h3 with e|e
 ·rw[Bn hb hk e,Oq]at q;exact .inl ⟨e,(bS q).symm⟩
 ·rw[Bn hb hk e,Ot]at q;exact .inr ⟨e,(bS q).symm⟩
theorem adN(ar:∀a∈A,lM h A a):yt (h9 K h A):=fun b=>by
 cases q:h9 K h A b with
 |none=>exact .inl rfl
 |some u=>
  obtain⟨_,vs,_,_,⟨_,e⟩|⟨_,e⟩⟩:=Bo ar q
  ·exact .inr ⟨_,_,by rw[e]⟩
  ·exact .inr ⟨_,_,by rw[e]⟩
theorem adO(ar:∀a∈A,lM h A a):dr P w (h9 K h A) h:=fun b u q=>by
 obtain⟨_,vs,h1,h2,⟨e,rfl⟩|⟨e,rfl⟩⟩:=Bo ar q
 ·exact⟨e,by rw[aB];exact h1,vs,_,v_ h2,e⟩
 ·exact⟨e,by rw[aB];exact h1,vs,v_ h2,_,e,rfl,_,rfl⟩
theorem Bp{vs us:List aA}(e:(some {cls:=c,data:=.seq vs.toArray}:Option Obj)=some {cls:=c',data:=.seq us.toArray}):c=c'∧vs=us:=by
 have e1:=bS e;have e2:c=c':=congrArg Obj.cls e1;have e3:Gh vs.toArray=Gh us.toArray:=congrArg Obj.data e1;injection e3 with e4;refine⟨e2,?_⟩;have e5:=congrArg Lm e4;simpa using e5
theorem adP(KX:K.In h)(ar:∀a∈A,lM h A a){vs:List aA}(ha:a∈A)(e:h.get? a=some {cls:=.type "list",data:=.seq vs.toArray}):(∀u∈vs,kS A u)∧ai K (h9 K h A) a (vs.map toV):=by
 obtain⟨us,h1,h2,h3⟩:=ar a ha;have hu:us=vs:=by
  rcases h3 with q|q
  ·rw[e]at q;exact(Bp q).2.symm
  ·rw[e]at q;exact absurd (adQ (Bp q).1) (by decide)
 subst hu;refine⟨h2,?_⟩;cases hk:K.lookup a with
 |none=>exact .inl (.inr ⟨_,by rw[Bn ha hk e,Oq]⟩)
 |some o=>
  have e2:=KX a o hk;rw[e]at e2;obtain rfl:=bS e2;exact .inr ⟨_,us.toArray,_,hk,rfl,rfl,rfl,by rw[c7];exact h1,by simpa using v_ h2⟩
theorem adR(KX:K.In h)(ar:∀a∈A,lM h A a){vs:List aA}(ha:a∈A)(e:h.get? a=some {cls:=.type "tuple",data:=.seq vs.toArray}):(∀u∈vs,kS A u)∧bV K (h9 K h A) a (vs.map toV):=by
 obtain⟨us,h1,h2,h3⟩:=ar a ha;have hu:us=vs:=by
  rcases h3 with q|q
  ·rw[e]at q;exact absurd (adQ (Bp q).1) (by decide)
  ·rw[e]at q;exact(Bp q).2.symm
 subst hu;refine⟨h2,?_⟩;cases hk:K.lookup a with
 |none=>exact .inl (.inr ⟨_,by rw[Bn ha hk e,Ot]⟩)
 |some o=>
  have e2:=KX a o hk;rw[e]at e2;obtain rfl:=bS e2;exact .inr ⟨_,us.toArray,_,hk,rfl,rfl,by rw[c7];exact h1,by simpa using v_ h2⟩
mutual
theorem adS(KX:K.In h)(ar:∀a∈A,lM h A a):∀d v,Well Pm h v d→j8 d=true→kS A v→Dw K (h9 K h A) (toV v) d
 | .none,_,x,_,_=>by
  cases x;exact .aC
 | .bool b,_,x,_,_=>by
  cases x;exact .bl b
 | .int i,_,x,_,_=>by
  cases x;exact .int i
 | .str s,_,x,_,_=>by
  cases x;exact .str s
 | .bytes b,_,x,_,_=>by
  cases x;have z:=Dw.iY (K:=K) (H:=h9 K h A) b.toArray;exact z
 | .list ds,_,x,p,hu=>by
  obtain⟨a,vs,rfl,ho,d7⟩:=Oj x;obtain⟨h2,hs⟩:=adP KX ar hu ho;exact .lst hs (Bq KX ar ds _ d7 p h2)
 | .tuple ds,_,x,p,hu=>by
  obtain⟨a,vs,rfl,ho,d7⟩:=Ol x;obtain⟨h2,hs⟩:=adR KX ar hu ho;exact .tup hs (Bq KX ar ds _ d7 p h2)
 | .float _,_,_,p,_=>lN (show false=true from p)
 | .dict _,_,_,p,_=>lN (show false=true from p)
 | .bytearray _,_,_,p,_=>lN (show false=true from p)
 | .set _,_,_,p,_=>lN (show false=true from p)
 | .frozenset _,_,_,p,_=>lN (show false=true from p)
 | .obj _ _,_,_,p,_=>lN (show false=true from p)
theorem Bq(KX:K.In h)(ar:∀a∈A,lM h A a):∀ds vs,WellAll Pm h vs ds→lL ds=true→(∀u∈vs,kS A u)→lK K (h9 K h A) (vs.map toV) ds
 |[],_,x,_,_=>by
  cases x;exact .nil
 |d::ds,_,x,p,hu=>by
  obtain⟨v,vs,rfl,x1,x2⟩:=Om x;have q:j8 d=true∧lL ds=true:=adL.mp p;exact .cons (adS KX ar d v x1 q.1 (hu _ (cI ..))) (Bq KX ar ds vs x2 q.2 fun u m=>hu u (c_ _ m))
end
end
theorem adT{K:PySem.W.Frag}
  (KX:K.In s₁.heap) (Ou:s₁.heap.Ns jT mg) (hb:s₁.heap.Ns K_ mb) (oT:∀x:Str,x≠"__name__"→mb x=uU x) (adU:s₁.heap.NoLimit) (hg:s₁.gens= #[])
  (tE:WellAll w.params s₁.heap vals ds) (df:lL ds=true) (hwt:∀d∈ds,d.weight≤1048576) (hr:eC k yu)
  (F:∀base:bU,K.In base→base.Ns jT mg→fC P w K mg base CX k fa fd ps sp) (adW:∀s us,us.length=ps.length→xO s fd ⟨us,[]⟩ (ps.zip us)) (hlen:ds.length=ps.length)
  (nj:∀H xs,yt H→lK K H xs ds→sp xs H (fun v H'=>Dw K H' v d0) fun _ _ _=>False)
  (yw:∀H e s',CX [] H s₁ (fun _ _ _=>False) e s'→False):
  vj (aP P w) yu (.call (.ref fa) ⟨vals,[]⟩) (fun r s'=>∃u as,r=.ok (.ret u)∧ReadsW R cl s'.heap u d0 as∧OldK s₁.heap s'.heap∧s'.os=s₁.os∧uV s'.gens) s₁:=by
 obtain⟨A,ho,ar⟩:=Bl ds vals tE df hwt;have hO:yt (h9 K s₁.heap A):=adN ar;have aU:dr P w (h9 K s₁.heap A) s₁.heap:=adO ar;have hS:=Bq KX ar ds vals tE df ho;have hV:=v_ ho;have hK:∀b u,h9 K s₁.heap A b=some u→K.lookup b=none:=fun b u q=>(Bo ar q).1;have vn:∀{b:ae}{o:Obj}{es:Array sT}{ep:Nat},s₁.heap.get? b=some o→o.data=.dict es ep→h9 K s₁.heap A b=none:=fun{b o es ep} e d=>by
  cases q:h9 K s₁.heap A b with
  |none=>rfl
  |some u=>
   obtain⟨_,vs,_,_,⟨e2,_⟩|⟨e2,_⟩⟩:=Bo ar q
   ·rw[e2]at e;cases e;have d':Gh vs.toArray _=adX es ep:=d;cases d'
   ·rw[e2]at e;cases e;have d':Gh vs.toArray _=adX es ep:=d;cases d'
 generalize h9 K s₁.heap A=H at hO aU hS hK vn;have Ov:∀{b:ae}{o:Obj},s₁.heap.get? b=some o→H b=none→(ox s₁.heap H).get? b=some o:=fun e n=>Yb e n;have Br:∀{b:ae}{m:Str→Option aA},s₁.heap.Ns b m→(ox s₁.heap H).Ns b m:=fun{b m} ⟨o,es,ep,e,d,r⟩=>⟨o,es,ep,Ov e (vn e d),d,r⟩
 have nK:∀b o,K.lookup b=some o→H b=none:=fun b o e=>by
  cases q:H b with
  |none=>rfl
  |some u=>
   rw[hK b u q]at e;cases e
 have Ow:K.In (ox s₁.heap H):=fun b o e=>Ov (KX b o e) (nK b o e);have hM:Mod K mg (ox s₁.heap H):=⟨Ow,Br Ou,⟨mb,Br hb,oT⟩,let ⟨mc,h1,h2⟩:=adU;⟨mc,Br h1,h2⟩⟩
 have e0:sA P w K mg (ox s₁.heap H) yu [] s₁ H:=⟨rfl,hM,fun b o e=>Yc e,ED (Ya _ _),trivial,fun b hb=>absurd (show b∈([]:List ae)from hb) (by simp),aU,.of_eq hg⟩
 have hl:vals.length=ps.length:=by rw[Bk tE];exact hlen
 refine EK ((F _ Ow (Br Ou)).run yu [] s₁ H ⟨vals,[]⟩ vals (vals.map toV) _ _ hr e0 (adW s₁ vals hl) hV (nj H _ hO hS)) fun r s' x=>?_;cases r with
 |error e=>exact(yw H e s' x).elim
 |ok fl=>
  cases fl with
  |next=>exact iZ x
  |brk=>exact iZ x
  |cont=>exact iZ x
  |ret u=>
   obtain⟨v,H',os,bare,un,Ox,r',q⟩:=x;have kept:∀b o,s₁.heap.get? b=some o→s'.heap.get? b=some o:=fun b o e=>by
    cases q2:H b with
    |none=>exact un.keep b o e q2 (by intro z;exact absurd (show b∈([]:List ae)from z) (by simp)) (by simp)
    |some u2=>
     rcases hO b with z|⟨ob,u3,z⟩
     ·rw[q2]at z;cases z
     ·have z2:=un.mi b ob _ z;obtain⟨e1,_⟩:=aU b _ z;obtain⟨e2,_⟩:=Ox b _ z2;rw[e]at e1;cases e1;exact e2
   have KX':K.In s'.heap:=fun b o e=>kept b o (KX b o e);obtain⟨as,Oy⟩:=Dw.reads (R:=R) (cl:=cl) Ox KX' d0 v u q r';exact⟨u,as,rfl,Oy,OldK.of_keep kept,os,bare⟩
theorem adZ(h:WData.layableAll ds=true):∀d∈ds,d.weight≤1048576:=fun d hd=>
 (PySem.W.layableW_iff.mp (jC.mp h d hd)).2.2
theorem Oz:∀cs a,(Codec.encAll cs a).length=cs.length
 |[],_=>rfl
 |c::cs,a=>by
  show(Codec.encAll cs a.2).length+1=cs.length+1;rw[Oz cs a.2]
theorem ad0{K:Params→PySem.W.Frag}{CX:cD→ni}{sp:cD→Sp}
  (Gi:r.wellSaid=true) (OA:d.params.defaults=[]) (hlen:r.args.length=ps.length) (hr:eC k yu)
  (hY:∀w h,YP w h→(K w.params).In h)
  (F:∀w mg fa h,YP w h→(K w.params).In h→h.Ns jT mg→mg d.name=some (.ref fa)→
   ∃fd:aM,(∀s us,us.length=ps.length→xO s fd ⟨us,[]⟩ (ps.zip us))∧
    ∀base:bU,(K w.params).In base→base.Ns jT mg→fC r.prog w (K w.params) mg base (CX w) k fa fd ps (sp w))
  (nj:∀w H xs a,yt H→Codec.withinAll r.args a=true→Codec.app r.args r.asked a=true→lK (K w.params) H xs (Codec.encAll r.args a)→
   sp w xs H (fun v H'=>Dw (K w.params) H' v (r.ret.enc (Codec.app r.args r.f a))) fun _ _ _=>False)
  (yw:∀w H s e s',CX w [] H s (fun _ _ _=>False) e s'→False):
  PySem.W.WalkOS q loose XP YP r d [] (fun f vs=>PySem.call f vs):=by
 intro w s_0 s₁ mg mb G Y fa o pm cd doc dV kV ho hd gw hD Gj hg args vals as ad1 ad2 Oy tE h_;obtain⟨a,e1,e2⟩:=PySem.W.os_pre_some ad1;obtain⟨e3,tF⟩:=Codec.encAll_of_decAll r.args args a e1;subst e3;have KX:=hY w _ Y;obtain⟨fd,hb,hF⟩:=F w mg fa _ Y KX G.T.g Gj;refine PySem.W.enter_call (EK (adT (R:=[]) (cl:=classAt s_0.heap) (d0:=r.ret.enc (Codec.app r.args r.f a)) KX G.T.g G.T.b G.T.builtins G.T.nolimit hg tE (Oi _ _) (adZ ad2) hr hF hb (by rw[Oz];exact hlen)
  (fun H xs hO hS=>nj w H xs a hO tF e2 hS) fun H e s'=>yw w H s₁ e s') fun r' s' hq=>?_)
 obtain⟨u,j9,rfl,h1,h2,h3,h4⟩:=hq;exact⟨.inl ⟨u,_,j9,rfl,fun _=>rfl,h1,(OpenSpec.post_iff Gi tF _ _).mpr rfl,fun z=>lN (show false=true from z)⟩,h2,h3,h4⟩
theorem ad3{K:Params→PySem.W.Frag}{sp:PySem.W.Frag→Sp}
  (Gi:r.wellSaid=true) (OA:d.params.defaults=[]) (hlen:r.args.length=ps.length) (hr:eC k yu)
  (hY:∀w h,YP w h→(K w.params).In h)
  (F:∀w mg fa h,YP w h→(K w.params).In h→h.Ns jT mg→mg d.name=some (.ref fa)→
   ∃fd:aM,(∀s us,us.length=ps.length→xO s fd ⟨us,[]⟩ (ps.zip us))∧
    ∀base:bU,(K w.params).In base→base.Ns jT mg→fC r.prog w (K w.params) mg base CX k fa fd ps (sp (K w.params)))
  (nj:∀K H xs a,yt H→Codec.withinAll r.args a=true→Codec.app r.args r.asked a=true→lK K H xs (Codec.encAll r.args a)→
   sp K xs H (fun v H'=>Dw K H' v (r.ret.enc (Codec.app r.args r.f a))) fun _ _ _=>False)
  (yw:∀H s e s',CX [] H s (fun _ _ _=>False) e s'→False):
  PySem.W.WalkOS q loose XP YP r d [] (fun f vs=>PySem.call f vs):=
 ad0 (K:=K) (CX:=fun _=>CX) (sp:=fun w=>sp (K w.params)) Gi OA hlen hr hY F (fun w H xs a h1 h2 h3 h4=>nj (K w.params) H xs a h1 h2 h3 h4) fun _ H s e s'=>yw H s e s'
end L2
namespace M
open Vbexab
def dM(a:Need)(v:Nat):Prop:=∃m,a=some m∧m≤v
theorem jH:¬dM none v:=fun⟨_,e,_⟩=>by cases e
theorem fu:dM (some m) v↔m≤v:=⟨fun⟨_,e,h⟩=>by cases e;exact h,fun h=>⟨m,rfl,h⟩⟩
theorem ad4(h:dM a v)(e:v≤u):dM a u:=let ⟨m,q,r⟩:=h;⟨m,q,dU r e⟩
theorem OB(h:∀v,dM a v↔dM b v):a=b:=by
 cases a with
 |none=>
  cases b with
  |none=>rfl
  |some n=>exact absurd ((h n).mpr (fu.mpr (a9 _))) jH
 |some m=>
  cases b with
  |none=>exact absurd ((h m).mp (fu.mpr (a9 _))) jH
  |some n=>
   have h1:=fu.mp ((h m).mp (fu.mpr (a9 _)));have h2:=fu.mp ((h n).mpr (fu.mpr (a9 _)));exact congrArg some (ad5 h2 h1)
theorem ad6:dM (lesser a b) v↔dM a v∨dM b v:=by
 cases a with
 |none=>
  have e:lesser none b=b:=by cases b <;>rfl
  rw[e];exact⟨.inr,fun h=>h.elim (fun z=>absurd z jH) id⟩
 |some m=>
  cases b with
  |none=>exact⟨.inl,fun h=>h.elim id fun z=>absurd z jH⟩
  |some n=>
   show dM (some (min m n)) v↔_;rw[fu,fu,fu]
   lia
theorem Gk{α:Type}(f:α→Need)v:∀(L:List α) x,dM (L.foldl (fun y a=>lesser y (f a)) x) v↔dM x v∨∃a∈L,dM (f a) v
 |[],x=>by simp
 |a::L,x=>by
  rw[nv,Gk f v L,ad6];constructor
  ·rintro((h|h)|⟨b,hb,h⟩)
   ·exact .inl h
   ·exact .inr ⟨a,cI,h⟩
   ·exact .inr ⟨b,c_ _ hb,h⟩
  ·rintro(h|⟨b,hb,h⟩)
   ·exact .inl (.inl h)
   ·rcases b_.mp hb with rfl|hb
    ·exact .inl (.inr h)
    ·exact .inr ⟨b,hb,h⟩
theorem OC{α:Type}(c:α→Nat)(f:α→Need)(v:Nat):∀(L:List α) (x:Need),
  dM (L.foldl (fun(x:Need) k=>match x,f k with|some m,some n=>some (max m (c k+n))|_,_=>none) x) v↔dM x v∧∀k∈L,∃n,f k=some n∧c k+n≤v
 |[],x=>by simp
 |a::L,x=>by
  rw[nv,OC c f v L];constructor
  ·rintro⟨h1,h2⟩;cases x with
   |none=>exact absurd h1 jH
   |some m=>
    cases e:f a with
    |none=>simp only[e]at h1;exact absurd h1 jH
    |some n=>
     simp only[e]at h1;have h3:=fu.mp h1;refine⟨fu.mpr (by lia),fun k hk=>?_⟩;rcases b_.mp hk with rfl|hk
     ·exact⟨n,e,by lia⟩
     ·exact h2 k hk
  ·rintro⟨h1,h2⟩;refine⟨?_,fun k hk=>h2 k (c_ _ hk)⟩;obtain⟨n,e,hn⟩:=h2 a cI;cases x with
   |none=>exact absurd h1 jH
   |some m=>
    have h3:=fu.mp h1;simp only[e];exact fu.mpr (by lia)
theorem Bs:dM (legNeed g b behind) v↔∀k,k≤extras g b→∃n,behind (b-k)=some n∧g.least+k+n≤v:=by
 unfold legNeed;refine Iff.trans (OC (fun k=>g.least+k) (fun k=>behind (b-k)) v (bP (extras g b+1)) (some 0)) ?_;constructor
 ·rintro⟨_,h⟩ k hk;exact h k (ip.mpr (by lia))
 ·intro h;refine⟨fu.mpr (bu _),fun k hk=>h k ?_⟩;have:=ip.mp hk
  lia
theorem OD:dM (before l t w) v↔dM w (min l.most (v+t)):=by
 cases w with
 |none=>exact⟨fun h=>absurd h jH,fun h=>absurd h jH⟩
 |some m=>
  rw[fu];show dM (if l.most<m then none else some (m-t)) v↔_;by_cases h:l.most<m
  ·rw[if_pos h];exact⟨fun z=>absurd z jH,fun z=>by lia⟩
  ·rw[if_neg h,fu]
   lia
theorem OE:dM (leaveNeed l p b behind) v↔∃g∈legsFrom l p,dM (legNeed g b fun c=>behind c g.b) v:=by
 unfold leaveNeed;rw[Gk (fun g=>legNeed g b fun c=>behind c g.b) v];exact⟨fun h=>h.elim (fun z=>absurd z jH) id,.inr⟩
structure yx(l:Land):Prop where
 places:0<l.places.length
 legs:∀g∈l.legs,1≤g.least∧g.least≤g.most∧g.a<l.places.length∧g.b<l.places.length
theorem Gm(ok:yx l)(h:g∈legsFrom l p):g∈l.legs∧g.a=p:=by
 unfold legsFrom at h;obtain⟨q,_,e⟩:=AJ.mp h;have h1:=Bt e;have h2:=Gn e;simp only[dA,beq_iff_eq]at h2;exact⟨h1,h2.1⟩
theorem yz(hp:p<l.places.length)(h0:p≠0)v:
  dM ((better l t done s b row).getD p none) v↔∃tk∈takings l p s,∃g∈legsFrom l p,∀k,k≤extras g b→
   ∃n,(if s-tk=s then(if b-k=b then row.getD g.b none else(done.getD (b-k) []).getD g.b none)else look t (s-tk) (b-k) g.b)=some n∧g.least+k+n≤min l.most (v+worth l tk):=by
 unfold better;rw[eS,cR,j_ hp];simp only[i_,Option.getD_some,if_neg h0];rw[Gk (fun taken=>before l (worth l taken) (leaveNeed l p b fun c q=>if s-taken=s then(if c=b then row.getD q none else(done.getD c []).getD q none)else look t (s-taken) c q)) v];constructor
 ·rintro(h|⟨tk,h1,h2⟩)
  ·exact absurd h jH
  ·rw[OD,OE]at h2;obtain⟨g,h3,h4⟩:=h2;rw[Bs]at h4;exact⟨tk,h1,g,h3,h4⟩
 ·rintro⟨tk,h1,g,h3,h4⟩;refine .inr ⟨tk,h1,?_⟩;rw[OD,OE];exact⟨g,h3,Bs.mpr h4⟩
theorem ad7:(better l t done s b row).length=l.places.length:=by
 unfold better;rw[aB,ia]
theorem yA(h:0<l.places.length):(better l t done s b row).getD 0 none=some 0:=by
 unfold better;rw[eS,cR,j_ h];rfl
def Le(l:Land)(A B:Row):Prop:=∀p,p<l.places.length→∀v,dM (A.getD p none) v→dM (B.getD p none) v
theorem Bu l:worth l 0=0:=by
 unfold worth members total;have e:(bP l.caches.length).filter (has 0)=[]:=by
  rw[List.filter_eq_nil_iff];intro a _;simp[has]
 rw[e];rfl
theorem Gp(h:tk∈takings l p s):tk≤s:=by
 unfold takings at h;obtain⟨h1,h2⟩:=rW.mp h;have h1:=ip.mp h1;unfold takes at h2;rw[jC]at h2;have e:tk&&& s=tk:=by
  apply Gq;intro i;rw[Bv];by_cases hi:i<max CACHES l.caches.length
  ·have q:=h2 i (ip.mpr hi);unfold has at q;cases a:tk.testBit i with
   |false=>simp
   |true=>
    rw[a]at q;simp only[OF,gE,dA]at q;rw[q.1];rfl
  ·have:tk.testBit i=false:=Bw (dG h1 (jc (by decide) (by lia)));rw[this];rfl
 rw[←e];exact tG
theorem ad8(ok:yx l)(h:Le l A B):Le l (better l t done s b A) (better l t done s b B):=by
 intro p hp v q;by_cases h0:p=0
 ·subst h0;rw[yA hp]at q ⊢;exact q
 ·rw[yz hp h0]at q ⊢;obtain⟨tk,h1,g,h2,h3⟩:=q;refine⟨tk,h1,g,h2,fun k hk=>?_⟩;obtain⟨n,e,hn⟩:=h3 k hk;by_cases c1:s-tk=s
  ·rw[if_pos c1]at e ⊢;by_cases c2:b-k=b
   ·rw[if_pos c2]at e ⊢;have hb:=(ok.legs g (Gm ok h2).1).2.2.2;obtain⟨m,e2,hm⟩:=h g.b hb n (by rw[e];exact fu.mpr (a9 _));exact⟨m,e2,by lia⟩
   ·rw[if_neg c2]at e ⊢;exact⟨n,e,hn⟩
  ·rw[if_neg c1]at e ⊢;exact⟨n,e,hn⟩
def below(l:Land)(N:Row)(v:Nat):Nat:=((bP l.places.length).filter fun q=>match N.getD q none with|some u=>decide (u<v)|none=>false).length
theorem filter_lt{α:Type}f g:∀(L:List α),(∀x∈L,f x=true→g x=true)→(∃x∈L,g x=true∧f x=false)→(L.filter f).length<(L.filter g).length
 |[],_,h=>by obtain⟨_,h,_⟩:=h;cases h
 |a::L,h1,h2=>by
  have le:∀M:List α,(∀x∈M,f x=true→g x=true)→(M.filter f).length≤(M.filter g).length:=by
   intro M;induction M with
   |nil=>intro _;exact a9 _
   |cons b M ih=>
    intro hm;have i1:=ih fun x hx=>hm x (c_ _ hx);rw[lO,lO];by_cases c:f b=true
    ·rw[if_pos c,if_pos (hm b cI c)];simp only[b6]
     lia
    ·rw[if_neg c];by_cases d:g b=true
     ·rw[if_pos d,b6];lia
     ·rw[if_neg d];exact i1
  have hr:∀x∈L,f x=true→g x=true:=fun x hx=>h1 x (c_ _ hx);obtain⟨x,hx,gx,fx⟩:=h2;rw[lO,lO];rcases b_.mp hx with rfl|hx
  ·rw[if_neg (by rw[fx];decide),if_pos gx,b6];have:=le L hr
   lia
  ·have ih:=filter_lt f g L hr ⟨x,hx,gx,fx⟩;by_cases c:f a=true
   ·rw[if_pos c,if_pos (h1 a cI c),b6,b6]
    lia
   ·rw[if_neg c];by_cases d:g a=true
    ·rw[if_pos d,b6];lia
    ·rw[if_neg d];exact ih
theorem ad9{N:Row}(hq:q<l.places.length)(e:N.getD q none=some u)(h:u<v):below l N u<below l N v:=by
 refine filter_lt _ _ _ (fun x _ hx=>?_) ⟨q,ip.mpr hq,?_,?_⟩
 ·cases ex:N.getD x none with
  |none=>simp only[ex]at hx;cases hx
  |some y=>
   simp only[ex,decide_eq_true_eq]at hx ⊢
   lia
 ·simp only[e,decide_eq_true_eq];exact h
 ·simp only[e,decide_eq_false_iff_not];lia
theorem ad_{N:Row}(hp:p<l.places.length)(e:N.getD p none=some v):below l N v<l.places.length:=by
 have h:=filter_lt (fun q=>match N.getD q none with|some u=>decide (u<v)|none=>false) (fun _=>true) (bP l.places.length) (fun _ _ _=>rfl) ⟨p,ip.mpr hp,rfl,by simp only[e,decide_eq_false_iff_not];lia⟩;have e2:((bP l.places.length).filter fun _=>true).length=l.places.length:=by
  rw[List.filter_eq_self.mpr (fun _ _=>rfl),ia]
 rw[e2]at h;exact h
theorem yB{α:Type}(f:α→α):∀n x,times f (n+1) x=f (times f n x)
 |0,x=>rfl
 |n+1,x=>by
  show times f (n+1) (f x)=f (times f n (f x));rw[yB f n (f x)]
def yC(l:Land):Row:=(bP l.places.length).map fun p=>if p=0 then some 0 else none
theorem aea(hp:p<l.places.length):(yC l).getD p none=if p=0 then some 0 else none:=by
 unfold yC;rw[eS,cR,j_ hp];rfl
theorem aeb(ok:yx l)(Gr:∀p,p<l.places.length→(better l t done s b N).getD p none=N.getD p none):
  ∀p,p<l.places.length→(rowFor l t done s b).getD p none=N.getD p none:=by
 have up:∀k,Le l (times (better l t done s b) k (yC l)) N:=by
  intro k;induction k with
  |zero=>
   intro p hp v q;change dM ((yC l).getD p none) v at q;rw[aea hp]at q;by_cases h0:p=0
   ·subst h0;rw[←Gr 0 hp,yA hp];rw[if_pos rfl]at q;exact q
   ·rw[if_neg h0]at q;exact absurd q jH
  |succ k ih=>
   rw[yB];intro p hp v q;have:=ad8 ok ih p hp v q;rw[Gr p hp]at this;exact this
 have down:∀k p,p<l.places.length→∀v,N.getD p none=some v→below l N v<k→dM ((times (better l t done s b) k (yC l)).getD p none) v:=by
  intro k;induction k with
  |zero=>intro p hp v e hk;lia
  |succ k ih=>
   intro p hp v e hk;rw[yB];by_cases h0:p=0
   ·subst h0;rw[yA hp];exact fu.mpr (bu _)
   ·have q:dM ((better l t done s b N).getD p none) v:=by rw[Gr p hp,e];exact fu.mpr (a9 _)
    rw[yz hp h0]at q ⊢;obtain⟨tk,h1,g,h2,h3⟩:=q;refine⟨tk,h1,g,h2,fun j hj=>?_⟩;obtain⟨n,e3,hn⟩:=h3 j hj;have lg:=ok.legs g (Gm ok h2).1;by_cases c1:s-tk=s
    ·rw[if_pos c1]at e3 ⊢;by_cases c2:b-j=b
     ·rw[if_pos c2]at e3 ⊢;have w0:worth l tk=0:=by
       have:=Gp h1;have z:tk=0:=by lia
       rw[z];exact Bu l
      have lt:=ad9 (l:=l) (N:=N) lg.2.2.2 e3 (v:=v) (by lia);obtain⟨m,e4,hm⟩:=ih g.b lg.2.2.2 n e3 (by lia);exact⟨m,e4,by lia⟩
     ·rw[if_neg c2]at e3 ⊢;exact⟨n,e3,hn⟩
    ·rw[if_neg c1]at e3 ⊢;exact⟨n,e3,hn⟩
 intro p hp;refine OB fun v=>⟨fun h=>up _ p hp v h,fun h=>?_⟩
 obtain⟨m,e,hm⟩:=h;exact ad4 (down _ p hp m e (ad_ hp e)) hm
def grown{α:Type}(F:List α→Nat→α)(n:Nat):List α:=(bP n).foldl (fun t s=>t++[F t s]) []
theorem OG{α:Type}(F:List α→Nat→α)n:grown F (n+1)=grown F n++[F (grown F n) n]:=by
 unfold grown;rw[tH,OH];rfl
theorem Bx{α:Type}(F:List α→Nat→α):∀n,(grown F n).length=n
 |0=>rfl
 |n+1=>by rw[OG,bT,Bx F n];rfl
theorem wb{α:Type}(F:List α→Nat→α):∀{n s},s<n→(grown F n)[s]?=some (F (grown F s) s)
 |0,s,h=>absurd h (mH _)
 |n+1,s,h=>by
  rw[OG];by_cases e:s<n
  ·rw[EO (by rw[Bx];exact e)];exact wb F e
  ·have e:s=n:=by lia
   subst e;rw[Ma (by rw[Bx];exact a9 _),Bx,aec];rfl
theorem aed{α:Type}(F:List α→Nat→α)d(h:s<n)(h2:s<m):(grown F n).getD s d=(grown F m).getD s d:=by
 rw[eS,eS,wb F h,wb F h2]
def iz(l:Land)(n:Nat):Table:=grown (rowsFor l) n
def iP(l:Land)(s n:Nat):List Row:=grown (fun done b=>rowFor l (iz l s) done s b) n
theorem aee l:table l=iz l (2^l.caches.length):=rfl
theorem aef l s:rowsFor l (iz l s) s=iP l s (STORMS+1):=rfl
theorem aeg(hs:s<n)(hb:b≤8):look (iz l n) s b p=(rowFor l (iz l s) (iP l s b) s b).getD p none:=by
 unfold look;have e1:(iz l n).getD s []=iP l s (STORMS+1):=by
  rw[eS];unfold iz;rw[wb _ hs];exact aef l s
 have e2:(iP l s (STORMS+1)).getD b []=rowFor l (iz l s) (iP l s b) s b:=by
  rw[eS];unfold iP;rw[wb _ (show b<STORMS+1 by show b<9;lia)];rfl
 rw[e1,e2]
theorem Gs(hs:s<2^l.caches.length)(hb:b≤8):look (table l) s b p=(rowFor l (iz l s) (iP l s b) s b).getD p none:=aeg hs hb
theorem aeh(hs:s<2^l.caches.length)(hn:s<n):look (iz l n) s b p=look (table l) s b p:=by
 unfold look;rw[aee];unfold iz;rw[aed (rowsFor l) [] hn hs]
theorem aei(hs:s<2^l.caches.length)(hc:c<b)(hb:b≤8):((iP l s b).getD c []).getD p none=look (table l) s c p:=by
 rw[Gs hs (by lia)];have e:(iP l s b).getD c []=rowFor l (iz l s) (iP l s c) s c:=by
  rw[eS];unfold iP;rw[wb _ hc];rfl
 rw[e]
theorem aej(h:tk∈takings l p s):tk<2^l.caches.length:=ip.mp (rW.mp h).1
theorem aek(ok:yx l)(hs:s<2^l.caches.length)(hb:b≤8)(N:Nat→Need)(h0:N 0=some 0)
  (h:∀p,p<l.places.length→p≠0→∀v,dM (N p) v↔∃tk∈takings l p s,∃g∈legsFrom l p,∀k,k≤extras g b→
   ∃n,(if tk=0∧k=0 then N g.b else look (table l) (s-tk) (b-k) g.b)=some n∧g.least+k+n≤min l.most (v+worth l tk)):
  ∀p,p<l.places.length→look (table l) s b p=N p:=by
 intro p hp;have row:∀q,q<l.places.length→(((bP l.places.length).map N).getD q none)=N q:=by
  intro q hq;rw[eS,cR,j_ hq];rfl
 rw[Gs hs hb,aeb ok (N:=(bP l.places.length).map N) (fun q hq=>?_) p hp,row p hp];rw[row q hq];by_cases Gu:q=0
 ·subst Gu;rw[yA hq,h0]
 ·refine OB fun v=>?_;rw[yz hq Gu,h q hq Gu v];have same:∀tk,tk∈takings l q s→∀g,g∈legsFrom l q→∀k,k≤extras g b→
    (if s-tk=s then(if b-k=b then((bP l.places.length).map N).getD g.b none else((iP l s b).getD (b-k) []).getD g.b none)else look (iz l s) (s-tk) (b-k) g.b)=
    (if tk=0∧k=0 then N g.b else look (table l) (s-tk) (b-k) g.b):=by
   intro tk h1 g h2 k hk;have le:=Gp h1;have lg:=ok.legs g (Gm ok h2).1;have hkb:k≤b:=by unfold extras at hk;lia
   by_cases c1:tk=0
   ·subst c1;rw[if_pos (by lia)];by_cases c2:k=0
    ·subst c2;rw[if_pos (by lia),if_pos ⟨rfl,rfl⟩,row g.b lg.2.2.2]
    ·rw[if_neg (by lia),if_neg (fun z=>c2 z.2),aei hs (by lia) hb];rfl
   ·rw[if_neg (by lia),if_neg (fun z=>c1 z.1)];exact aeh (by lia) (by lia)
  constructor
  ·rintro⟨tk,h1,g,h2,h3⟩;exact⟨tk,h1,g,h2,fun k hk=>by rw[←same tk h1 g h2 k hk];exact h3 k hk⟩
  ·rintro⟨tk,h1,g,h2,h3⟩;exact⟨tk,h1,g,h2,fun k hk=>by rw[same tk h1 g h2 k hk];exact h3 k hk⟩
end M
namespace S
open PySem PySem.Spec PyProof.Rows L2
open PySem.W (Codec)
def top(i:Nat):aK:=PySem.Challenge.pw_stormhome_s01_answers.main.body.getD i (.Pass ⟨0,0,0,0⟩)
abbrev OI:aK:=inClass (top 4) 0
abbrev OJ:aK:=top 5
abbrev Gv:aK:=top 6
abbrev OK:aK:=top 7
abbrev OL:aK:=top 20
abbrev OM:aK:=top 21
abbrev Gw:aK:=top 22
abbrev ON:aK:=top 23
abbrev OO:aK:=top 24
abbrev OP:aK:=top 25
abbrev By:aK:=top 26
abbrev OQ:aK:=inClass (top 39) 0
abbrev OR:aK:=inClass (top 40) 0
abbrev OS:aK:=inClass (top 41) 0
abbrev OT:aK:=top 42
abbrev OU:aK:=top 43
abbrev OV:aK:=top 44
abbrev OW:aK:=top 45
abbrev OX:aK:=top 46
abbrev OY:aK:=top 47
abbrev OZ:aK:=top 48
abbrev O0:aK:=top 49
abbrev O1:aK:=top 50
abbrev O2:aK:=top 51
abbrev O3:aK:=top 52
abbrev O4:aK:=top 53
abbrev yD:aK:=top 54
abbrev O5:aK:=top 55
abbrev Gx:aK:=top 56
abbrev Gy:aK:=top 57
abbrev Gz:aK:=top 58
abbrev GA:aK:=top 59
abbrev O6:aK:=inClass (top 61) 0
abbrev O7:aK:=top 62
abbrev O8:aK:=top 63
abbrev O9:aK:=top 64
abbrev O_:aK:=top 65
abbrev Pa:aK:=top 66
abbrev Pb:aK:=top 67
abbrev Pc:aK:=top 68
abbrev Pd:aK:=top 69
abbrev Pe:aK:=top 70
abbrev Pf:aK:=inClass (top 73) 0
abbrev Pg:aK:=inClass (top 74) 0
abbrev Ph:aK:=inClass (top 75) 0
abbrev Pj:aK:=top 76
abbrev Pk:aK:=top 77
abbrev Pl:aK:=top 78
abbrev GB:aK:=top 79
abbrev Pn:aK:=top 80
abbrev Po:aK:=top 81
abbrev Pp:aK:=top 82
abbrev GC:aK:=top 83
abbrev GD:aK:=top 84
abbrev GF:aK:=top 85
abbrev Pq:aK:=top 86
abbrev Pr:aK:=top 87
abbrev Pt:aK:=top 88
abbrev Pu:aK:=inClass (top 99) 0
abbrev Pw:aK:=inClass (top 100) 0
abbrev Px:aK:=top 101
abbrev Py:aK:=top 102
abbrev Pz:aK:=top 103
abbrev PB:aK:=top 104
abbrev PD:aK:=top 105
abbrev PF:aK:=top 106
abbrev PH:aK:=inClass (top 116) 0
abbrev PJ:aK:=top 117
abbrev PK:aK:=top 118
abbrev PL:aK:=top 119
abbrev PM:aK:=top 120
abbrev PN:aK:=inClass (top 123) 0
abbrev PP:aK:=inClass (top 123) 1
abbrev PQ:aK:=inClass (top 123) 2
abbrev Bz:aK:=inClass (top 123) 3
abbrev PR:aK:=inClass (top 123) 4
abbrev PU:aK:=inClass (top 123) 5
abbrev PV:aK:=inClass (top 125) 0
abbrev PX:aK:=top 126
abbrev GG:aK:=top 127
abbrev GH:aK:=top 128
abbrev PY:aK:=inClass (top 136) 0
abbrev PZ:aK:=top 137
abbrev P0:aK:=top 138
abbrev P1:aK:=top 139
abbrev P2:aK:=top 140
abbrev P4:aK:=top 141
abbrev P5:aK:=top 142
abbrev P6:aK:=top 143
abbrev P7:aK:=top 144
abbrev P8:aK:=top 145
abbrev P9:aK:=top 146
abbrev P_:aK:=top 147
abbrev Qa:aK:=top 148
abbrev Qb:aK:=top 149
abbrev Qc:aK:=top 150
abbrev Qe:aK:=top 151
abbrev Qg:aK:=top 152
abbrev Qh:aK:=top 153
abbrev Qi:aK:=top 154
abbrev Qj:aK:=top 155
abbrev Qk:aK:=top 156
abbrev Ql:aK:=top 157
abbrev Qm:aK:=top 158
abbrev Qn:aK:=top 160
abbrev Qo:aK:=top 161
abbrev GJ:aK:=top 162
theorem ael:aN ["self","number","told","row","behind"] ["self","number","told","row","behind"] (aG OI):=.by (by decide+kernel)
theorem oU:aN ["calls","at","number","told","letter","row"] ["calls","at"] (aG OJ):=.by (by decide+kernel)
theorem wc:aN ["number","row","most_numbers","top","together","value"] ["number","row"] (aG Gv):=.by (by decide+kernel)
theorem Qp:aN ["call","letter"] ["call"] (aG OK):=.by (by decide+kernel)
theorem aem:aN ["byte"] ["byte"] (aG OL):=.by (by decide+kernel)
theorem yE:aN ["row","lines","line","byte"] ["row"] (aG OM):=.by (by decide+kernel)
theorem yF:aN ["line","signs","byte","word"] ["line"] (aG Gw):=.by (by decide+kernel)
theorem BA:aN ["row","whole","take_line","index","line","words"] ["row","whole","take_line"] (aG ON):=.by (by decide+kernel)
theorem aen:aN ["word"] ["word"] (aG OO):=.by (by decide+kernel)
theorem Qq:aN ["word","least","most","number"] ["word","least","most"] (aG OP):=.by (by decide+kernel)
theorem wg:aN ["lines","text","words","sign"] ["lines"] (aG By):=.by (by decide+kernel)
theorem aeo:aN ["self","from_place","to_place","least","most"] ["self","from_place","to_place","least","most"] (aG OQ):=.by (by decide+kernel)
theorem aep:aN ["self","name","place","rations"] ["self","name","place","rations"] (aG OR):=.by (by decide+kernel)
theorem aeq:aN ["self"] ["self"] (aG OS):=.by (by decide+kernel)
theorem aer:aN ["land","name"] ["land","name"] (aG OT):=.by (by decide+kernel)
theorem GK:aN ["land","name","index","cache"] ["land","name"] (aG OU):=.by (by decide+kernel)
theorem Qr:aN ["land","from_place","to_place","leg"] ["land","from_place","to_place"] (aG OV):=.by (by decide+kernel)
theorem aes:aN ["land","word"] ["land","word"] (aG OW):=.by (by decide+kernel)
theorem aet:aN ["land","name"] ["land","name"] (aG OX):=.by (by decide+kernel)
theorem yG:aN ["land","from_name","to_name","least_word","most_word","from_place","to_place","least","most"] ["land","from_name","to_name","least_word","most_word"] (aG OY):=.by (by decide+kernel)
theorem Qs:aN ["land","one_name","other_name","least_word","most_word","there"] ["land","one_name","other_name","least_word","most_word"] (aG OZ):=.by (by decide+kernel)
theorem GL:aN ["land","name","place_name","rations_word","place","rations"] ["land","name","place_name","rations_word"] (aG O0):=.by (by decide+kernel)
theorem Qt:aN ["land","word","limit"] ["land","word"] (aG O1):=.by (by decide+kernel)
theorem Qu:aN ["land","word","storms"] ["land","word"] (aG O2):=.by (by decide+kernel)
theorem Qv:aN ["land","words","first"] ["land","words"] (aG O3):=.by (by decide+kernel)
theorem aeu:aN ["land","leg"] ["land","leg"] (aG O4):=.by (by decide+kernel)
theorem tI:aN ["land","lines","name","leg","cache"] ["land"] (aG yD):=.by (by decide+kernel)
theorem aev:aN ["land"] ["land"] (aG O5):=.by (by decide+kernel)
theorem BB:aN ["held","index","bit"] ["held"] (aG Gx):=.by (by decide+kernel)
theorem GN:aN ["held","part"] ["held"] (aG Gy):=.by (by decide+kernel)
theorem BC:aN ["land","place","bit","cache"] ["land","place"] (aG Gz):=.by (by decide+kernel)
theorem GO:aN ["land","taking","index"] ["land","taking"] (aG GA):=.by (by decide+kernel)
theorem aew:aN ["self","place","held","storms","food"] ["self","place","held","storms","food"] (aG O6):=.by (by decide+kernel)
theorem aex:aN ["party"] ["party"] (aG O7):=.by (by decide+kernel)
theorem aey:aN ["land","place","held","taking"] ["land","place","held","taking"] (aG O8):=.by (by decide+kernel)
theorem aez:aN ["land","party","taking"] ["land","party","taking"] (aG O9):=.by (by decide+kernel)
theorem aeA:aN ["leg","storms"] ["leg","storms"] (aG O_):=.by (by decide+kernel)
theorem Qw:aN ["land","party","taking","leg","extra","food"] ["land","party","taking","leg","extra"] (aG Pa):=.by (by decide+kernel)
theorem Qx:aN ["land","party","taking","leg","extra"] ["land","party","taking","leg"] (aG Pb):=.by (by decide+kernel)
theorem aeB:aN ["needs","party"] ["needs","party"] (aG Pc):=.by (by decide+kernel)
theorem GP:aN ["land","needs","party","taking","leg","extra","behind"] ["land","needs","party","taking","leg"] (aG Pd):=.by (by decide+kernel)
theorem yH:aN ["land","needs","party","choices","taking","end","leg"] ["land","needs","party"] (aG Pe):=.by (by decide+kernel)
theorem aeC:aN ["self","about","sign","number"] ["self","about","sign","number"] (aG Pf):=.by (by decide+kernel)
theorem aeD:aN ["self","place","conditions","caches","end"] ["self","place","conditions","caches","end"] (aG Pg):=.by (by decide+kernel)
theorem aeE:aN ["self","land"] ["self","land"] (aG Ph):=.by (by decide+kernel)
theorem GQ:aN ["words","at","most","number"] ["words","at"] (aG Pj):=.by (by decide+kernel)
theorem Qy:aN ["land","words","at","cache"] ["land","words","at"] (aG Pk):=.by (by decide+kernel)
theorem nJ:aN ["land","words","conditions","at","condition","length"] ["land","words"] (aG Pl):=.by (by decide+kernel)
theorem GR:aN ["land","words","caches","word"] ["land","words"] (aG GB):=.by (by decide+kernel)
theorem qE:aN ["land","words","colon","front","back","place","conditions","caches","end"] ["land","words"] (aG Pn):=.by (by decide+kernel)
theorem Qz:aN ["plan","words","rule"] ["plan","words"] (aG Po):=.by (by decide+kernel)
theorem aeF:aN ["land","condition"] ["land","condition"] (aG Pp):=.by (by decide+kernel)
theorem yI:aN ["land","rule","words","condition","cache"] ["land","rule"] (aG GC):=.by (by decide+kernel)
theorem GS:aN ["plan","rule"] ["plan"] (aG GD):=.by (by decide+kernel)
theorem BD:aN ["rule","cache","bit"] ["rule"] (aG GF):=.by (by decide+kernel)
theorem QA:aN ["condition","party","amount"] ["condition","party"] (aG Pq):=.by (by decide+kernel)
theorem QB:aN ["rule","party","condition"] ["rule","party"] (aG Pr):=.by (by decide+kernel)
theorem GU:aN ["plan","party","index","rule"] ["plan","party"] (aG Pt):=.by (by decide+kernel)
theorem aeG:aN ["self","way","taking","leg"] ["self","way","taking","leg"] (aG Pu):=.by (by decide+kernel)
theorem aeH:aN ["self","party","extras"] ["self","party","extras"] (aG Pw):=.by (by decide+kernel)
theorem yJ:aN ["plan","party","index","rule","taking","leg"] ["plan","party"] (aG Px):=.by (by decide+kernel)
theorem QC:aN ["plan","arrival","step","extra"] ["plan","arrival","step"] (aG Py):=.by (by decide+kernel)
theorem BE:aN ["plan","arrival","step","behind","extra","party"] ["plan","arrival","step"] (aG Pz):=.by (by decide+kernel)
theorem nM:aN ["plan","party","row","met","at","arrival","step","failure","later","numbers"] ["plan","party"] (aG PB):=.by (by decide+kernel)
theorem aeI:aN ["plan","party","step","extra"] ["plan","party","step","extra"] (aG PD):=.by (by decide+kernel)
theorem oV:aN ["plan","party","extras","legs","ends","extra","step","ended"] ["plan","party","extras"] (aG PF):=.by (by decide+kernel)
theorem aeJ:aN ["self","party","strict"] ["self","party","strict"] (aG PH):=.by (by decide+kernel)
theorem aeK:aN ["journey"] ["journey"] (aG PJ):=.by (by decide+kernel)
theorem QD:aN ["land","journey","taking","end","party"] ["land","journey","taking","end"] (aG PK):=.by (by decide+kernel)
theorem QE:aN ["land","journey","taking","leg","party"] ["land","journey","taking","leg"] (aG PL):=.by (by decide+kernel)
theorem yK:aN ["land","journey","extra","party","leg","behind"] ["land","journey","extra"] (aG PM):=.by (by decide+kernel)
theorem aeL:aN ["self","land"] ["self","land"] (aG PN):=.by (by decide+kernel)
theorem QF:aN ["self","place","held","storms"] ["self","place","held","storms"] (aG PP):=.by (by decide+kernel)
theorem GV:aN ["self","held","storms","part","days"] ["self","held","storms"] (aG PQ):=.by (by decide+kernel)
theorem ka:aN ["self","held","storms","legs","needs","delayed","leg","lowered","least_cost","cost"] ["self","held","storms"] (aG Bz):=.by (by decide+kernel)
theorem tK:aN ["self","held","storms","needs","index","leg","taking","cost","missing"] ["self","held","storms"] (aG PR):=.by (by decide+kernel)
theorem BF:aN ["self","leg","held","storms","cost","extra"] ["self","leg","held","storms"] (aG PU):=.by (by decide+kernel)
theorem aeM:aN ["self","rations","leg"] ["self","rations","leg"] (aG PV):=.by (by decide+kernel)
theorem tL:aN ["land","place","held","pairs","stages","at","taking","leg"] ["land","place","held","pairs"] (aG PX):=.by (by decide+kernel)
theorem BG:aN ["limit","stage","needs","storms","cost","extra"] ["limit","stage","needs","storms"] (aG GG):=.by (by decide+kernel)
theorem tM:aN ["land","place","held","storms","pairs","stages","needs","stage","left"] ["land","place","held","storms","pairs"] (aG GH):=.by (by decide+kernel)
theorem aeN:aN ["self"] ["self"] (aG PY):=.by (by decide+kernel)
theorem QG:aN ["call","told"] ["call"] (aG PZ):=.by (by decide+kernel)
theorem aeO:aN ["need"] ["need"] (aG P0):=.by (by decide+kernel)
theorem GW:aN ["desk","call","land","wrong"] ["desk","call"] (aG P1):=.by (by decide+kernel)
theorem QH:aN ["desk","call","form"] ["desk","call"] (aG P2):=.by (by decide+kernel)
theorem QI:aN ["desk","call","told"] ["desk","call"] (aG P4):=.by (by decide+kernel)
theorem BH:aN ["desk","call","choices","answer","choice"] ["desk","call"] (aG P5):=.by (by decide+kernel)
theorem yL:aN ["desk","call","party","spare","cache","without"] ["desk","call"] (aG P6):=.by (by decide+kernel)
theorem GX:aN ["desk","call","told","storms"] ["desk","call"] (aG P7):=.by (by decide+kernel)
theorem yM:aN ["desk","call","party","taking","leg","extra"] ["desk","call"] (aG P8):=.by (by decide+kernel)
theorem GY:aN ["desk","call","plan","wrong"] ["desk","call"] (aG P9):=.by (by decide+kernel)
theorem QJ:aN ["desk","call","form"] ["desk","call"] (aG P_):=.by (by decide+kernel)
theorem GZ:aN ["desk","call","index","rule"] ["desk","call"] (aG Qa):=.by (by decide+kernel)
theorem aeP:aN ["desk","call"] ["desk","call"] (aG Qb):=.by (by decide+kernel)
theorem aeQ:aN ["desk","call"] ["desk","call"] (aG Qc):=.by (by decide+kernel)
theorem QK:aN ["desk","call","told"] ["desk","call"] (aG Qe):=.by (by decide+kernel)
theorem G0:aN ["desk","call","party","strict"] ["desk","call"] (aG Qg):=.by (by decide+kernel)
theorem aeR:aN ["desk","taking","leg"] ["desk","taking","leg"] (aG Qh):=.by (by decide+kernel)
theorem yN:aN ["desk","call","taking","journey","refusal","leg"] ["desk","call"] (aG Qi):=.by (by decide+kernel)
theorem BI:aN ["desk","call","extra","journey","lost"] ["desk","call"] (aG Qj):=.by (by decide+kernel)
theorem yO:aN ["desk","call","journey","party","state","answer"] ["desk","call"] (aG Qk):=.by (by decide+kernel)
theorem BJ:aN ["desk","call","journey","answer","entry"] ["desk","call"] (aG Ql):=.by (by decide+kernel)
theorem yP:aN ["desk","call","taking","journey","refusal","extra"] ["desk","call"] (aG Qm):=.by (by decide+kernel)
theorem aeS:aN ["land","told"] ["land","told"] (aG Qn):=.by (by decide+kernel)
theorem QL:aN ["desk","call","answerer"] ["desk","call"] (aG Qo):=.by (by decide+kernel)
theorem tO:aN ["calls","desk","told","at","call","answer"] ["calls"] (aG GJ):=.by (by decide+kernel)
set_option genInjectivity false in
set_option genSizeOf false in
structure aR where
 QM:ae
 aeT:aM
 aeU:ae
 aeV:aM
 aeW:ae
 aeX:aM
 aeY:ae
 aeZ:aM
 sign_of:ae
 ae0:aM
 ae1:ae
 ae2:aM
 words_of:ae
 ae3:aM
 QN:ae
 QO:aM
 ae4:ae
 ae5:aM
 ae6:ae
 ae7:aM
 ae8:ae
 ae9:aM
 QP:ae
 ae_:aM
 QQ:ae
 afa:aM
 QR:ae
 afb:aM
 afc:ae
 afd:aM
 afe:ae
 aff:aM
 afg:ae
 afh:aM
 afi:ae
 afj:aM
 afk:ae
 afl:aM
 afm:ae
 afn:aM
 afo:ae
 afp:aM
 afq:ae
 afr:aM
 afs:ae
 aft:aM
 afu:ae
 afv:aM
 G1:ae
 QS:aM
 afw:ae
 afx:aM
 afy:ae
 afz:aM
 afA:ae
 afB:aM
 afC:ae
 afD:aM
 afE:ae
 afF:aM
 afG:ae
 afH:aM
 afI:ae
 afJ:aM
 QT:ae
 afK:aM
 afL:ae
 afM:aM
 afN:ae
 afO:aM
 afP:ae
 afQ:aM
 afR:ae
 afS:aM
 afT:ae
 afU:aM
 afV:ae
 afW:aM
 afX:ae
 afY:aM
 afZ:ae
 af0:aM
 af1:ae
 af2:aM
 QU:ae
 af3:aM
 QV:ae
 af4:aM
 QW:ae
 af5:aM
 af6:ae
 af7:aM
 af8:ae
 af9:aM
 af_:ae
 aga:aM
 agb:ae
 agc:aM
 agd:ae
 age:aM
 G2:ae
 QX:aM
 agf:ae
 agg:aM
 agh:ae
 agi:aM
 agj:ae
 agk:aM
 agl:ae
 agm:aM
 holds:ae
 agn:aM
 fits:ae
 ago:aM
 agp:ae
 agq:aM
 QY:ae
 agr:aM
 QZ:ae
 ags:aM
 agt:ae
 agu:aM
 agv:ae
 agw:aM
 agx:ae
 agy:aM
 agz:ae
 agA:aM
 agB:ae
 agC:aM
 agD:ae
 agE:aM
 Q0:ae
 agF:aM
 agG:ae
 agH:aM
 agI:ae
 agJ:aM
 agK:ae
 agL:aM
 agM:ae
 agN:aM
 Q1:ae
 agO:aM
 Q2:ae
 agP:aM
 Q3:ae
 agQ:aM
 Q4:ae
 agR:aM
 Q5:ae
 agS:aM
 Q6:ae
 agT:aM
 Q7:ae
 agU:aM
 agV:ae
 agW:aM
 agX:ae
 agY:aM
 agZ:ae
 ag0:aM
 Q8:ae
 ag1:aM
 ag2:ae
 ag3:aM
 ag4:ae
 ag5:aM
 Q9:ae
 Q_:aM
 Ra:ae
 Rb:aM
 Rc:ae
 Rf:aM
 Rg:ae
 Rh:aM
 Ri:ae
 Rj:aM
 Rk:ae
 Rl:aM
 Rm:ae
 Rn:aM
 Ro:ae
 Rp:aM
 Rq:ae
 Rr:aM
 Rt:ae
 Ru:aM
 Rv:ae
 Rw:aM
 Rx:ae
 Ry:aM
 Rz:ae
 RB:aM
 RC:ae
 RD:aM
 ag6:ae
 ag7:aM
 RE:ae
 RF:aM
 RG:ae
 RH:aM
 RI:ae
 RJ:aM
 RK:ae
 RL:aM
 RM:ae
 RN:aM
 ag8:ae
 ag9:aM
 ag_:ae
 aha:aM
 answers:ae
 G3:aM
 Call:ae
 Leg:ae
 Cache:ae
 Land:ae
 ic:ae
 jI:ae
 Rule:ae
 Plan:ae
 Step:ae
 mI:ae
 Journey:ae
 iQ:ae
 nN:ae
 cf:ae
 RO:ae
 RP:ae
 RQ:ae
 RR:ae
 mJ:ae
 RS:ae
def GI(mg:Str→Option aA)(x:Str)(v:V):Prop:=∃u,mg x=some u∧RelV v u
theorem ahb{X:Cx}{x:Str}{v:V}{pos:Pos}(hg:Gl X x)(h:GI X.mg x v)(hd:(x==("__debug__":Str))=false:=by decide):PE X (.Name x pos) (tC v):=by
 obtain⟨u,h1,h2⟩:=h;exact Eg hg h1 h2 hd
theorem a6{X:Cx}{x:Str}{v:V}{pos:Pos}(h:GI X.mg x v)(hg:Gl X x:=by rfl)(hd:(x==("__debug__":Str))=false:=by decide):PE X (.Name x pos) (tC v):=ahb hg h hd
theorem Z{α:Sort u}{a:α}:a=a:=rfl
structure Txt(K:PySem.W.Frag)(mg:Str→Option aA)(A:aR):Prop where
 ahc:mg "all"=none
 wj:mg "enumerate"=none
 ahd:mg "int"=none
 cH:mg "len"=none
 RT:mg "list"=none
 wk:mg "max"=none
 BK:mg "min"=none
 ahe:mg "ord"=none
 mK:mg "range"=none
 ahf:mg "reversed"=none
 wm:mg "str"=none
 BL:mg "sum"=none
 G4:mg "zip"=none
 ahg:GI mg "FORMS" (.ref A.RO)
 ahh:GI mg "TOPS" (.ref A.RP)
 yQ:GI mg "ROWS" (.ref A.RQ)
 ahi:GI mg "LINE_END" (.int 10)
 ahj:GI mg "BLANK" (.int 32)
 ahk:GI mg "REMARK" (.int 35)
 RU:GI mg "LETTERS" (.str "abcdefghijklmnopqrstuvwxyz")
 G5:GI mg "FIRST_LETTER" (.int 97)
 RV:GI mg "DIGITS_AND_MARKS" (.str "0123456789:?<=>")
 G6:GI mg "FIRST_DIGIT" (.int 48)
 ahl:GI mg "FOREIGN" (.str "?")
 ahm:GI mg "LONGEST_NAME" (.int 8)
 ahn:GI mg "LONGEST_NUMBER" (.int 3)
 aho:GI mg "WORDS_OF_LINES" (.ref A.RR)
 ahp:∀H,bV K H A.RR [.str "place",.str "leg",.str "way",.str "cache",.str "limit",.str "storms",.str "at",.str "food",.str "have",.str "lack",.str "take",.str "go"]
 ahq:GI mg "MOST_PLACES" (.int 7)
 ahr:GI mg "MOST_LEGS" (.int 24)
 ahs:GI mg "MOST_CACHES" (.int 4)
 RW:GI mg "MOST_LEG_DAYS" (.int 12)
 aht:GI mg "MOST_RATIONS" (.int 60)
 RX:GI mg "MOST_LIMIT" (.int 60)
 G7:GI mg "MOST_STORMS" (.int 8)
 ahu:GI mg "USUAL_LIMIT" (.int 30)
 ahv:GI mg "USUAL_STORMS" (.int 0)
 tP:GI mg "CACHE_BITS" (.ref A.mJ)
 iA:∀H,bV K H A.mJ [.int 1,.int 2,.int 4,.int 8]
 tQ:GI mg "HOME" (.int 0)
 ahw:GI mg "MOST_RULES" (.int 30)
 yR:GI mg "FAILS_NOT" (.int 0)
 RY:GI mg "LOST_following" (.int 1)
 ahx:GI mg "NO_RULE" (.int 2)
 ahy:GI mg "NOT_DOABLE" (.int 3)
 ahz:GI mg "CAME_HOME" (.int 0)
 ahA:GI mg "USED_UP" (.int 4)
 ahB:GI mg "TOO_MANY_DAYS" (.int 5)
 ahC:GI mg "MOST_PARTIES" (.int 400)
 ahD:GI mg "TOO_MANY_PARTIES" (.int (-6))
 BM:GI mg "NO_JOURNEY" (.int (-3))
 ahE:GI mg "NO_CHOICE_NOW" (.int (-4))
 ahF:GI mg "NO_SUCH_TAKING" (.int (-5))
 ahG:GI mg "NO_SUCH_LEG" (.int (-6))
 G8:GI mg "AT_PLACE" (.int 0)
 ahH:GI mg "ON_LEG" (.int 1)
 RZ:GI mg "AT_HOME" (.int 2)
 ahI:GI mg "LOST_journeys" (.int 3)
 BN:GI mg "NO_FOOD" (.int 1000)
 ahJ:GI mg "OUT_OF_RANGE" (.int (-1))
 ahK:GI mg "NO_LAND" (.int (-2))
 ahL:GI mg "NOT_IN_LAND" (.int (-3))
 ahM:GI mg "NO_PLAN" (.int (-3))
 R0:GI mg "WRONG_LINES" (.int (-1000))
 ahN:GI mg "LAND_CALL" (.int 0)
 ahO:GI mg "ANSWERERS" (.ref A.RS)
 G9:Fb K "__init__" "Call.__init__" ["self","number","told","row","behind"] OI A.QM A.aeT
 G_:Fn K mg "call_at" ["calls","at"] OJ A.aeU A.aeV
 Ha:Fn K mg "is_row_in_range" ["number","row"] Gv A.aeW A.aeX
 Hb:Fn K mg "is_in_ranges" ["call"] OK A.aeY A.aeZ
 Hc:Fn K mg "sign_of" ["byte"] OL A.sign_of A.ae0
 Hd:Fn K mg "split_lines" ["row"] OM A.ae1 A.ae2
 He:Fn K mg "words_of" ["line"] Gw A.words_of A.ae3
 tR:Fn K mg "first_wrong_line" ["row","whole","take_line"] ON A.QN A.QO
 Hf:Fn K mg "is_name" ["word"] OO A.ae4 A.ae5
 qF:Fn K mg "number_within" ["word","least","most"] OP A.ae6 A.ae7
 BO:Fn K mg "bytes_of_lines" ["lines"] By A.ae8 A.ae9
 Hg:Fb K "__init__" "Leg.__init__" ["self","from_place","to_place","least","most"] OQ A.QP A.ae_
 Hh:Fb K "__init__" "Cache.__init__" ["self","name","place","rations"] OR A.QQ A.afa
 Hi:Fb K "__init__" "Land.__init__" ["self"] OS A.QR A.afb
 qG:Fn K mg "place_called" ["land","name"] OT A.afc A.afd
 yS:Fn K mg "cache_called" ["land","name"] OU A.afe A.aff
 nP:Fn K mg "find_leg" ["land","from_place","to_place"] OV A.afg A.afh
 BP:Fn K mg "is_new_name" ["land","word"] OW A.afi A.afj
 Hj:Fn K mg "add_place" ["land","name"] OX A.afk A.afl
 yT:Fn K mg "add_leg" ["land","from_name","to_name","least_word","most_word"] OY A.afm A.afn
 Hk:Fn K mg "add_way" ["land","one_name","other_name","least_word","most_word"] OZ A.afo A.afp
 Hl:Fn K mg "add_cache" ["land","name","place_name","rations_word"] O0 A.afq A.afr
 Hm:Fn K mg "set_limit" ["land","word"] O1 A.afs A.aft
 Hn:Fn K mg "set_storms" ["land","word"] O2 A.afu A.afv
 yU:Fn K mg "take_land_line" ["land","words"] O3 A.G1 A.QS
 Ho:Fn K mg "leg_words" ["land","leg"] O4 A.afw A.afx
 Hq:Fn K mg "land_form" ["land"] yD A.afy A.afz
 Hr:Fn K mg "whole_set" ["land"] O5 A.afA A.afB
 BQ:Fn K mg "caches_in" ["held"] Gx A.afC A.afD
 yV:Fn K mg "parts_of" ["held"] Gy A.afE A.afF
 yW:Fn K mg "set_at" ["land","place"] Gz A.afG A.afH
 yX:Fn K mg "rations_in" ["land","taking"] GA A.afI A.afJ
 qH:Fb K "__init__" "Party.__init__" ["self","place","held","storms","food"] O6 A.QT A.afK
 wo:Fn K mg "party_numbers" ["party"] O7 A.afL A.afM
 wq:Fn K mg "may_take" ["land","place","held","taking"] O8 A.afN A.afO
 BR:Fn K mg "food_with" ["land","party","taking"] O9 A.afP A.afQ
 oW:Fn K mg "most_extra" ["leg","storms"] O_ A.afR A.afS
 qI:Fn K mg "party_behind" ["land","party","taking","leg","extra"] Pa A.afT A.afU
 Hs:Fn K mg "losing_extra" ["land","party","taking","leg"] Pb A.afV A.afW
 wt:Fn K mg "is_safe" ["needs","party"] Pc A.afX A.afY
 yY:Fn K mg "harmful_extra" ["land","needs","party","taking","leg"] Pd A.afZ A.af0
 Ht:Fn K mg "safe_choices" ["land","needs","party"] Pe A.af1 A.af2
 BS:Fb K "__init__" "Condition.__init__" ["self","about","sign","number"] Pf A.QU A.af3
 Hu:Fb K "__init__" "Rule.__init__" ["self","place","conditions","caches","end"] Pg A.QV A.af4
 BU:Fb K "__init__" "Plan.__init__" ["self","land"] Ph A.QW A.af5
 Hv:Fn K mg "read_measure" ["words","at"] Pj A.af6 A.af7
 Hw:Fn K mg "read_holding" ["land","words","at"] Pk A.af8 A.af9
 Hy:Fn K mg "read_conditions" ["land","words"] Pl A.af_ A.aga
 Hz:Fn K mg "read_taking" ["land","words"] GB A.agb A.agc
 HC:Fn K mg "read_rule" ["land","words"] Pn A.agd A.age
 yZ:Fn K mg "take_plan_line" ["plan","words"] Po A.G2 A.QX
 HD:Fn K mg "condition_words" ["land","condition"] Pp A.agf A.agg
 HE:Fn K mg "rule_words" ["land","rule"] GC A.agh A.agi
 HF:Fn K mg "plan_form" ["plan"] GD A.agj A.agk
 BV:Fn K mg "rule_taking" ["rule"] GF A.agl A.agm
 HG:Fn K mg "holds" ["condition","party"] Pq A.holds A.agn
 HH:Fn K mg "fits" ["rule","party"] Pr A.fits A.ago
 BW:Fn K mg "first_fitting" ["plan","party"] Pt A.agp A.agq
 y1:Fb K "__init__" "Step.__init__" ["self","way","taking","leg"] Pu A.QY A.agr
 BX:Fb K "__init__" "Arrival.__init__" ["self","party","extras"] Pw A.QZ A.ags
 BY:Fn K mg "step_by_plan" ["plan","party"] Px A.agt A.agu
 HI:Fn K mg "failure_at" ["plan","arrival","step"] Py A.agv A.agw
 HJ:Fn K mg "arrivals_behind" ["plan","arrival","step"] Pz A.agx A.agy
 HK:Fn K mg "check_plan" ["plan","party"] PB A.agz A.agA
 HM:Fn K mg "end_on_leg" ["plan","party","step","extra"] PD A.agB A.agC
 HN:Fn K mg "follow_plan" ["plan","party","extras"] PF A.agD A.agE
 HP:Fb K "__init__" "Journey.__init__" ["self","party","strict"] PH A.Q0 A.agF
 BZ:Fn K mg "state_of" ["journey"] PJ A.agG A.agH
 B0:Fn K mg "choice_refusal" ["land","journey","taking","end"] PK A.agI A.agJ
 HQ:Fn K mg "set_out" ["land","journey","taking","leg"] PL A.agK A.agL
 HR:Fn K mg "arrive" ["land","journey","extra"] PM A.agM A.agN
 HS:Fb K "__init__" "Needs.__init__" ["self","land"] PN A.Q1 A.agO
 qJ:Fb K "need" "Needs.need" ["self","place","held","storms"] PP A.Q2 A.agP
 HU:Fb K "reckon" "Needs.reckon" ["self","held","storms"] PQ A.Q3 A.agQ
 HV:Fb K "reckon_level" "Needs.reckon_level" ["self","held","storms"] Bz A.Q4 A.agR
 HW:Fb K "needs_with_takings" "Needs.needs_with_takings" ["self","held","storms"] PR A.Q5 A.agS
 HX:Fb K "delayed_cost" "Needs.delayed_cost" ["self","leg","held","storms"] PU A.Q6 A.agT
 HY:Fb K "__init__" "Stage.__init__" ["self","rations","leg"] PV A.Q7 A.agU
 HZ:Fn K mg "stages_of" ["land","place","held","pairs"] PX A.agV A.agW
 H_:Fn K mg "need_ahead" ["limit","stage","needs","storms"] GG A.agX A.agY
 Ia:Fn K mg "route_need" ["land","place","held","storms","pairs"] GH A.agZ A.ag0
 Ib:Fb K "__init__" "Desk.__init__" ["self"] PY A.Q8 A.ag1
 oX:Fn K mg "party_told" ["call"] PZ A.ag2 A.ag3
 y2:Fn K mg "need_told" ["need"] P0 A.ag4 A.ag5
 B1:Fn K mg "answer_land" ["desk","call"] P1 A.Q9 A.Q_
 B2:Fn K mg "answer_form" ["desk","call"] P2 A.Ra A.Rb
 B3:Fn K mg "answer_need" ["desk","call"] P4 A.Rc A.Rf
 B4:Fn K mg "answer_choices" ["desk","call"] P5 A.Rg A.Rh
 B5:Fn K mg "answer_give" ["desk","call"] P6 A.Ri A.Rj
 B6:Fn K mg "answer_stand" ["desk","call"] P7 A.Rk A.Rl
 B7:Fn K mg "answer_resist" ["desk","call"] P8 A.Rm A.Rn
 B8:Fn K mg "answer_plan" ["desk","call"] P9 A.Ro A.Rp
 B9:Fn K mg "answer_planform" ["desk","call"] P_ A.Rq A.Rr
 B_:Fn K mg "answer_rule" ["desk","call"] Qa A.Rt A.Ru
 Ca:Fn K mg "answer_check" ["desk","call"] Qb A.Rv A.Rw
 Cb:Fn K mg "answer_follow" ["desk","call"] Qc A.Rx A.Ry
 Cc:Fn K mg "answer_route" ["desk","call"] Qe A.Rz A.RB
 Cd:Fn K mg "answer_begin" ["desk","call"] Qg A.RC A.RD
 Ce:Fn K mg "harm_ahead" ["desk","taking","leg"] Qh A.ag6 A.ag7
 Cf:Fn K mg "answer_move" ["desk","call"] Qi A.RE A.RF
 Cg:Fn K mg "answer_weather" ["desk","call"] Qj A.RG A.RH
 Ci:Fn K mg "answer_journey" ["desk","call"] Qk A.RI A.RJ
 Cj:Fn K mg "answer_log" ["desk","call"] Ql A.RK A.RL
 Ck:Fn K mg "answer_bear" ["desk","call"] Qm A.RM A.RN
 Ic:Fn K mg "is_in_land" ["land","told"] Qn A.ag8 A.ag9
 Ie:Fn K mg "answer_to" ["desk","call"] Qo A.ag_ A.aha
 Cm:Fn K mg "answers" ["calls"] GJ A.answers A.G3
 apC:bg K A.Call
 ahP:Km K mg "Call" A.Call A.QM
 y3:bg K A.Call∧bQ K A.Call "number"
 gS:bg K A.Call∧bQ K A.Call "told"
 wu:bg K A.Call∧bQ K A.Call "row"
 R1:bg K A.Call∧bQ K A.Call "behind"
 apD:bg K A.Leg
 ahQ:Km K mg "Leg" A.Leg A.QP
 oY:bg K A.Leg∧bQ K A.Leg "from_place"
 nQ:bg K A.Leg∧bQ K A.Leg "to_place"
 oZ:bg K A.Leg∧bQ K A.Leg "least"
 Cn:bg K A.Leg∧bQ K A.Leg "most"
 apE:bg K A.Cache
 ahR:Km K mg "Cache" A.Cache A.QQ
 ww:bg K A.Cache∧bQ K A.Cache "name"
 Ig:bg K A.Cache∧bQ K A.Cache "place"
 Ih:bg K A.Cache∧bQ K A.Cache "rations"
 apF:bg K A.Land
 ahS:Km K mg "Land" A.Land A.QR
 jd:bg K A.Land∧bQ K A.Land "places"
 qK:bg K A.Land∧bQ K A.Land "legs"
 lP:bg K A.Land∧bQ K A.Land "caches"
 o6:bg K A.Land∧bQ K A.Land "limit"
 Ii:bg K A.Land∧bQ K A.Land "limit_told"
 Co:bg K A.Land∧bQ K A.Land "storms"
 Ij:bg K A.Land∧bQ K A.Land "storms_told"
 apG:bg K A.ic
 wx:Km K mg "Party" A.ic A.QT
 fQ:bg K A.ic∧bQ K A.ic "place"
 jJ:bg K A.ic∧bQ K A.ic "held"
 jK:bg K A.ic∧bQ K A.ic "storms"
 qL:bg K A.ic∧bQ K A.ic "food"
 apH:bg K A.jI
 R3:Km K mg "Condition" A.jI A.QU
 kb:bg K A.jI∧bQ K A.jI "about"
 mL:bg K A.jI∧bQ K A.jI "sign"
 mM:bg K A.jI∧bQ K A.jI "number"
 apI:bg K A.Rule
 ahT:Km K mg "Rule" A.Rule A.QV
 Ik:bg K A.Rule∧bQ K A.Rule "place"
 Il:bg K A.Rule∧bQ K A.Rule "conditions"
 Cp:bg K A.Rule∧bQ K A.Rule "caches"
 Cq:bg K A.Rule∧bQ K A.Rule "end"
 apJ:bg K A.Plan
 R4:Km K mg "Plan" A.Plan A.QW
 o7:bg K A.Plan∧bQ K A.Plan "land"
 qM:bg K A.Plan∧bQ K A.Plan "rules"
 apK:bg K A.Step
 Im:Km K mg "Step" A.Step A.QY
 tS:bg K A.Step∧bQ K A.Step "way"
 y4:bg K A.Step∧bQ K A.Step "taking"
 tT:bg K A.Step∧bQ K A.Step "leg"
 apL:bg K A.mI
 R5:Km K mg "Arrival" A.mI A.QZ
 tU:bg K A.mI∧bQ K A.mI "party"
 wy:bg K A.mI∧bQ K A.mI "extras"
 apM:bg K A.Journey
 ahU:Km K mg "Journey" A.Journey A.Q0
 je:bg K A.Journey∧bQ K A.Journey "party"
 Io:bg K A.Journey∧bQ K A.Journey "strict"
 tV:bg K A.Journey∧bQ K A.Journey "leg"
 Ip:bg K A.Journey∧bQ K A.Journey "taking"
 Cr:bg K A.Journey∧bQ K A.Journey "lost"
 Cs:bg K A.Journey∧bQ K A.Journey "log"
 qO:bg K A.iQ
 ahV:Km K mg "Needs" A.iQ A.Q1
 qP:bg K A.iQ∧bQ K A.iQ "land"
 tW:bg K A.iQ∧bQ K A.iQ "levels"
 Iq:bg K A.iQ∧bQ K A.iQ "costs"
 Ct:oF K A.iQ "need" A.Q2
 ahW:oF K A.iQ "reckon" A.Q3
 ahX:oF K A.iQ "reckon_level" A.Q4
 ahY:oF K A.iQ "needs_with_takings" A.Q5
 ahZ:oF K A.iQ "delayed_cost" A.Q6
 apN:bg K A.nN
 ah0:Km K mg "Stage" A.nN A.Q7
 R6:bg K A.nN∧bQ K A.nN "rations"
 Ir:bg K A.nN∧bQ K A.nN "leg"
 apO:bg K A.cf
 ah1:Km K mg "Desk" A.cf A.Q8
 iB:bg K A.cf∧bQ K A.cf "land"
 nR:bg K A.cf∧bQ K A.cf "needs"
 qQ:bg K A.cf∧bQ K A.cf "plan"
 Cu:bg K A.cf∧bQ K A.cf "plan_told"
 o8:bg K A.cf∧bQ K A.cf "journey"
def Iu:List (Key×V):=[(bL 0,.str ""),(bL 1,.str ""),(bL 2,.str "psb"),(bL 3,.str "psbf"),(bL 4,.str "psbf"),(bL 5,.str "psf"),(bL 6,.str "psbftq"),(bL 7,.str ""),(bL 8,.str ""),(bL 9,.str "psbf"),(bL 10,.str "psbf"),(bL 11,.str "psbf"),(bL 12,.str "psb"),(bL 13,.str "psbfx"),(bL 14,.str "tq"),(bL 15,.str "k"),(bL 16,.str ""),(bL 17,.str ""),(bL 18,.str "tq")]
def Cv:List (Key×V):=[(dq "p",.int 6),(dq "s",.int 15),(dq "b",.int 8),(dq "f",.int 60),(dq "t",.int 15),(dq "q",.int 6),(dq "k",.int 12),(dq "x",.int 1)]
def Iv(B:Nat→ae):List (Key×V):=[(bL 0,.ref (B 0)),(bL 7,.ref (B 7)),(bL 11,.ref (B 11)),(bL 12,.ref (B 12))]
def gn(A:aR):Nat→ae
 |0=>A.Q9
 |1=>A.Ra
 |2=>A.Rc
 |3=>A.Rg
 |4=>A.Ri
 |5=>A.Rk
 |6=>A.Rm
 |7=>A.Ro
 |8=>A.Rq
 |9=>A.Rt
 |10=>A.Rv
 |11=>A.Rx
 |12=>A.Rz
 |13=>A.RC
 |14=>A.RE
 |15=>A.RG
 |16=>A.RI
 |17=>A.RK
 |_=>A.RM
def R7(A:aR):List (Key×V):=[(bL 0,.ref (gn A 0)),(bL 1,.ref (gn A 1)),(bL 2,.ref (gn A 2)),(bL 3,.ref (gn A 3)),(bL 4,.ref (gn A 4)),(bL 5,.ref (gn A 5)),(bL 6,.ref (gn A 6)),(bL 7,.ref (gn A 7)),(bL 8,.ref (gn A 8)),(bL 9,.ref (gn A 9)),(bL 10,.ref (gn A 10)),(bL 11,.ref (gn A 11)),(bL 12,.ref (gn A 12)),(bL 13,.ref (gn A 13)),(bL 14,.ref (gn A 14)),(bL 15,.ref (gn A 15)),(bL 16,.ref (gn A 16)),(bL 17,.ref (gn A 17)),(bL 18,.ref (gn A 18))]
structure o9(P:cQ)(w:cD)(K:PySem.W.Frag)(A:aR)(B:Nat→ae):Prop where
 ah2:nG P w K A.RO Iu
 ah3:nG P w K A.RP Cv
 y6:nG P w K A.RQ (Iv B)
 ah4:nG P w K A.RS (R7 A)
 r0:∀H,bV K H (B 0) [.int 2000,.int 255,.int 1]
 r7:∀H,bV K H (B 7) [.int 2000,.int 255,.int 1]
 r11:∀H,bV K H (B 11) [.int 40,.int 12,.int 1]
 r12:∀H,bV K H (B 12) [.int 24,.int 15,.int 2]
def Iw(K:PySem.W.Frag):Sp:=fun vs H Q _=>∃(a:ae) (ns:List Int),vs=[.ref a]∧ai K H a (ns.map V.int)∧R8 ns=true∧∀H' p,H' p=some (.lst ((Iy ns).map V.int))→Q (.ref p) H'
structure Ev where
 w:cD
 K:PySem.W.Frag
 mg:Str→Option aA
 base:bU
 A:aR
def P:cQ:=PySem.Challenge.rw_stormhome_s01_answers.prog
def Cw(e:Ev):Prop:=∀B,Txt e.K e.mg e.A→o9 P e.w e.K e.A B→fC P e.w e.K e.mg e.base jE 13 e.A.answers e.A.G3 ["calls"] (Iw e.K)
instance:Nonempty Ev:=⟨⟨⟨fun _ _=>0,{strHash:=fun _=>0,shareClass:=fun _=>0,mergeTok:=id,idOf:=fun _=>0,idOfShared:=fun _ _=>0,followText:=fun _=>false,idOfImm:=fun _=>0}⟩,[],fun _=>none,default,by constructor <;>exact default⟩⟩
noncomputable def ev:Ev:=apP fun e=>¬Cw e
theorem ah7(h:Cw ev)e:Cw e:=R9 fun n=>apQ (p:=fun e=>¬Cw e) ⟨e,n⟩ h
noncomputable def w:cD:=ev.w
noncomputable def K:PySem.W.Frag:=ev.K
noncomputable def mg:Str→Option aA:=ev.mg
noncomputable def base:bU:=ev.base
noncomputable def A:aR:=ev.A
theorem eA0{α:Type}{u:List α}{C:List α→Prop}(h:u.length=0)(k:C []):C u:=by
 cases u
 ·exact k
 ·cases h
theorem eA1{α:Type}{u:List α}{C:List α→Prop}(h:u.length=1)(k:∀a,C [a]):C u:=by
 cases u
 ·cases h
 ·exact eA0 (C:=fun v=>C (_::v)) (Nat.succ.inj h) (k _)
theorem eA2{α:Type}{u:List α}{C:List α→Prop}(h:u.length=2)(k:∀a b,C [a,b]):C u:=by
 cases u
 ·cases h
 ·exact eA1 (C:=fun v=>C (_::v)) (Nat.succ.inj h) (k _)
theorem eA3{α:Type}{u:List α}{C:List α→Prop}(h:u.length=3)(k:∀a b c,C [a,b,c]):C u:=by
 cases u
 ·cases h
 ·exact eA2 (C:=fun v=>C (_::v)) (Nat.succ.inj h) (k _)
theorem eA4{α:Type}{u:List α}{C:List α→Prop}(h:u.length=4)(k:∀a b c d,C [a,b,c,d]):C u:=by
 cases u
 ·cases h
 ·exact eA3 (C:=fun v=>C (_::v)) (Nat.succ.inj h) (k _)
theorem eA5{α:Type}{u:List α}{C:List α→Prop}(h:u.length=5)(k:∀a b c d e,C [a,b,c,d,e]):C u:=by
 cases u
 ·cases h
 ·exact eA4 (C:=fun v=>C (_::v)) (Nat.succ.inj h) (k _)
local macro_rules| `(tactic|walk_at "r")=> `(tactic|first
 |refine⟨_,rfl,?_⟩
 |refine⟨_,_,rfl,rfl,?_⟩
 |refine⟨rfl,?_⟩)
theorem bK{c A B:Prop}[Decidable c](h1:c→A)(h2:¬c→B):if decide c=true then A else B:=by
 by_cases h:c
 ·rw[decide_eq_true h,if_pos Z];exact h1 h
 ·rw[decide_eq_false h,if_neg cb];exact h2 h
theorem jL{c A B:Prop}[Decidable c](h1:¬c→A)(h2:c→B):if(!decide c)=true then A else B:=by
 by_cases h:c
 ·rw[decide_eq_true h];exact h2 h
 ·rw[decide_eq_false h];exact h1 h
theorem bj{A B:Prop}(h1:c=true→A)(h2:c=false→B):if c=true then A else B:=by
 cases c with
 |true=>exact h1 Z
 |false=>rw[if_neg cb];exact h2 Z
def tJ(t:TT):TT:=fun σ H Q=>∃c H',(∀Q':Bool→Hp→Prop,Q' c H'→t σ H Q')∧Q c H'
theorem y8(h:PT X e t):PT X e (tJ t):=fun pins s σ H Q I ⟨_,_,h1,h2⟩=>h pins s σ H Q I (h1 _ h2)
def sg(b:Nat):Nat:=if b=32 then 32 else if 97≤b∧b<123 then b else if 48≤b∧b<63 then(if b=59 then 63 else b)else 63
inductive R_(vs:List V)(H:Hp)(Q:VK)(E:XK):Prop
 |mk:∀(b:Nat),vs=[.int b]→Q (.str ⟨#[sg b]⟩) H→R_ vs H Q E
theorem ah8(T:Txt K mg A):T.Hc.Ok P w mg base 1 R_:=by
 refine T.Hc.go aem fun _ _ _ _ H _ Q E hr h=>?_;obtain⟨b,rfl,k⟩:=h;refine⟨_,(af (aV (aL cO (pv 0) (a6 T.ahj)) (ak (ax bG)) aW) (af (aV (y8<|LL qh jz (a6 T.G5) (pv 0) (br dX (a6 T.G5) (gB AX (by rfl) T.cH PySem.boot_len (aF (a6 T.RU))))) (ak (ax (bM EX (a6 T.RU) (br iu (pv 0) (a6 T.G5))))) aW) (af (aV (y8<|LL qh jz (a6 T.G6) (pv 0) (br dX (a6 T.G6) (gB AX (by rfl) T.cH PySem.boot_len (aF (a6 T.RV))))) (ak (ax (bM EX (a6 T.RV) (br iu (pv 0) (a6 T.G6))))) aW) (ak (ax (a6 T.ahl)))))),?_⟩
 try dsimp only[aO,Cx.aQ]
 have last:¬(b=32)→¬(97≤b∧b<123)→¬(48≤b∧b<63)→Q (.str "?") H:=fun h1 h2 h3=>by
  unfold sg at k;rw[if_neg h1,if_neg h2,if_neg h3]at k;exact k
 have dig:¬(b=32)→¬(97≤b∧b<123)→(48≤b∧b<63)→∃c,j4 (aZ "0123456789:?<=>").cps.toList ((b:Int)-48)=some c∧Q (.str ⟨#[c]⟩) H:=fun h1 h2 h3=>by
  unfold sg at k;rw[if_neg h1,if_neg h2,if_pos h3]at k;refine⟨_,?_,k⟩;have:b=48∨b=49∨b=50∨b=51∨b=52∨b=53∨b=54∨b=55∨b=56∨b=57∨b=58∨b=59∨b=60∨b=61∨b=62:=by lia
  rcases this with h|h|h|h|h|h|h|h|h|h|h|h|h|h|h <;>(subst h;decide)
 have ah9:¬(b=32)→(97≤b∧b<123)→∃c,j4 (aZ "abcdefghijklmnopqrstuvwxyz").cps.toList ((b:Int)-97)=some c∧Q (.str ⟨#[c]⟩) H:=fun h1 h2=>by
  unfold sg at k;rw[if_neg h1,if_pos h2]at k;refine⟨_,?_,k⟩;have q:∀j:Nat,j<26→j4 (aZ "abcdefghijklmnopqrstuvwxyz").cps.toList (j:Int)=some (j+97:Nat):=by decide
  have:=q (b-97) (by lia);rw[show((b:Int)-97)=((b-97:Nat):Int) by lia,this];congr 1;lia
 (repeat walk_at "r")
 refine bK (fun h=>?_) (fun h=>?_)
 ·have e:b=32:=by injection h with h;lia
  subst e;exact k
 have hb:b≠32:=fun e=>h (by rw[e];rfl);refine⟨decide (97≤b∧b<123),H,fun Q' q=>?_,?_⟩
 ·refine⟨_,_,Z,Z,_,Z,bK (fun h=>?_) (fun h=>?_)⟩
  ·refine⟨_,Z,(by decide),_,_,Z,Z,_,_,Z,Z,_,Z,?_⟩;rw[show decide ((b:Int)<97+((aZ "abcdefghijklmnopqrstuvwxyz").length:Nat))=decide (97≤b∧b<123)from decide_eq_decide.mpr (by rw[show(aZ "abcdefghijklmnopqrstuvwxyz").length=26 by decide];lia)];exact q
  ·refine⟨_,Z,?_⟩;rw[decide_eq_false (by lia)]at q;exact q
 refine bK (fun h=>?_) (fun h2=>?_)
 ·obtain⟨c,e,q⟩:=ah9 hb h;exact⟨_,_,Z,Z,_,_,c,Z,Z,(by decide),e,q⟩
 refine⟨decide (48≤b∧b<63),H,fun Q' q=>?_,?_⟩
 ·refine⟨_,_,Z,Z,_,Z,bK (fun h=>?_) (fun h=>?_)⟩
  ·refine⟨_,Z,(by decide),_,_,Z,Z,_,_,Z,Z,_,Z,?_⟩;rw[show decide ((b:Int)<48+((aZ "0123456789:?<=>").length:Nat))=decide (48≤b∧b<63)from decide_eq_decide.mpr (by rw[show(aZ "0123456789:?<=>").length=15 by decide];lia)];exact q
  ·refine⟨_,Z,?_⟩;rw[decide_eq_false (by lia)]at q;exact q
 refine bK (fun h=>?_) (fun h3=>?_)
 ·obtain⟨c,e,q⟩:=dig hb h2 h;exact⟨_,_,Z,Z,_,_,c,Z,Z,(by decide),e,q⟩
 exact last hb h2 h3
theorem aa.upd{H:Hp}{p:ae}{o:HO}(h:H p=none):aa H (upd H p o):=fun b u e=>by rw[ao (cy e h)];exact e
theorem aa.bI(s:aa H H1)(h:H p=none):aa H (L2.upd H1 p o):=fun b u e=>by rw[ao (cy e h)];exact s b u e
def Ls(H:Hp)(as:List ae)(ls:List (List V)):Prop:=Paired (fun a l=>H a=some (.lst l)) as ls
theorem Ls.keep:∀{as}{ls},Ls H as ls→(∀a,a∈as→H' a=H a)→Ls H' as ls
 |_,_,.nil,_=>.nil
 |_,_,.cons r t,k=>.cons ((k _ cI).trans r) (Ls.keep t fun a m=>k a (c_ _ m))
theorem Ls.same(s:aa H H'):∀{as}{ls},Ls H as ls→Ls H' as ls
 |_,_,.nil=>.nil
 |_,_,.cons r t=>.cons (s _ _ r) (Ls.same s t)
theorem Ls.mem:∀{as}{ls},Ls H as ls→∀a,a∈as→∃l,H a=some (.lst l)
 |_,_,.nil,a,m=>by cases m
 |_,_,.cons r t,a,m=>by
  rcases b_.mp m with rfl|m
  ·exact⟨_,r⟩
  ·exact Ls.mem t a m
theorem Ls.snoc(h:H a=some (.lst l)):∀{as}{ls},Ls H as ls→Ls H (as++[a]) (ls++[l])
 |_,_,.nil=>.cons h .nil
 |_,_,.cons r t=>.cons r (Ls.snoc h t)
theorem Ls.len(h:Ls H as ls):as.length=ls.length:=Paired.length h
theorem Ls.get:∀{as}{ls}{i:Nat}{a},Ls H as ls→as[i]?=some a→∃l,ls[i]?=some l∧H a=some (.lst l)
 |_,_,_,_,.nil,e=>by simp at e
 |_,_,0,_,.cons r _,e=>by simp at e;subst e;exact⟨_,Z,r⟩
 |_,_,i+1,a,.cons _ t,e=>by
  obtain⟨l,h1,h2⟩:=Ls.get (i:=i) (a:=a) t (by simpa using e);exact⟨l,by simpa using h1,h2⟩
def nats(l:List Nat):List V:=l.map fun b=>V.int (b:Nat)
theorem cY{α β:Type}{f:α→β}{l:List α}{i:Nat}{y:β}(h:(l.map f)[i]?=some y):∃z,l[i]?=some z∧y=f z:=by
 rw[cR]at h;cases e:l[i]? with
 |none=>rw[e]at h;cases h
 |some z=>rw[e]at h;exact⟨z,Z,(bS h).symm⟩
theorem o_{α:Type}:∀{l:List α}{i}{z},l[i]?=some z→l.drop i=z::l.drop (i+1)
 |[],_,_,h=>by simp at h
 |a::l,0,z,h=>by simp at h;subst h;rfl
 |a::l,i+1,z,h=>by
  show l.drop i=z::l.drop (i+1);exact o_ (by simpa using h)
open Vbexab in
inductive Sa(K:PySem.W.Frag)(vs:List V)(H:Hp)(Q:VK)(E:XK):Prop
 |mk:∀(a:ae) (bs:List Nat),vs=[.ref a]→ai K H a (nats bs)→bs.length≤3000→(∀(H':Hp) (p:ae) (as:List ae),aa H H'→H p=none→(∀c,c∈as→H c=none)→H' p=some (.lst (as.map V.ref))→Ls H' as ((linesOf bs []).map nats)→Q (.ref p) H')→Sa K vs H Q E
open Vbexab in
theorem ah_(T:Txt K mg A):T.Hd.Ok P w mg base 1 (Sa K):=by
 refine T.Hd.go yE fun _ _ _ _ H _ Q E hr h=>?_;obtain⟨a,bs,rfl,hS,hlen,k⟩:=h;refine⟨_,(af (aE 1 yE (bi gA)) (af (aE 2 yE (bi gA)) (af (eV d8 Z (fL (pv 0)) (bY 3 yE) (ak (aV (aL cO (pv 3) (a6 T.ahi)) (af (dH (d4 PySem.F.plainAttrs_list PySem.F.slot_list_append PySem.F.type_list_append gQ (pv 1) (aF (pv 2)))) (ak (aE 2 yE (bi gA)))) (ak (dH (d4 PySem.F.plainAttrs_list PySem.F.slot_list_append PySem.F.type_list_append gQ (pv 2) (aF (pv 3)))))))) (af (dH (d4 PySem.F.plainAttrs_list PySem.F.slot_list_append PySem.F.type_list_append gQ (pv 1) (aF (pv 2)))) (ak (ax (pv 1))))))),?_⟩
 try dsimp only[aO,Cx.aQ]
 refine⟨bu _,fun l1 n1=>?_⟩;refine⟨bu _,fun l2 n2=>?_⟩;have Iz:l2≠l1:=fun e=>by subst e;rw[ah]at n2;cases n2
 have qR:H l2=none:=by rw[ao Iz]at n2;exact n2
 refine⟨a,Z,⟨_,aa.seq (aa.bI (aa.upd n1) qR) hS⟩,kL (K:=K) (a:=a) (xs:=nats bs)
  (fun i σ H'=>∃(v3:Option V) (pc:ae) (as:List ae) (done:List (List Nat)) (cur:List Nat),σ=[some (.ref a),some (.ref l1),some (.ref pc),v3]∧aa H H'∧H pc=none∧pc≠l1∧pc∉as∧l1∉as∧
   (∀c,c∈as→H c=none)∧H' l1=some (.lst (as.map V.ref))∧H' pc=some (.lst (nats cur))∧Ls H' as (done.map nats)∧linesOf bs []=done++linesOf (bs.drop i) cur.reverse∧cur.length≤i∧as.length≤i)
  ⟨none,l2,[],[],[],Z,aa.bI (aa.upd n1) qR,qR,Iz,by simp,by simp,by simp,by rw[ao Iz.symm,ah];rfl,ah,.nil,Z,a9 _,a9 _⟩ ?_ ?_ ?_⟩
 ·rintro i σ H' hi ⟨v3,pc,as,done,cur,rfl,sm,_⟩;exact aa.seq sm hS
 ·rintro i y σ H' hi ⟨v3,pc,as,done,cur,rfl,sm,y9,ne1,IA,y_,fr,h1,hc,lQ,bO,cz,zc⟩;obtain⟨z,hz,rfl⟩:=cY hi;have hb:i<bs.length:=(du.mp hz).1;rw[o_ hz]at bO;refine⟨Z,_,Z,bK (fun h=>?_) (fun h=>?_)⟩
  ·have e:z=10:=by injection h with h;lia
   subst e;refine⟨.inl ⟨Z,_,ai.of h1⟩,l1,_,_,Z,Z,h1,(by rw[aB];show as.length<16777216;lia),?_⟩;refine⟨bu _,fun p np=>?_⟩;have pd:p≠l1:=fun e=>by subst e;rw[ah]at np;cases np
   rw[ao pd]at np;have Sb:p≠pc:=(cy hc np).symm;refine⟨_,p,as++[pc],done++[cur],[],Z,aa.bI (aa.bI sm n1) (aa.free sm np),aa.free sm np,pd,?_,?_,?_,?_,ah,?_,?_,bu _,?_⟩
   ·intro m;rcases e_.mp m with m|m
    ·obtain⟨l,q⟩:=lQ.mem p m;rw[np]at q;cases q
    ·exact Sb (cA.mp m)
   ·intro m;rcases e_.mp m with m|m
    ·exact y_ m
    ·exact ne1 (cA.mp m).symm
   ·intro c m;rcases e_.mp m with m|m
    ·exact fr c m
    ·rw[cA.mp m];exact y9
   ·rw[ao pd.symm,ah,b9];rfl
   ·rw[b9];refine Ls.snoc ?_ (lQ.keep fun c m=>?_)
    ·rw[ao Sb.symm,ao ne1];exact hc
    ·have c1:c≠p:=fun e=>by
      subst e;obtain⟨l,q⟩:=lQ.mem c m;rw[np]at q;cases q
     rw[ao c1,ao (show c≠l1 from fun e=>y_ (e▸m))]
   ·rw[bO];show done++(cur.reverse.reverse::linesOf (bs.drop (i+1)) [])=_;rw[aia,mx];rfl
   ·rw[bT];simp;lia
  ·have e:z≠10:=fun e=>h (by rw[e];rfl);refine⟨.inl ⟨Z,_,ai.of hc⟩,pc,_,_,Z,Z,hc,(by unfold nats;rw[aB];show cur.length<16777216;lia),?_⟩;refine⟨_,pc,as,done,cur++[z],Z,aa.bI sm y9,y9,ne1,IA,y_,fr,?_,?_,lQ.keep (fun c m=>ao fun e=>IA (e▸m)),?_,?_,by lia⟩
   ·rw[ao ne1.symm];exact h1
   ·rw[ah];unfold nats;rw[b9];rfl
   ·rw[bO];show done++(if z=10 then _ else linesOf (bs.drop (i+1)) (z::cur.reverse))=_;rw[if_neg e,List.reverse_append];rfl
   ·rw[bT];simp;lia
 ·rintro σ H' ⟨v3,pc,as,done,cur,rfl,sm,y9,ne1,IA,y_,fr,h1,hc,lQ,bO,cz,zc⟩;unfold nats at bO cz zc;rw[aB]at bO cz zc;rw[qw]at bO;refine⟨.inl ⟨Z,_,ai.of h1⟩,l1,_,_,Z,Z,h1,(by rw[aB];show as.length<16777216;lia),?_⟩;refine(k _ l1 (as++[pc]) (aa.bI sm n1) n1 (fun c m=>(e_.mp m).elim (fr c) fun m=>by rw[cA.mp m];exact y9) (by rw[ah,b9];rfl) ?_);rw[bO];show Ls _ _ ((done++[cur.reverse.reverse]).map nats);rw[aia,b9];exact Ls.snoc (by rw[ao ne1];exact hc) (lQ.keep fun c m=>ao (show c≠l1 from fun e=>y_ (e▸m)))
def aib(t:TS):TS:=fun D σ H=>∃M:L2.St→Hp→Prop,t {D with nx:=M} σ H∧∀σ' H',M σ' H'→D.nx σ' H'
theorem cJ{st:aK}(h:PS X st t):PS X st (aib t):=fun pins s σ H D I ⟨M,h1,h2⟩=>
 aT (h pins s σ H {D with nx:=M} I h1) fun f s' q=>by
  cases f with
  |next=>obtain⟨σ',H',I',m⟩:=q;exact⟨σ',H',I',h2 _ _ m⟩
  |brk=>exact q
  |cont=>exact q
  |ret u=>exact q
def tx(l:List Nat):Str:=⟨l.toArray⟩
theorem mN l:TL.tl (tx l)=l:=Z
def wd(l:List Nat):Str:=tx (l.map sg)
def bA(l:List (List Nat)):List V:=l.map fun x=>V.str (wd x)
theorem Cy l:(tx l).length=l.length:=by rw[TL.sX,mN]
theorem nS l:(wd l).length=l.length:=by unfold wd;rw[Cy,aB]
theorem aic(h:tx a=tx b):a=b:=by
 have:=congrArg TL.tl h;rwa[mN,mN]at this
theorem aid c:sg c=32↔c=32:=by
 unfold sg;constructor
 ·intro h;split at h
  ·assumption
  ·split at h
   ·lia
   ·split at h
    ·split at h <;>lia
    ·lia
 ·intro h;rw[if_pos h]
open Vbexab in
theorem IB:∀(x acc:List Nat),(TL.ft [32] 0 (acc.reverse.map sg) (x.map sg)).filter (fun l=>decide (l≠[]))=(wordsOf x acc).map fun l=>l.map sg
 |[],acc=>by
  show([acc.reverse.map sg]:List (List Nat)).filter _=(if acc.isEmpty=true then[]else[acc.reverse]).map _;cases acc with
  |nil=>rfl
  |cons a r=>
   rw[lO,if_pos (by simp)];rfl
 |c::x,acc=>by
  rw[dw];by_cases h:c=32
  ·subst h;rw[TL.Nt (by rw[show sg 32=32 from Z];simp[TL.pre])];show List.filter _ ((acc.reverse.map sg)::TL.ft [32] 0 (([]:List Nat).reverse.map sg) (x.map sg))=(if(blank 32)=true then(if acc.isEmpty=true then wordsOf x []else acc.reverse::wordsOf x [])else wordsOf x (32::acc)).map _;rw[if_pos (show blank 32=true from Z),lO,IB x []];cases acc with
   |nil=>rfl
   |cons a r=>rw[if_pos (by simp)];rfl
  ·have hs:sg c≠32:=fun e=>h ((aid c).mp e);rw[TL.Nu (by simp[TL.pre,hs])];have e:(acc.reverse.map sg)++[sg c]=((c::acc).reverse.map sg):=by rw[Sd,b9];rfl
   rw[e,IB x (c::acc)];show _=(if(blank c)=true then _ else wordsOf x (c::acc)).map _;rw[if_neg (by unfold blank;simp[h])]
theorem Se:∀{bs:List Nat}{i},(∀c,c∈bs.take i→c≠35)→bs[i]?=some 35→fR bs=bs.take i
 |[],i,_,h=>by simp at h
 |a::r,0,_,h=>by simp at h;subst h;rfl
 |a::r,i+1,h1,h2=>by
  have e:a≠35:=h1 a (by simp);unfold fR;rw[aie,if_pos (by simp[e]),acE];congr 1;exact Se (fun c m=>h1 c (by simp[m])) (by simpa using h2)
theorem Sf:∀{bs:List Nat},(∀c,c∈bs→c≠35)→fR bs=bs
 |[],_=>rfl
 |a::r,h1=>by
  have e:a≠35:=h1 a (by simp);unfold fR;rw[aie,if_pos (by simp[e])];congr 1;exact Sf (fun c m=>h1 c (by simp[m]))
theorem IC(bs:List Nat):(fR bs).length≤bs.length:=(List.takeWhile_sublist _).length_le
theorem gT{α:Type}:∀{l:List α}{i}{x},l[i]?=some x→l.take (i+1)=l.take i++[x]
 |[],i,x,h=>by simp at h
 |a::l,0,x,h=>by
  have e:a=x:=bS h;subst e;rfl
 |a::l,i+1,x,h=>by
  have ih:=gT (l:=l) (i:=i) (x:=x) h;show a::l.take (i+1)=a::l.take i++[x];rw[ih];rfl
theorem aif l:Txt.join (aZ "") (l.map fun c=>(⟨#[c]⟩:Str))=tx l:=by
 apply TL.sY;rw[TL.join_eq,TL.Bf,mN];have e:TL.tl (aZ "")=[]:=Z;rw[e,jf];induction l with
 |nil=>rfl
 |cons a r ih=>
  cases r with
  |nil=>rfl
  |cons b r=>
   show[a]++([]++TL.sZ [] (((b::r)).map (TL.tl∘fun c=>⟨#[c]⟩)))=_;rw[ih];rfl
theorem aih(x:List Nat):((Txt.split (tx (x.map sg)) (aZ " ")).filter fun z=>decide (z≠tx []))=(kT x []).map wd:=by
 apply TL.Nr;have e:(Txt.split (tx (x.map sg)) (aZ " ")).map TL.tl=TL.ft [32] 0 (([]:List Nat).reverse.map sg) (x.map sg):=TL.acI (tx (x.map sg)) (aZ " ") (by decide) (TL.acJ (by decide+kernel));have f:∀L:List Str,(L.filter fun z=>decide (z≠tx [])).map TL.tl=(L.map TL.tl).filter fun l=>decide (l≠[]):=by
  intro L;induction L with
  |nil=>rfl
  |cons a r ih=>
   rw[lO,dw,lO];by_cases c:a=tx []
   ·subst c;rw[if_neg (by simp),if_neg (by simp[mN])];exact ih
   ·rw[if_pos (by simp[c]),if_pos (by simp;intro z;exact c (TL.sY (by rw[mN];show a.cps.toList=[];rw[z]))),dw,ih]
 rw[f,e,IB,jf];rfl
inductive Sg(K:PySem.W.Frag)(vs:List V)(H:Hp)(Q:VK)(E:XK):Prop
 |mk:∀(a:ae) (bs:List Nat),vs=[.ref a]→ai K H a (nats bs)→bs.length≤3000→(∀(H':Hp) (p:ae),aa H H'→H p=none→H' p=some (.lst (bA (kT (fR bs) [])))→Q (.ref p) H')→Sg K vs H Q E
inductive I1_(H:Hp)(a:ae)(bs:List Nat)(l1:ae)(σ:L2.St)(H':Hp):Prop|mk v2:σ=[some (.ref a),some (.ref l1),v2,none]→aa H H'→H' l1=some (.lst ((fR bs).map fun c=>V.str ⟨#[sg c]⟩))→I1_ H a bs l1 σ H'
inductive I2_(H:Hp)(a:ae)(bs:List Nat)(l1:ae)(i:Nat)(σ:L2.St)(H':Hp):Prop|mk v2:σ=[some (.ref a),some (.ref l1),v2,none]→aa H H'→H' l1=some (.lst ((bs.take i).map fun c=>V.str ⟨#[sg c]⟩))→(∀c,c∈bs.take i→c≠35)→I2_ H a bs l1 i σ H'
theorem aii(T:Txt K mg A):T.He.Ok P w mg base 2 (Sg K):=by
 refine T.He.go yF fun _ _ _ _ H _ Q E hr h=>?_;obtain⟨a,bs,rfl,hS,hlen,k⟩:=h;refine⟨_,(af (aE 1 yF (bi gA)) (af (cJ<|eV d8 rfl (fL (pv 0)) (bY 2 yF) (af (aV (aL cO (pv 2) (a6 T.ahk)) (ak Lo) aW) (ak (dH (d4 PySem.F.plainAttrs_list PySem.F.slot_list_append PySem.F.type_list_append gQ (pv 1) (aF (aI (ah8 T) hr T.Hc (aF (pv 2))))))))) (ak (ax (i8 Z yF.nd (fL (acV (F9 bG (pv 1)) bG)) (hZ (N:=["line","signs","byte","word"]) (sc:=aG Gw) (own:=[("word",3)]) (by decide+kernel)) (fun _ _ _ _ _=>(bY 3 yF)) (fun _ _ _ _ _=>(x9 (aL kM (pv 3) bG))) (fun _ _ _ _ _=>(pv 3))))))),?_⟩
 try dsimp only[aO,Cx.aQ]
 refine⟨bu _,fun l1 n1=>?_⟩;refine⟨I1_ H a bs l1,?_,?_⟩
 ·refine⟨a,Z,⟨_,aa.seq (aa.upd n1) hS⟩,kL (K:=K) (a:=a) (xs:=nats bs)
   (I2_ H a bs l1)
   ⟨none,Z,aa.upd n1,ah,by simp⟩ ?_ ?_ ?_⟩
  ·rintro i σ H' hi ⟨v2,rfl,sm,_⟩;exact aa.seq sm hS
  ·rintro i y σ H' hi ⟨v2,rfl,sm,h1,h2⟩;obtain⟨z,hz,rfl⟩:=cY hi;have hb:i<bs.length:=(du.mp hz).1;refine⟨Z,_,Z,bK (fun h=>?_) (fun h=>?_)⟩
   ·have e:z=35:=by injection h with h;lia
    subst e;refine⟨_,Z,sm,?_⟩;rw[h1,Se h2 hz]
   ·have e:z≠35:=fun e=>h (by rw[e];rfl);refine⟨.inl ⟨Z,_,ai.of h1⟩,z,Z,l1,_,_,Z,Z,h1,(by rw[aB,eW];show _<16777216;lia),?_⟩;refine⟨_,Z,aa.bI sm n1,?_,?_⟩
    ·rw[ah,gT hz,b9];rfl
    ·rw[gT hz];intro c m;rcases e_.mp m with m|m
     ·exact h2 c m
     ·rw[cA.mp m];exact e
  ·rintro σ H' ⟨v2,rfl,sm,h1,h2⟩;refine⟨_,Z,sm,?_⟩;unfold nats at h1 h2;rw[aB,fD]at h1 h2;rw[h1,Sf h2]
 ·rintro σ H' ⟨v2,rfl,sm,h1⟩;have bl:=IC bs;have hj:(((fR bs).map fun c=>(⟨#[sg c]⟩:Str)).map (·.length)).sum=(fR bs).length:=by
   rw[jf];induction (fR bs)with
   |nil=>rfl
   |cons a r ih=>rw[dw,ph,ih,b6];show 1+_=_;lia
  have ej:=aif ((fR bs).map sg);rw[jf]at ej;refine⟨⟨_,Z⟩,_,l1,(fR bs).map (fun c=>(⟨#[sg c]⟩:Str)),Z,Z,.inl (ai.of (by rw[h1,jf];rfl)),?_,⟨_,Z⟩,_,_,Z,Z,Z,?_,fun p np=>?_⟩
  ·rw[hj];show _+_*0≤_;lia
  ·have:Txt.join (aZ "") ((fR bs).map (fun c=>(⟨#[sg c]⟩:Str)))=tx ((fR bs).map sg):=ej;rw[this,Cy,aB];show _+2≤16777216;lia
  have e2:Txt.join (aZ "") ((fR bs).map (fun c=>(⟨#[sg c]⟩:Str)))=tx ((fR bs).map sg):=ej;rw[e2];have e3:=aih (fR bs);generalize hX:Txt.split (tx ((fR bs).map sg)) (aZ " ")=X at e3 ⊢;have xl:X.length≤5000:=by
   have q:=acL (tx ((fR bs).map sg)) (aZ " ");rw[hX,Cy,aB]at q
   lia
  refine⟨p,Z,⟨_,ai.of ah⟩,fun D nD=>ny (K:=K) (a:=p) (xs:=X.map V.str)
   (fun i H2=>aa H H2∧H2 p=some (.lst (X.map V.str))∧H2 D=some (.lst (((X.take i).filter fun z=>decide (z≠tx [])).map V.str))) ?_ ?_ ?_ ?_⟩
  ·have ie:D≠p:=fun e=>by subst e;rw[ah]at nD;cases nD
   rw[ao ie]at nD;refine⟨aa.bI (aa.bI sm (aa.free sm np)) (aa.free sm nD),?_,?_⟩
   ·rw[ao ie.symm,ah]
   ·rw[ah];rfl
  ·rintro i H2 hi ⟨_,h2,_⟩;exact ai.of h2
  ·rintro i y H2 hi ⟨cZ,h2,h3⟩;obtain⟨z,hz,rfl⟩:=cY hi;have hD:H D=none:=by
    have ie:D≠p:=fun e=>by subst e;rw[ah]at nD;cases nD
    rw[ao ie]at nD;exact aa.free sm nD
   have ie:p≠D:=fun e=>by subst e;rw[ah]at nD;cases nD
   refine⟨Z,Z,_,Z,jL (fun h=>?_) (fun h=>?_)⟩
   ·refine⟨_,h3,?_,aa.bI cZ hD,by rw[ao ie];exact h2,?_⟩
    ·rw[aB];have:=qS (fun z=>decide (z≠tx [])) (X.take i);rw[eW]at this;show _<16777216
     lia
    ·rw[ah,gT hz,ID,lO,if_pos (by simp;intro e;exact h (by rw[e];rfl)),b9];rfl
   ·refine⟨cZ,h2,?_⟩;rw[h3,gT hz,ID,lO,if_neg (by simp;injection h),aij,gi]
  ·rintro H2 ⟨cZ,h2,h3⟩;rw[aB,fD,e3]at h3;have hD:H D=none:=by
    have ie:D≠p:=fun e=>by subst e;rw[ah]at nD;cases nD
    rw[ao ie]at nD;exact aa.free sm nD
   exact k H2 D cZ hD (by rw[h3,jf];rfl)
def good(c:Nat):Bool:=kd c||ke c||c==58||c==60||c==61||c==62
theorem Sh c:good c=true↔(97≤c∧c≤122)∨(48≤c∧c≤58)∨(60≤c∧c≤62):=by
 unfold good kd ke;simp only[mC,dA,decide_eq_true_eq,beq_iff_eq]
 lia
theorem Si(h:good d=true):sg c=d↔c=d:=by
 rw[Sh]at h;unfold sg;constructor
 ·intro e;split at e
  ·lia
  ·split at e
   ·exact e
   ·split at e
    ·split at e
     ·lia
     ·exact e
    ·lia
 ·intro e;subst e;rw[if_neg (by lia)];split
  ·rfl
  ·rw[if_pos (by lia),if_neg (by lia)]
theorem Sj:∀{v k:List Nat},k.all good=true→(v.map sg=k↔v=k)
 |[],[],_=>by simp
 |[],_::_,_=>by simp
 |_::_,[],_=>by simp
 |a::v,b::k,hk=>by
  rw[mr,dA]at hk;rw[dw,Sk,Sk,Si hk.1,Sj hk.2]
theorem tX(hk:k.all good=true):wd v=tx k↔v=k:=by
 rw[←Sj hk];exact⟨fun h=>aic h,fun h=>by unfold wd;rw[h]⟩
theorem lR(hk:k.all good=true):wd k=tx k:=(tX hk).mpr Z
theorem ig s:aZ s=tx (aw s):=TL.sY (by rw[TL.acA,mN];rfl)
theorem aik:∀d,d<123→(d=32∨d=63∨97≤d∨(48≤d∧d≤62))→ail d=(kd d||ke d):=by decide+kernel
theorem aim:∀d,d<123→(d=32∨d=63∨97≤d∨(48≤d∧d≤62))→Sl d=kd d:=by decide+kernel
theorem ain:∀d,d<123→(d=32∨d=63∨97≤d∨(48≤d∧d≤62))→aio d=ke d:=by decide+kernel
theorem wz c:sg c<123∧(sg c=32∨sg c=63∨97≤sg c∨(48≤sg c∧sg c≤62)):=by
 unfold sg;split
 ·lia
 ·split
  ·lia
  ·split
   ·split <;>lia
   ·lia
theorem Sm c:kd (sg c)=kd c:=by
 unfold sg kd;rw[iJ];simp only[dA,decide_eq_true_eq];split
 ·lia
 ·split
  ·lia
  ·split
   ·split <;>lia
   ·lia
theorem IE c:ke (sg c)=ke c:=by
 unfold sg ke;rw[iJ];simp only[dA,decide_eq_true_eq];split
 ·lia
 ·split
  ·lia
  ·split
   ·split <;>lia
   ·lia
theorem Sn f l:(tx l).cps.all f=l.all f:=by
 unfold tx;simp
theorem aip(hv:v≠[]):Txt.isalnum (wd v)=v.all (fun c=>kd c||ke c):=by
 unfold Txt.isalnum;rw[nS,decide_eq_true (vU.mpr hv),eE];unfold wd;rw[Sn,sO];congr 1;funext c;show ail (sg c)=_;rw[aik _ (wz c).1 (wz c).2,Sm,IE]
theorem aiq(hv:v≠[]):Txt.isdigit (wd v)=v.all ke:=by
 unfold Txt.isdigit;rw[nS,decide_eq_true (vU.mpr hv),eE];unfold wd;rw[Sn,sO];congr 1;funext c;show aio (sg c)=_;rw[ain _ (wz c).1 (wz c).2,IE]
theorem air c:Txt.isalpha ⟨#[sg c]⟩=kd c:=by
 have e:Txt.isalpha ⟨#[sg c]⟩=Sl (sg c):=by
  unfold Txt.isalpha;show(decide (1>0)&&(#[sg c]).all Sl)=_;simp
 rw[e,aim _ (wz c).1 (wz c).2,Sm]
theorem in_words:∀(ks:List (List Nat)),(∀k∈ks,k.all good=true)→gC (.str (wd v)) (ks.map fun k=>V.str (tx k))=ks.contains v
 |[],_=>rfl
 |k::ks,h=>by
  have ih:=in_words (v:=v) ks fun k m=>h k (c_ _ m);unfold gC at ih ⊢;rw[dw,mv,ih,wA];congr 1;show(tx k==wd v)=(v==k);rw[iJ,beq_iff_eq,beq_iff_eq,eq_comm,tX (h k cI)]
theorem ais:∀k∈ait,k.all good=true:=by decide+kernel
inductive So(vs:List V)(H:Hp)(Q:VK)(E:XK):Prop
 |mk:∀(v:List Nat),vs=[.str (wd v)]→v≠[]→v.length≤3000→Q (.bl (nT v)) H→So vs H Q E
theorem aiu(T:Txt K mg A):T.Hf.Ok P w mg base 1 So:=by
 refine T.Hf.go aen fun _ _ _ _ H _ Q E hr h=>?_;obtain⟨v,rfl,hv,hl,k⟩:=h;refine⟨_,(ak (ax (u0 (nI qh (gB AX (by rfl) T.cH PySem.boot_len (aF (pv 0))) (a6 T.ahm)) (u0 (F8 PySem.F.slot_str_isalnum PySem.F.type_str_isalnum acR (pv 0)) (u0 (F8 PySem.F.slot_str_isalpha PySem.F.type_str_isalpha acQ (bM EX (pv 0) aH)) (xD (LJ EZ (pv 0) (a6 T.aho) (by rfl)))))))),?_⟩
 try dsimp only[aO,Cx.aQ]
 have zl:(wd v).length≤bf:=by rw[nS];show _≤16777216;lia
 have k1:∀b,b=nT v→Q (.bl b) H:=fun b e=>by rw[e];exact k
 have nm:nT v=(decide (v.length≤8)&&(v.all (fun c=>kd c||ke c)&&(v.head?.any kd&& !Vbexab.KEYS.contains v))):=by
  unfold nT;rw[decide_eq_true (show 1≤v.length from vU.mpr hv),eE]
 rw[nm]at k1;refine⟨_,Z,zl,_,_,Z,Z,_,Z,bK (fun h=>?_) (fun h=>?_)⟩
 ·rw[nS]at h;rw[decide_eq_true (show v.length≤8 by lia),eE]at k1;refine⟨⟨_,Z⟩,_,Z,Z,trivial,_,Z,?_⟩;rw[aip hv];refine bj (fun h=>?_) (fun h=>?_)
  ·rw[h,eE]at k1;obtain⟨c,r,rfl⟩:∃c r,v=c::r:=by
    cases v with
    |nil=>exact absurd Z hv
    |cons c r=>exact⟨c,r,Z⟩
   refine⟨_,_,sg c,Z,Z,zl,bX (j:=0) Z,⟨_,Z⟩,_,Z,Z,trivial,_,Z,?_⟩;rw[air];refine bj (fun h=>?_) (fun h=>?_)
   ·refine⟨_,_,Z,.inr (T.ahp _),Z,Z,?_⟩;refine k1 _ ?_;rw[show((c::r).head?.any kd)=kd c from Z,h,eE];show(!gC _ _)=_;congr 1;exact in_words ait ais
   ·refine k1 _ ?_;rw[show((c::r).head?.any kd)=kd c from Z,h];rfl
  ·refine k1 _ ?_;rw[h];rfl
 ·rw[nS]at h;refine k1 _ ?_;rw[decide_eq_false (show ¬v.length≤8 by lia)];rfl
def ov:Option Nat→V
 |none=>.aC
 |some n=>.int (n:Nat)
def dN(v:List Nat)(least most:Nat):Option Nat:=(cB most v).bind fun n=>if least≤n then some n else none
inductive Sq(vs:List V)(H:Hp)(Q:VK)(E:XK):Prop
 |mk:∀(v:List Nat) (least most:Nat),vs=[.str (wd v),.int least,.int most]→v≠[]→v.length≤3000→Q (ov (dN v least most)) H→Sq vs H Q E
theorem Sr:∀(v:List Nat) n,v.all ke=true→(v.map sg).foldl (fun acc c=>acc*10+(c-48)) n=v.foldl (fun n c=>10*n+(c-48)) n
 |[],_,_=>rfl
 |c::v,n,h=>by
  rw[mr,dA]at h;have hg:good c=true:=by
   have:=h.1;unfold ke at this;rw[Sh];simp only[dA,decide_eq_true_eq]at this
   lia
  rw[dw,nv,nv,(Si hg).mpr Z,aaD,Sr v _ h.2]
theorem wB(T:Txt K mg A):T.qF.Ok P w mg base 1 Sq:=by
 refine T.qF.go Qq fun _ _ _ _ H _ Q E hr h=>?_;obtain⟨v,least,most,rfl,hv,hl,k⟩:=h;refine⟨_,(af (aV (y8<|PW.pt<|eO (aL kN (gB AX (by rfl) T.cH PySem.boot_len (aF (pv 0))) (a6 T.ahn)) (gz (jX (gg (F8 PySem.F.slot_str_isdigit PySem.F.type_str_isdigit acP (pv 0)))))) (ak (ax bp)) aW) (af (aE 3 Qq (oJ acS (by rfl) T.ahd apR (aF (pv 0)))) (af (aV (y8<|PW.pt<|eO (aL jz (pv 3) (pv 1)) (gz (aL kN (pv 3) (pv 2)))) (ak (ax bp)) aW) (ak (ax (pv 3)))))),?_⟩
 try dsimp only[aO,Cx.aQ]
 have zl:(wd v).length≤bf:=by rw[nS];show _≤16777216;lia
 refine⟨!(v.all ke&&decide (v.length≤3)),H,fun Q' q=>?_,?_⟩
 ·refine⟨_,Z,zl,_,_,Z,Z,_,Z,bK (fun h=>?_) (fun h=>?_)⟩
  ·rw[nS]at h;rw[decide_eq_false (show ¬v.length≤3 by lia),xW]at q;exact q
  ·rw[nS]at h;rw[decide_eq_true (show v.length≤3 by lia),IF]at q;refine⟨⟨_,Z⟩,_,Z,Z,trivial,_,Z,?_⟩;rw[aiq hv];exact q
 have k1:∀x,x=ov (dN v least most)→Q x H:=fun x e=>by rw[e];exact k
 unfold dN cB at k1;cases hd:v.all ke with
 |false=>
  refine k1 _ ?_;rw[if_neg (by intro z;rw[hd]at z;cases z.1)];rfl
 |true=>
  refine jL (fun h=>?_) (fun h=>?_)
  ·refine k1 _ ?_;rw[if_neg (fun z=>h z.2.2)];rfl
  ·rw[if_pos ⟨hd,vU.mpr hv,h⟩]at k1;have dg:aiv (wd v).cps.toList:=by
    show aiv (v.map sg);intro c m;obtain⟨d,md,rfl⟩:=mB.mp m;have:=jC.mp hd d md;rw[←IE]at this;unfold ke at this;simp only[dA,decide_eq_true_eq]at this;exact this
   have e1:=intText_digits dg (show v.map sg≠[]from fun z=>hv (List.map_eq_nil_iff.mp z)) (by rw[nS];lia);have e2:NumText.digitsVal (wd v).cps.toList=v.foldl (fun n c=>10*n+(c-48)) 0:=Sr v 0 hd;rw[e2]at e1;generalize v.foldl (fun n c=>10*n+(c-48)) 0=n at e1 k1;refine⟨_,n,Z,e1,(by rw[nS];lia),?_⟩;refine⟨!(decide (n≤most)&&decide (least≤n)),H,fun Q' q=>?_,?_⟩
   ·refine⟨_,_,Z,Z,_,Z,bK (fun h=>?_) (fun h=>?_)⟩
    ·rw[decide_eq_false (show ¬least≤n by lia),xW]at q;exact q
    ·rw[decide_eq_true (show least≤n by lia),IF]at q;refine⟨_,_,Z,Z,_,Z,?_⟩;rw[show decide ((most:Int)<n)= !decide (n≤most) by rw[←decide_not];exact decide_eq_decide.mpr (by lia)];exact q
   ·refine bj (fun h=>?_) (fun h=>?_)
    ·refine k1 _ ?_;by_cases h1:n≤most
     ·rw[decide_eq_true h1,eE,←decide_not,decide_eq_true_eq]at h;show _=ov ((if n≤most then some n else none).bind _);rw[if_pos h1];show _=ov (if least≤n then some n else none);rw[if_neg h];rfl
     ·show _=ov ((if n≤most then some n else none).bind _);rw[if_neg h1];rfl
    ·refine(k1 _ ?_);rw[gU,dA,decide_eq_true_eq,decide_eq_true_eq]at h;show _=ov ((if n≤most then some n else none).bind _);rw[if_pos h.1];show _=ov (if least≤n then some n else none);rw[if_pos h.2];rfl
section
variable {X:Cx}{K0:PySem.W.Frag}
theorem aiw(hK:X.K=K0){o e:aY}{to te:TE}{apos pos:Pos}(ho:PE X o to)(he:PE X e te)(hs:bo [e] X.env=[(false,eval e X.env)]:=by rfl)(mw:oG o "join" X.env (eval o X.env)=eval o X.env:=by rfl)(j5:(apos.endLine==pos.line)=true:=by rfl):
  PE X (.Call (.Attribute o "join" apos) [e] [] pos) (Bg (fun x xs H Q=>∃a p,∃ys:List Str,x=.str a∧xs=[.ref p]∧(ai K0 H p (ys.map V.str)∨bV K0 H p (ys.map V.str))∧
   (ys.map (·.length)).sum+ys.length*a.length≤16777216∧Q (.str (Txt.join a ys)) H) to te):=by
 subst hK;exact F9 ho he hs mw j5
theorem jg(hK:X.K=K0)(he:PE X e ta)(hb:oG e f X.env (eval e X.env)=eval e X.env):PE X (.Attribute e f pos) (AO K0 ta f):=by
 subst hK;exact iw he hb
theorem zd(hK:X.K=K0):vv X (EW K0):=by subst hK;exact cF
theorem aix(hK:X.K=K0):eQ X (gy .In) (EY K0 false):=by subst hK;exact vD
theorem Cz(hK:X.K=K0){es:List aY}{k:Nat}{t:qb}{n:Nat}{pos:Pos}(hc:X.calm=true)(h:xE X es t)
  (hn:(r8 es X.env).length=n:=by rfl) (fK:(r8 es X.env).findIdx? (·.1)=none:=by rfl):PG X (.Tuple es k pos) (Lu K0 n t):=by
 subst hK;exact u7 hc h hn fK
end
theorem qT{J:It}{g:TG}{tb:TS}{D:Ends}(Pv:Nat→L2.St→Hp→Prop)(h0:Pv 0 σ H)(ze:∀i σ H,i<n→Pv i σ H→J.go i H)(fK:∀σ H,Pv n σ H→J.stop n H)
  (hs:∀i σ H x H',i<n→Pv i σ H→J.lE i H x H'→g x σ H' fun σ2 H2=>tb {D with nx:=Pv (i+1),ct:=Pv (i+1),bk:=D.nx} σ2 H2) (hd:∀σ H,Pv n σ H→D.nx σ H):
  ∃W:Nat→Nat→L2.St→Hp→Prop,(∃m,W 0 m σ H)∧∀i m σ H,W i m σ H→
   (J.stop i H∧D.nx σ H)∨(J.go i H∧∃N:L2.St→Hp→Prop,(∀σ' H',N σ' H'→∃m',m'<m∧W (i+1) m' σ' H')∧∀x H',J.lE i H x H'→g x σ H' fun σ2 H2=>tb {D with nx:=N,ct:=N,bk:=D.nx} σ2 H2):=by
 refine⟨fun i m σ H=>m=n-i∧i≤n∧Pv i σ H,⟨n,by simp,bu _,h0⟩,?_⟩;rintro i m σ H ⟨rfl,hi,p⟩;by_cases cW:i<n
 ·exact .inr ⟨ze i σ H cW p,Pv (i+1),fun σ' H' p'=>⟨n-(i+1),by lia,Z,cW,p'⟩,fun x H' y=>hs i σ H x H' cW p y⟩
 ·have e:i=n:=by lia
  subst e;exact .inl ⟨fK σ H p,hd σ H p⟩
theorem wC{J:It}{g:TG}{tt:TT}{te:TE}{Qd:Hp→Prop}(Pv:Nat→Hp→Prop)(h0:Pv 0 (upd H1 D (.lst [])))(ze:∀i H,i<n→Pv i H→J.go i H)(fK:∀H,Pv n H→J.stop n H)
  (hs:∀i H x H',i<n→Pv i H→J.lE i H x H'→g x (wipe σ vs) H' fun σ2 H2=>wipe σ2 vs=wipe σ vs∧tt σ2 H2 fun b H3=>
   if b=true then te σ2 H3 fun y H4=>∃acc,H4 D=some (.lst acc)∧acc.length<bf∧Pv (i+1) (upd H4 D (.lst (acc++[y])))else Pv (i+1) H3) (hd:∀H,Pv n H→Qd H):
  ∃W:Nat→Nat→Hp→Prop,(∃m,W 0 m (upd H1 D (.lst [])))∧∀i m H,W i m H→
   (J.stop i H∧Qd H)∨(J.go i H∧∃Nx:Hp→Prop,(∀H',Nx H'→∃m',m'<m∧W (i+1) m' H')∧∀x H',J.lE i H x H'→g x (wipe σ vs) H' fun σ2 H2=>wipe σ2 vs=wipe σ vs∧tt σ2 H2 fun b H3=>
    if b=true then te σ2 H3 fun y H4=>∃acc,H4 D=some (.lst acc)∧acc.length<bf∧Nx (upd H4 D (.lst (acc++[y])))else Nx H3):=by
 refine⟨fun i m H=>m=n-i∧i≤n∧Pv i H,⟨n,by simp,bu _,h0⟩,?_⟩;rintro i m H ⟨rfl,hi,p⟩;by_cases cW:i<n
 ·exact .inr ⟨ze i H cW p,Pv (i+1),fun H' p'=>⟨n-(i+1),by lia,Z,cW,p'⟩,fun x H' y=>hs i H x H' cW p y⟩
 ·have e:i=n:=by lia
  subst e;exact .inl ⟨fK H p,hd H p⟩
def cn(l:List (List Nat)):List V:=l.map fun x=>V.str (tx x)
theorem aiy L:cn L=(L.map tx).map V.str:=by unfold cn;rw[jf];rfl
theorem Ss:∀ws:List (List Nat),TL.sZ [32] ws=iR ws
 |[]=>rfl
 |[a]=>rfl
 |a::b::r=>by
  show a++([32]++TL.sZ [32] (b::r))=a++(32::iR (b::r));rw[Ss (b::r)];rfl
theorem Su(ws:List (List Nat)):Txt.join (aZ " ") (ws.map tx)=tx (iR ws):=by
 apply TL.sY;rw[TL.join_eq,TL.Bf,mN,←Ss,jf];have e:TL.tl (aZ " ")=[32]:=by decide+kernel
 rw[e];congr 1;exact CB ws
theorem join_none:∀(ws:List (List Nat)),Txt.join (aZ "") (ws.map tx)=tx (ws.flatMap id):=by
 intro ws;apply TL.sY;rw[TL.join_eq,TL.Bf,mN,jf];have e:TL.tl (aZ "")=[]:=Z;have e2:ws.map (TL.tl∘tx)=ws:=CB ws;rw[e,e2];induction ws with
 |nil=>rfl
 |cons a r ih=>
  cases r with
  |nil=>show a=a++[];simp
  |cons b r=>
   show a++([]++TL.sZ [] (b::r))=_;rw[ih (CB _)];rfl
theorem Sv(ws:List (List Nat)):((ws.map tx).map (·.length)).sum=(ws.map (·.length)).sum:=by
 rw[jf];congr 1
theorem Sw:∀ws:List (List Nat),(ws.map (·.length)).sum+ws.length≤(iR ws).length+1
 |[]=>by simp
 |[a]=>by simp[iR]
 |a::b::r=>by
  have ih:=Sw (b::r);show((a::b::r).map (·.length)).sum+((b::r).length+1)≤(a++(32::iR (b::r))).length+1;have e:(32::iR (b::r)).length=(iR (b::r)).length+1:=Z;rw[dw,ph,bT,e]
  lia
theorem Sx(ls:List (List (List Nat))):(ls.map fun ws=>iR ws++[10]).flatMap id=jM ls:=by
 unfold jM;rw[List.flatMap_map];rfl
theorem aiz{ls:List (List (List Nat))}(h:ws∈ls):(iR ws).length+1≤(jM ls).length:=by
 unfold jM;induction ls with
 |nil=>cases h
 |cons a r ih=>
  rw[pj,bT,bT];rcases b_.mp h with rfl|h
  ·simp only[jB];lia
  ·have:=ih h
   lia
theorem aiA(ls:List (List (List Nat))):ls.length≤(jM ls).length:=by
 unfold jM;induction ls with
 |nil=>simp
 |cons a r ih=>rw[pj,bT,bT,b6];simp only[jB];lia
inductive Sy(K:PySem.W.Frag)(vs:List V)(H:Hp)(Q:VK)(E:XK):Prop
 |mk:∀(a:ae) (as:List ae) (ls:List (List (List Nat))),vs=[.ref a]→H a=some (.lst (as.map V.ref))→Ls H as (ls.map cn)→(jM ls).length≤10000000→(∀(H':Hp) (p:ae),aa H H'→H p=none→H' p=some (.lst (nats (jM ls)))→Q (.ref p) H')→Sy K vs H Q E
theorem Sz(T:Txt K mg A):T.BO.Ok P w mg base 1 (Sy K):=by
 refine T.BO.go wg fun _ _ _ _ H _ Q E hr h=>?_;obtain⟨a,as,ls,rfl,ha,lQ,hsz,k⟩:=h;refine⟨_,(af (aE 1 wg (F9 bG (i8 Z wg.nd (fL (pv 0)) (hZ (N:=["lines","text","words","sign"]) (sc:=aG By) (own:=[("words",2)]) (by decide+kernel)) (fun _ _ _ _ _=>(bY 2 wg)) (fun _ _ _ _ _=>j6) (fun _ _ _ _ _=>(br Zg (aiw (K0:=K) Z bG (pv 2)) bG))))) (ak (ax (i8 Z wg.nd (Na (pv 1)) (hZ (N:=["lines","text","words","sign"]) (sc:=aG By) (own:=[("sign",3)]) (by decide+kernel)) (fun _ _ _ _ _=>(bY 3 wg)) (fun _ _ _ _ _=>j6) (fun _ _ _ _ _=>(gB Zh (by rfl) T.ahe apS (aF (pv 3)))))))),?_⟩
 try dsimp only[aO,Cx.aQ]
 have qo:as.length=ls.length:=by rw[lQ.len,aB]
 have SA:=aiA ls;refine⟨⟨_,Z⟩,a,Z,⟨_,ai.of ha⟩,fun D nD=>ny (K:=K) (a:=a) (xs:=as.map V.ref)
  (fun i H2=>aa H H2∧H2 D=some (.lst (cn ((ls.take i).map fun ws=>iR ws++[10])))) ⟨aa.upd nD,ah⟩ (fun i H2 _ q=>ai.of (q.1 _ _ ha)) ?_ ?_⟩
 ·rintro i y H2 hi ⟨sm,hD⟩;obtain⟨c,hc,rfl⟩:=cY hi;obtain⟨l,hl,cz⟩:=lQ.get hc;obtain⟨ws,fS,rfl⟩:=cY hl;have oR:i<ls.length:=(du.mp fS).1;have b1:=aiz (dI fS);have b2:=Sw ws;have e1:ws.map (fun x=>V.str (tx x))=(ws.map tx).map V.str:=by rw[jf];rfl
  refine⟨Z,?_⟩;refine⟨⟨_,Z⟩,_,_,ws.map tx,Z,Z,.inl (ai.of (by rw[←e1];exact sm _ _ cz)),?_,_,_,Z,Z,?_,?_⟩
  ·rw[Sv,aB,show(aZ " ").length=1 by decide+kernel];lia
  ·rw[Su,Cy,show(aZ "\n").length=1 by decide+kernel];show _≤16777216;lia
  ·refine⟨_,hD,?_,aa.bI sm nD,?_⟩
   ·unfold cn;rw[aB,aB,eW];show _<16777216;lia
   ·rw[ah,gT fS,Su];unfold cn;rw[b9,b9];have e2:(tx (iR ws)++aZ "\n")=tx (iR ws++[10]):=TL.sY (by rw[TL.FX,mN,mN];congr 1);rw[e2];rfl
 ·rintro H2 ⟨sm,hD⟩;rw[aB,qo,fD]at hD;have e1:cn (ls.map fun ws=>iR ws++[10])=((ls.map fun ws=>iR ws++[10]).map tx).map V.str:=aiy _;refine⟨_,D,(ls.map fun ws=>iR ws++[10]).map tx,Z,Z,.inl (ai.of (by rw[←e1];exact hD)),?_,?_⟩
  ·rw[Sv,show(aZ "").length=0 by decide+kernel];have:((ls.map fun ws=>iR ws++[10]).map (·.length)).sum=(jM ls).length:=by
    rw[←Sx];generalize (ls.map fun ws=>iR ws++[10])=L;induction L with
    |nil=>rfl
    |cons a r ih=>rw[dw,ph,ih,pj,bT];rfl
   rw[this];lia
  ·rw[join_none,Sx];refine⟨_,Z,fun D2 pk=>wC (n:=(jM ls).length)
    (fun i H3=>aa H H3∧H3 D2=some (.lst (nats ((jM ls).take i)))) ⟨aa.bI sm (aa.free sm pk),ah⟩ ?_ ?_ ?_ ?_⟩
   ·rintro i H3 hi _;show i<((jM ls).toArray).size;rw[c7];exact hi
   ·rintro H3 _;show((jM ls).toArray).size≤_;rw[c7];exact a9 _
   ·rintro i H3 x H4 hi ⟨lS,h3⟩ ⟨e4,c,hc,rfl⟩;subst e4;have Ay:(jM ls)[i]?=some c:=by
     have:((jM ls).toArray)[i]?=some c:=hc;rwa[List.getElem?_toArray]at this
    refine⟨Z,_,Z,Z,_,h3,?_,aa.bI lS (aa.free sm pk),?_⟩
    ·unfold nats;rw[aB,eW];show _<16777216;lia
    ·rw[ah,gT Ay];unfold nats;rw[b9];rfl
   ·rintro H3 ⟨lS,h3⟩;rw[fD]at h3;exact k H3 D2 lS (aa.free sm pk) h3
def tJs(t:TT):TT:=fun σ H Q=>∃c,(∀Q':Bool→Hp→Prop,(∀H',aa H H'→Q' c H')→t σ H Q')∧∀H',aa H H'→Q c H'
theorem fk(h:PT X e t):PT X e (tJs t):=fun pins s σ H Q I ⟨_,h1,h2⟩=>h pins s σ H Q I (h1 _ h2)
def aiC(t:TE):TE:=fun σ H Q=>∃c,(∀Q':VK,(∀H',aa H H'→Q' c H')→t σ H Q')∧∀H',aa H H'→Q c H'
theorem IG(h:PE X e t):PE X e (aiC t):=fun pins s σ H Q I ⟨_,h1,h2⟩=>h pins s σ H Q I (h1 _ h2)
def IH(g:cK):List (Str×V):=[("from_place",.int (g.a:Nat)),("to_place",.int (g.b:Nat)),("least",.int (g.least:Nat)),("most",.int (g.most:Nat))]
def aiD(c:aiE):List (Str×V):=[("name",.str (tx c.name)),("place",.int (c.place:Nat)),("rations",.int (c.food:Nat))]
def dO(A:aR)(H:Hp)(a:ae)(g:cK):Prop:=∃dx,H a=some (.ins A.Leg dx (IH g))
def mO(A:aR)(H:Hp)(a:ae)(c:aiE):Prop:=∃dx,H a=some (.ins A.Cache dx (aiD c))
structure LA where
 a:ae
 dx:ae
 lp:ae
 ll:ae
 lc:ae
 gs:List ae
 cs:List ae
def CC(r:LA)(l:aJ):List (Str×V):=[("places",.ref r.lp),("legs",.ref r.ll),("caches",.ref r.lc),("limit",.int (l.most:Nat)),("limit_told",.bl l.limit.isSome),("storms",.int (l.bad:Nat)),("storms_told",.bl l.storms.isSome)]
structure CD(l:aJ):Prop where
 names:∀n∈l.places,n.all good=true
 cnames:∀c∈l.caches,c.name.all good=true
 places:l.places.length≤7
 legs:l.legs.length≤24
 caches:l.caches.length≤4
 most:l.most≤60
 dJ:∀g∈l.legs,1≤g.least∧g.least≤g.most∧g.most≤12∧g.a<l.places.length∧g.b<l.places.length
 cache:∀c∈l.caches,c.place<l.places.length∧1≤c.food∧c.food≤60
 oQ:∀g∈l.legs,d9 l g.a g.b=some g
structure bq(A:aR)(H:Hp)(r:LA)(l:aJ):Prop where
 ins:H r.a=some (.ins A.Land r.dx (CC r l))
 pl:H r.lp=some (.lst (cn l.places))
 lg:H r.ll=some (.lst (r.gs.map V.ref))
 gs:Paired (dO A H) r.gs l.legs
 ch:H r.lc=some (.lst (r.cs.map V.ref))
 cs:Paired (mO A H) r.cs l.caches
 ok:CD l
theorem cG{α:Type}{R:Hp→ae→α→Prop}(k:∀a x,R H a x→R H' a x):∀{as}{xs},Paired (R H) as xs→Paired (R H') as xs
 |_,_,.nil=>.nil
 |_,_,.cons r t=>.cons (k _ _ r) (cG k t)
theorem dO.same(s:aa H H')(h:dO A H a g):dO A H' a g:=let ⟨d,e⟩:=h;⟨d,s _ _ e⟩
theorem mO.same(s:aa H H')(h:mO A H a g):mO A H' a g:=let ⟨d,e⟩:=h;⟨d,s _ _ e⟩
theorem bq.same(s:aa H H')(h:bq A H r l):bq A H' r l:=
 ⟨s _ _ h.ins,s _ _ h.pl,s _ _ h.lg,cG (fun _ _ q=>q.same s) h.gs,s _ _ h.ch,cG (fun _ _ q=>q.same s) h.cs,h.ok⟩
theorem fc{α:Type}{R:ae→α→Prop}:∀{as}{xs}{i:Nat}{a},Paired R as xs→as[i]?=some a→∃x,xs[i]?=some x∧R a x
 |_,_,_,_,.nil,e=>by simp at e
 |_,_,0,_,.cons r _,e=>by simp at e;subst e;exact⟨_,Z,r⟩
 |_,_,i+1,a,.cons _ t,e=>by
  obtain⟨l,h1,h2⟩:=fc (i:=i) (a:=a) t (by simpa using e);exact⟨l,by simpa using h1,h2⟩
theorem SD l:(cn l).all i6=true:=by
 unfold cn;rw[sO,jC];intro x _;rfl
theorem CF:∀{l:List (List Nat)}{m}{z},m<l.idxOf v→l[m]?=some z→z≠v
 |[],m,z,h,e=>by simp at e
 |a::l,m,z,h,e=>by
  rw[SE]at h;by_cases c:a=v
  ·subst c;simp at h
  ·have hb:(a==v)=false:=beq_eq_false_iff_ne.mpr c;rw[hb]at h;cases m with
   |zero=>simp at e;subst e;exact c
   |succ m=>exact CF (l:=l) (m:=m) (by simp at h;lia) (by simpa using e)
inductive SF(A:aR)(vs:List V)(H:Hp)(Q:VK)(E:XK):Prop
 |mk:∀(r:LA) (l:aJ) (v:List Nat),vs=[.ref r.a,.str (wd v)]→bq A H r l→Q (ov (bW l v)) H→SF A vs H Q E
theorem wD(T:Txt K mg A):T.qG.Ok P w mg base 1 (SF A):=by
 refine T.qG.go aer fun _ _ _ _ H _ Q E hr h=>?_;obtain⟨r,l,v,rfl,hL,k⟩:=h;refine⟨_,(af (aV (oE vD (pv 1) (aj 0) (by rfl)) (ak (ax (d4 PySem.F.plainAttrs_list PySem.F.slot_list_index PySem.F.type_list_index MC (aj 0) (aF (pv 1))))) aW) (ak (ax bp))),?_⟩
 try dsimp only[aO,Cx.aQ]
 refine(ag hL.ins T.jd Z ⟨_,_,Z,.inl (ai.of hL.pl),Z,SD _,_,Z,?_⟩);show if gC _ _=true then _ else _
 have e:=in_words (v:=v) l.places hL.ok.names;unfold cn;rw[e];unfold bW at k;refine bj (fun h=>?_) (fun h=>?_)
 ·have hm:v∈l.places:=zf.mp h;have hi:l.places.idxOf v<l.places.length:=SG hm;simp only[if_pos hi]at k;have hg:l.places[l.places.idxOf v]?=some v:=by
   rw[di hi,SH hi]
  refine(ag hL.ins T.jd Z ⟨.inl ⟨Z,_,ai.of hL.pl⟩,r.lp,_,_,l.places.idxOf v,.str (tx v),Z,Z,ai.of hL.pl,Z,SD _,?_,?_,?_,k⟩)
  ·unfold cn;rw[cR,hg];rfl
  ·show(tx v==wd v)=true;rw[lR (hL.ok.names v hm)];exact beq_self_eq_true _
  ·intro m z' II vJ;obtain⟨y,hy,rfl⟩:=cY vJ;have ne:=CF II hy;show(tx y==wd v)=false;rw[beq_eq_false_iff_ne];intro q;exact ne ((tX (hL.ok.names y (dI hy))).mp q.symm).symm
 ·have hm:v∉l.places:=fun z=>by rw[zf.mpr z]at h;cases h
  have hi:¬l.places.idxOf v<l.places.length:=fun z=>hm (IJ.mp z);simp only[if_neg hi]at k;exact k
inductive SI(A:aR)(vs:List V)(H:Hp)(Q:VK)(E:XK):Prop
 |mk:∀(r:LA) (l:aJ) (v:List Nat),vs=[.ref r.a,.str (wd v)]→bq A H r l→(∀H',aa H H'→Q (ov (fE l v)) H')→SI A vs H Q E
theorem SJ:∀{l:List (List Nat)}{i},l[i]?=some v→(∀m z,m<i→l[m]?=some z→z≠v)→l.idxOf v=i
 |[],i,h,_=>by simp at h
 |a::l,0,h,_=>by simp at h;subst h;simp[SE]
 |a::l,i+1,h,h2=>by
  have c:a≠v:=h2 0 a (by lia) Z;have hb:(a==v)=false:=beq_eq_false_iff_ne.mpr c;rw[SE,hb];have ih:=SJ (l:=l) (i:=i) (by simpa using h) (fun m z hm hz=>h2 (m+1) z (by lia) (by simpa using hz));rw[ih];rfl
inductive I4_(H:Hp)(r:LA)(l:Vbexab.Land)(v:List Nat)(i:Nat)(σ:L2.St)(H':Hp):Prop|mk v2 v3:σ=[some (.ref r.a),some (.str (wd v)),v2,v3]→aa H H'→(∀m z,m<i→(l.caches.map fun c=>c.name)[m]?=some z→z≠v)→I4_ H r l v i σ H'
theorem IK(T:Txt K mg A):T.yS.Ok P w mg base 1 (SI A):=by
 refine T.yS.go GK fun _ _ _ _ H _ Q E hr h=>?_;obtain⟨r,l,v,rfl,hL,k⟩:=h;refine⟨_,(af (cJ<|eV d8 rfl (Be rfl T.wj (aF (aj 0))) (u7 (n:=2) rfl (ir (bY 2 GK) (ir (bY 3 GK) oB))) (ak (aV (aL cO (aj 3) (pv 1)) (ak (ax (pv 2))) aW))) (ak (ax bp))),?_⟩
 try dsimp only[aO,Cx.aQ]
 have cz:r.cs.length=l.caches.length:=Paired.length hL.cs;have names:∀n,n∈(l.caches.map fun c=>c.name)→n.all good=true:=fun n m=>by
  obtain⟨c,hc,rfl⟩:=mB.mp m;exact hL.ok.cnames c hc
 refine⟨fun σ H'=>aa H H'∧v∉(l.caches.map fun c=>c.name),?_,?_⟩
 ·refine(ag hL.ins T.lP Z ⟨r.lc,_,Z,ai.of hL.ch,qT (n:=l.caches.length)
   (I4_ H r l v) ⟨none,none,Z,aa.refl _,fun m z hm=>absurd hm (mH _)⟩ ?_ ?_ ?_ ?_⟩)
  ·rintro i σ H' hi ⟨v2,v3,rfl,sm,_⟩;obtain⟨a,ha⟩:∃a,r.cs[i]?=some a:=⟨_,di (by lia)⟩
   exact⟨_,V.ref a,ai.of (sm _ _ hL.ch),by rw[cR,ha];rfl⟩
  ·rintro σ H' ⟨v2,v3,rfl,sm,_⟩;exact⟨_,ai.of (sm _ _ hL.ch),by rw[aB];lia⟩
  ·rintro i σ H' x lT hi ⟨v2,v3,rfl,sm,dh⟩ ⟨t,y,rfl,nt,rfl,hy⟩;have hy:=hy _ (ai.of (sm _ _ hL.ch));obtain⟨a,ha,rfl⟩:=cY hy;obtain⟨c,hc,dx,gf⟩:=fc hL.cs ha;have cZ:aa H (upd H' t (.tup [.int (i:Nat),.ref a])):=aa.bI sm (aa.free sm nt);have CG:(l.caches.map fun c=>c.name)[i]?=some c.name:=by rw[cR,hc];rfl
   refine⟨t,_,Z,bV.of ah,Z,_,_,Z,_,_,Z,Z,?_⟩;refine(ag (cZ _ _ gf) T.ww Z ⟨Z,_,Z,bK (fun h=>?_) (fun h=>?_)⟩)
   ·have e:v=c.name:=by
     injection h with h;exact(tX (names _ (dI CG))).mp h.symm
    refine ?_;have tY:=SJ (v:=v) (by rw[e];exact CG) dh;have:=k _ cZ;unfold fE at this;simp only[tY,if_pos hi]at this;exact this
   ·refine⟨_,_,Z,cZ,fun m z hm hz=>?_⟩;by_cases zg:m<i
    ·exact dh m z zg hz
    ·have:m=i:=by lia
     subst this;rw[CG]at hz;have hz:=bS hz;subst hz;intro q;exact h (by rw[←q,←lR (names _ (by rw[q];exact dI (q▸CG)))])
  ·rintro σ H' ⟨v2,v3,rfl,sm,dh⟩;refine⟨sm,fun m=>?_⟩;obtain⟨i,hi⟩:=wF m;exact dh i v (by have:=(du.mp hi).1;rw[aB]at this;exact this) hi Z
 ·rintro σ H' ⟨sm,hn⟩;have:=k H' sm;unfold fE at this;have hi:¬(l.caches.map fun c=>c.name).idxOf v<l.caches.length:=fun z=>hn (IJ.mp (by rw[aB];exact z));simp only[if_neg hi]at this;exact this
theorem find_here{α:Type}{f:α→Bool}:∀{l:List α}{i:Nat}{x},l[i]?=some x→f x=true→(∀m y,m<i→l[m]?=some y→f y=false)→l.find? f=some x
 |[],i,x,h,_,_=>by simp at h
 |a::l,0,x,h,h1,_=>by simp at h;subst h;rw[qp,h1]
 |a::l,i+1,x,h,h1,h2=>by
  rw[qp,h2 0 a (by lia) Z];exact find_here (by simpa using h) h1 fun m y hm hy=>h2 (m+1) y (by lia) (by simpa using hy)
theorem find_none{α:Type}{f:α→Bool}{l:List α}(h:∀m y,m<l.length→l[m]?=some y→f y=false):l.find? f=none:=by
 rw[SK];intro x hx;obtain⟨i,hi⟩:=wF hx;rw[h i x (du.mp hi).1 hi];exact cb
inductive SM(A:aR)(vs:List V)(H:Hp)(Q:VK)(E:XK):Prop
 |mk:∀(r:LA) (l:aJ) (p q:Nat),vs=[.ref r.a,.int p,.int q]→bq A H r l→(d9 l p q=none→Q .aC H)→(∀(g:cK) (i:Nat) (b:ae),d9 l p q=some g→l.legs[i]?=some g→r.gs[i]?=some b→dO A H b g→Q (.ref b) H)→SM A vs H Q E
theorem qU(T:Txt K mg A):T.nP.Ok P w mg base 1 (SM A):=by
 refine T.nP.go Qr fun _ _ _ _ H _ Q E hr h=>?_;obtain⟨r,l,p,q,rfl,hL,k0,k1⟩:=h;refine⟨_,(af (cJ<|eV d8 rfl (fL (aj 0)) (bY 3 Qr) (ak (aV (y8 (PW.pt (jW (aL cO (aj 3) (pv 1)) (jV (aL cO (aj 3) (pv 2)))))) (ak (ax (pv 3))) aW))) (ak (ax bp))),?_⟩
 try dsimp only[aO,Cx.aQ]
 have nU:r.gs.length=l.legs.length:=Paired.length hL.gs;refine⟨fun σ H'=>H'=H∧d9 l p q=none,?_,?_⟩
 ·refine(ag hL.ins T.qK Z ⟨r.ll,Z,⟨_,ai.of hL.lg⟩,kL (K:=K) (a:=r.ll) (xs:=r.gs.map V.ref)
   (fun i σ H'=>∃v3,σ=[some (.ref r.a),some (.int p),some (.int q),v3]∧H'=H∧∀m y,m<i→l.legs[m]?=some y→(y.a==p&&y.b==q)=false) ⟨none,Z,Z,fun m y hm=>absurd hm (mH _)⟩ ?_ ?_ ?_⟩)
  ·rintro i σ H' hi ⟨v3,rfl,rfl,_⟩;exact ai.of hL.lg
  ·rintro i y σ H' hi ⟨v3,rfl,rfl,dh⟩;obtain⟨b,hb,rfl⟩:=cY hi;obtain⟨g,hg,dx,ii⟩:=fc hL.gs hb;refine⟨(g.a==p&&g.b==q),H',fun Q' q'=>?_,?_⟩
   ·refine(ag ii T.oY Z ⟨Z,_,Z,bK (fun h=>?_) (fun h=>?_)⟩)
    ·have e:g.a=p:=by injection h with h;lia
     refine(ag ii T.nQ Z ⟨Z,_,Z,?_⟩);rw[show decide (V.int (g.b:Nat)=V.int (q:Nat))=(g.a==p&&g.b==q) by
      rw[e,beq_self_eq_true,eE,iJ,decide_eq_true_eq,beq_iff_eq];exact⟨fun z=>by injection z with z;lia,fun z=>by rw[z]⟩]
     exact q'
    ·have e:¬g.a=p:=fun z=>h (by rw[z]);rw[show(g.a==p)=false from beq_eq_false_iff_ne.mpr e]at q';exact q'
   ·refine bj (fun h=>?_) (fun h=>?_)
    ·refine(k1 g i b (find_here hg h dh) hg hb ⟨dx,ii⟩)
    ·refine⟨_,Z,Z,fun m y hm hy=>?_⟩;by_cases zg:m<i
     ·exact dh m y zg hy
     ·have:m=i:=by lia
      subst this;rw[hg]at hy;rw[←bS hy];exact h
  ·rintro σ H' ⟨v3,rfl,rfl,dh⟩;rw[aB,nU]at dh;exact⟨Z,find_none dh⟩
 ·rintro σ H' ⟨rfl,hn⟩;exact k0 hn
inductive SN(A:aR)(vs:List V)(H:Hp)(Q:VK)(E:XK):Prop
 |mk:∀(r:LA) (l:aJ) (v:List Nat),vs=[.ref r.a,.str (wd v)]→v≠[]→v.length≤3000→bq A H r l→(∀H',aa H H'→Q (.bl (nV l v)) H')→SN A vs H Q E
theorem kg o:decide (ov o=V.aC)=o.isNone:=by
 cases o with
 |none=>rfl
 |some n=>rfl
theorem SO(T:Txt K mg A):T.BP.Ok P w mg base 2 (SN A):=by
 refine T.BP.go aes fun _ _ _ _ H _ Q E hr h=>?_;obtain⟨r,l,v,rfl,hv,hl,hL,k⟩:=h;refine⟨_,(ak (ax (IG (u0 (aI (aiu T) hr T.Hf (aF (pv 1))) (u0 (nI de (aI (wD T) hr T.qG (aX (pv 0) (pv 1))) bp) (xD (nI de (aI (IK T) hr T.yS (aX (pv 0) (pv 1))) bp))))))),?_⟩
 try dsimp only[aO,Cx.aQ]
 refine⟨.bl (nV l v),fun Q' q=>?_,k⟩;have q1:∀b H',aa H H'→b=nV l v→Q' (.bl b) H':=fun b H' s e=>by rw[e];exact q H' s
 unfold nV at q1;refine⟨v,Z,hv,hl,_,Z,bj (fun h=>?_) (fun h=>?_)⟩
 ·rw[h,eE]at q1;refine⟨r,l,v,Z,hL,Z,_,Z,?_⟩;rw[kg];refine bj (fun h=>?_) (fun h=>?_)
  ·rw[h,eE]at q1;refine⟨r,l,v,Z,hL,fun H' sm=>?_⟩;refine⟨Z,q1 _ H' sm ?_⟩;exact kg _
  ·exact q1 _ H (aa.refl _) (by rw[h];rfl)
 ·exact q1 _ H (aa.refl _) (by rw[h];rfl)
def LA.own(r:LA):List ae:=[r.a,r.lp,r.ll,r.lc]
def dB(r:LA)(H H':Hp):Prop:=∀b o,H b=some o→b∉r.own→H' b=some o
structure Sep(r:LA):Prop where
 h1:r.lp≠r.ll
 h2:r.lp≠r.lc
 h3:r.ll≠r.lc
theorem dB.of(s:aa H H'):dB r H H':=fun b o e _=>s b o e
theorem dB.trans(e:r'.own=r.own)(a:dB r H H1)(b:dB r' H1 H2):dB r H H2:=fun c o h n=>b c o (a c o h n) (by rw[e];exact n)
theorem dB.upd(s:dB r H H1)(m:p∈r.own):dB r H (L2.upd H1 p o):=fun b u e n=>by
 rw[ao (fun z=>n (by rw[z];exact m))];exact s b u e n
def gG(A:aR)(r:LA)(H:Hp)(Q:VK):Option aJ→Prop
 |some l=>∀(H':Hp) (r':LA),r'.own=r.own→dB r H H'→bq A H' r' l→Sep r'→Q (.bl true) H'
 |none=>∀(H':Hp),dB r H H'→Q (.bl false) H'
theorem IL{v:List Nat}(h:nV l v=true):v.all good=true:=by
 unfold nV nT at h;simp only[dA]at h;have:=h.1.2.2.1;rw[jC]at this ⊢;intro c hc;have q:=this c hc;unfold good;rw[mC]at q;rcases q with q|q <;>rw[q]<;>simp
def CI(l:aJ)(v:List Nat):Option aJ:=if nV l v=true∧l.places.length<7 then some {l with places:=l.places++[v]}else none
inductive SQ(A:aR)(vs:List V)(H:Hp)(Q:VK)(E:XK):Prop
 |mk:∀(r:LA) (l:aJ) (v:List Nat),vs=[.ref r.a,.str (wd v)]→v≠[]→v.length≤3000→bq A H r l→Sep r→gG A r H Q (CI l v)→SQ A vs H Q E
theorem dO.but(h:dO A H a g)(k:∀o,H a=some o→H' a=some o):dO A H' a g:=let ⟨d,e⟩:=h;⟨d,k _ e⟩
theorem mO.but(h:mO A H a g)(k:∀o,H a=some o→H' a=some o):mO A H' a g:=let ⟨d,e⟩:=h;⟨d,k _ e⟩
theorem aiF(T:Txt K mg A):T.Hj.Ok P w mg base 3 (SQ A):=by
 refine T.Hj.go aet fun _ _ _ _ H _ Q E hr h=>?_;obtain⟨r,l,v,rfl,hv,hl,hL,hS,k⟩:=h;refine⟨_,(af (aV (fk (PW.pt (eO (jX (gg (aI (SO T) hr T.BP (aX (pv 0) (pv 1))))) (gz (aL cO (cT T.cH (aj 0)) (a6 T.ahq)))))) (ak (ax dv)) aW) (af (dH (d4 PySem.F.plainAttrs_list PySem.F.slot_list_append PySem.F.type_list_append gQ (aj 0) (aF (pv 1)))) (ak (ax dv)))),?_⟩
 try dsimp only[aO,Cx.aQ]
 refine⟨!(decide (l.places.length<7)&&nV l v),fun Q' q=>?_,fun H1 sm=>?_⟩
 ·refine⟨r,l,v,Z,hv,hl,hL,fun H1 sm=>⟨_,Z,?_⟩⟩;refine bj (fun h=>?_) (fun h=>?_)
  ·rw[h8]at h;have:=q H1 sm;rw[h,xW]at this;exact this
  ·rw[gU]at h;have:=q H1 sm;rw[h,IF]at this;have cu:=hL.same sm;refine(ag cu.ins T.jd Z ⟨_,_,Z,.inl (ai.of cu.pl),Z,_,Z,?_⟩);unfold cn;rw[aB];rw[show decide (V.int (l.places.length:Nat)=V.int 7)= !decide (l.places.length<7) by
    rw[←decide_not];refine decide_eq_decide.mpr ⟨fun z=>by injection z with z;lia,fun z=>?_⟩;have:=hL.ok.places;rw[show l.places.length=7 by lia];rfl]
   exact this
 ·have cu:=hL.same sm;unfold CI at k;refine bj (fun h=>?_) (fun h=>?_)
  ·rw[if_neg (by
    intro z;rw[decide_eq_true z.2,z.1]at h;cases h)]at k
   exact k H1 (dB.of sm)
  ·rw[gU,dA,decide_eq_true_eq]at h;rw[if_pos ⟨h.2,h.1⟩]at k;refine(ag cu.ins T.jd Z ⟨.inl ⟨Z,_,ai.of cu.pl⟩,r.lp,_,_,Z,Z,cu.pl,?_,?_⟩)
   ·unfold cn;rw[aB];show _<16777216;lia
   ·have SR:r.a≠r.lp:=cE cu.ins cu.pl (by intro z;cases z);refine k _ r Z (dB.upd (dB.of sm) (by simp[LA.own])) ⟨by rw[ao SR];exact cu.ins,?_,by rw[ao hS.h1.symm];exact cu.lg,?_,by rw[ao hS.h2.symm];exact cu.ch,?_,?_⟩ hS
    ·rw[ah];unfold cn;rw[b9,lR (IL h.2)];rfl
    ·exact cG (fun a g q=>q.but fun o e=>by
      obtain⟨d,e2⟩:=q;rw[ao (cE e2 cu.pl (by intro z;cases z))];exact e) cu.gs
    ·exact cG (fun a g q=>q.but fun o e=>by
      obtain⟨d,e2⟩:=q;rw[ao (cE e2 cu.pl (by intro z;cases z))];exact e) cu.cs
    ·refine⟨?_,hL.ok.cnames,?_,hL.ok.legs,hL.ok.caches,hL.ok.most,?_,?_,hL.ok.oQ⟩
     ·intro n m;rcases e_.mp m with m|m
      ·exact hL.ok.names n m
      ·rw[cA.mp m];exact IL h.2
     ·show(l.places++[v]).length≤7;rw[bT];simp only[jB];lia
     ·intro g m;have:=hL.ok.dJ g m;show _∧_∧_∧g.a<(l.places++[v]).length∧g.b<(l.places++[v]).length;rw[bT];lia
     ·intro c m;have:=hL.ok.cache c m;show c.place<(l.places++[v]).length∧_;rw[bT];lia
inductive SS(A:aR)(vs:List V)(H:Hp)(Q:VK)(E:XK):Prop
 |mk:∀(x dx:ae) (v0 v1 v2 v3:V),vs=[.ref x,v0,v1,v2,v3]→H x=some (.ins A.Leg dx [])→(∀H':Hp,H' x=some (.ins A.Leg dx [("from_place",v0),("to_place",v1),("least",v2),("most",v3)])→(∀b,b≠x→H' b=H b)→Q .aC H')→SS A vs H Q E
theorem aiG(T:Txt K mg A):T.Hg.Ok P w mg base 1 (SS A):=by
 refine T.Hg.go aeo fun _ _ _ _ H _ Q E hr h=>?_;obtain⟨x,dx,v0,v1,v2,v3,rfl,hx,k⟩:=h;refine⟨_,(af (bC (pv 0) (pv 1) Z) (af (bC (pv 0) (pv 2) Z) (af (bC (pv 0) (pv 3) Z) (ak (bC (pv 0) (pv 4) Z))))),?_⟩
 try dsimp only[aO,Cx.aQ]
 refine(bD hx T.oY ?_);refine(bD ah T.nQ ?_);refine(bD ah T.oZ ?_);refine(bD ah T.Cn ?_);exact k _ ah fun b hb=>by simp only[ao hb]
inductive SU(A:aR)(vs:List V)(H:Hp)(Q:VK)(E:XK):Prop
 |mk:∀(x dx:ae) (v0 v1 v2:V),vs=[.ref x,v0,v1,v2]→H x=some (.ins A.Cache dx [])→(∀H':Hp,H' x=some (.ins A.Cache dx [("name",v0),("place",v1),("rations",v2)])→(∀b,b≠x→H' b=H b)→Q .aC H')→SU A vs H Q E
theorem aiH(T:Txt K mg A):T.Hh.Ok P w mg base 1 (SU A):=by
 refine T.Hh.go aep fun _ _ _ _ H _ Q E hr h=>?_;obtain⟨x,dx,v0,v1,v2,rfl,hx,k⟩:=h;refine⟨_,(af (bC (pv 0) (pv 1) Z) (af (bC (pv 0) (pv 2) Z) (ak (bC (pv 0) (pv 3) Z)))),?_⟩
 try dsimp only[aO,Cx.aQ]
 refine(bD hx T.ww ?_);refine(bD ah T.Ig ?_);refine(bD ah T.Ih ?_);exact k _ ah fun b hb=>by simp only[ao hb]
inductive SV(A:aR)(vs:List V)(H:Hp)(Q:VK)(E:XK):Prop
 |mk:∀(x dx:ae) (v0 v1 v2 v3:V),vs=[.ref x,v0,v1,v2,v3]→H x=some (.ins A.ic dx [])→(∀H':Hp,H' x=some (.ins A.ic dx [("place",v0),("held",v1),("storms",v2),("food",v3)])→(∀b,b≠x→H' b=H b)→Q .aC H')→SV A vs H Q E
theorem wG(T:Txt K mg A):T.qH.Ok P w mg base 1 (SV A):=by
 refine T.qH.go aew fun _ _ _ _ H _ Q E hr h=>?_;obtain⟨x,dx,v0,v1,v2,v3,rfl,hx,k⟩:=h;refine⟨_,(af (bC (pv 0) (pv 1) Z) (af (bC (pv 0) (pv 2) Z) (af (bC (pv 0) (pv 3) Z) (ak (bC (pv 0) (pv 4) Z))))),?_⟩
 try dsimp only[aO,Cx.aQ]
 refine(bD hx T.fQ ?_);refine(bD ah T.jJ ?_);refine(bD ah T.jK ?_);refine(bD ah T.qL ?_);exact k _ ah fun b hb=>by simp only[ao hb]
inductive SW(A:aR)(vs:List V)(H:Hp)(Q:VK)(E:XK):Prop
 |mk:∀(x dx:ae) (v0 v1 v2:V),vs=[.ref x,v0,v1,v2]→H x=some (.ins A.jI dx [])→(∀H':Hp,H' x=some (.ins A.jI dx [("about",v0),("sign",v1),("number",v2)])→(∀b,b≠x→H' b=H b)→Q .aC H')→SW A vs H Q E
theorem SX(T:Txt K mg A):T.BS.Ok P w mg base 1 (SW A):=by
 refine T.BS.go aeC fun _ _ _ _ H _ Q E hr h=>?_;obtain⟨x,dx,v0,v1,v2,rfl,hx,k⟩:=h;refine⟨_,(af (bC (pv 0) (pv 1) Z) (af (bC (pv 0) (pv 2) Z) (ak (bC (pv 0) (pv 3) Z)))),?_⟩
 try dsimp only[aO,Cx.aQ]
 refine(bD hx T.kb ?_);refine(bD ah T.mL ?_);refine(bD ah T.mM ?_);exact k _ ah fun b hb=>by simp only[ao hb]
inductive SY(A:aR)(vs:List V)(H:Hp)(Q:VK)(E:XK):Prop
 |mk:∀(x dx:ae) (v0 v1 v2 v3:V),vs=[.ref x,v0,v1,v2,v3]→H x=some (.ins A.Rule dx [])→(∀H':Hp,H' x=some (.ins A.Rule dx [("place",v0),("conditions",v1),("caches",v2),("end",v3)])→(∀b,b≠x→H' b=H b)→Q .aC H')→SY A vs H Q E
theorem aiI(T:Txt K mg A):T.Hu.Ok P w mg base 1 (SY A):=by
 refine T.Hu.go aeD fun _ _ _ _ H _ Q E hr h=>?_;obtain⟨x,dx,v0,v1,v2,v3,rfl,hx,k⟩:=h;refine⟨_,(af (bC (pv 0) (pv 1) Z) (af (bC (pv 0) (pv 2) Z) (af (bC (pv 0) (pv 3) Z) (ak (bC (pv 0) (pv 4) Z))))),?_⟩
 try dsimp only[aO,Cx.aQ]
 refine(bD hx T.Ik ?_);refine(bD ah T.Il ?_);refine(bD ah T.Cp ?_);refine(bD ah T.Cq ?_);exact k _ ah fun b hb=>by simp only[ao hb]
inductive IM(A:aR)(vs:List V)(H:Hp)(Q:VK)(E:XK):Prop
 |mk:∀(x dx:ae) (v0 v1 v2:V),vs=[.ref x,v0,v1,v2]→H x=some (.ins A.Step dx [])→(∀H':Hp,H' x=some (.ins A.Step dx [("way",v0),("taking",v1),("leg",v2)])→(∀b,b≠x→H' b=H b)→Q .aC H')→IM A vs H Q E
theorem IP(T:Txt K mg A):T.y1.Ok P w mg base 1 (IM A):=by
 refine T.y1.go aeG fun _ _ _ _ H _ Q E hr h=>?_;obtain⟨x,dx,v0,v1,v2,rfl,hx,k⟩:=h;refine⟨_,(af (bC (pv 0) (pv 1) Z) (af (bC (pv 0) (pv 2) Z) (ak (bC (pv 0) (pv 3) Z)))),?_⟩
 try dsimp only[aO,Cx.aQ]
 refine(bD hx T.tS ?_);refine(bD ah T.y4 ?_);refine(bD ah T.tT ?_);exact k _ ah fun b hb=>by simp only[ao hb]
inductive S0(A:aR)(vs:List V)(H:Hp)(Q:VK)(E:XK):Prop
 |mk:∀(x dx:ae) (v0 v1:V),vs=[.ref x,v0,v1]→H x=some (.ins A.mI dx [])→(∀H':Hp,H' x=some (.ins A.mI dx [("party",v0),("extras",v1)])→(∀b,b≠x→H' b=H b)→Q .aC H')→S0 A vs H Q E
theorem S1(T:Txt K mg A):T.BX.Ok P w mg base 1 (S0 A):=by
 refine T.BX.go aeH fun _ _ _ _ H _ Q E hr h=>?_;obtain⟨x,dx,v0,v1,rfl,hx,k⟩:=h;refine⟨_,(af (bC (pv 0) (pv 1) Z) (ak (bC (pv 0) (pv 2) Z))),?_⟩
 try dsimp only[aO,Cx.aQ]
 refine(bD hx T.tU ?_);refine(bD ah T.wy ?_);exact k _ ah fun b hb=>by simp only[ao hb]
inductive S2(A:aR)(vs:List V)(H:Hp)(Q:VK)(E:XK):Prop
 |mk:∀(x dx:ae) (v0 v1:V),vs=[.ref x,v0,v1]→H x=some (.ins A.nN dx [])→(∀H':Hp,H' x=some (.ins A.nN dx [("rations",v0),("leg",v1)])→(∀b,b≠x→H' b=H b)→Q .aC H')→S2 A vs H Q E
theorem aiJ(T:Txt K mg A):T.HY.Ok P w mg base 1 (S2 A):=by
 refine T.HY.go aeM fun _ _ _ _ H _ Q E hr h=>?_;obtain⟨x,dx,v0,v1,rfl,hx,k⟩:=h;refine⟨_,(af (bC (pv 0) (pv 1) Z) (ak (bC (pv 0) (pv 2) Z))),?_⟩
 try dsimp only[aO,Cx.aQ]
 refine(bD hx T.R6 ?_);refine(bD ah T.Ir ?_);exact k _ ah fun b hb=>by simp only[ao hb]
inductive S3(A:aR)(vs:List V)(H:Hp)(Q:VK)(E:XK):Prop
 |mk:∀(x dx:ae) (v0 v1 v2 v3:V),vs=[.ref x,v0,v1,v2,v3]→H x=some (.ins A.Call dx [])→(∀H':Hp,H' x=some (.ins A.Call dx [("number",v0),("told",v1),("row",v2),("behind",v3)])→(∀b,b≠x→H' b=H b)→Q .aC H')→S3 A vs H Q E
theorem aiK(T:Txt K mg A):T.G9.Ok P w mg base 1 (S3 A):=by
 refine T.G9.go ael fun _ _ _ _ H _ Q E hr h=>?_;obtain⟨x,dx,v0,v1,v2,v3,rfl,hx,k⟩:=h;refine⟨_,(af (bC (pv 0) (pv 1) Z) (af (bC (pv 0) (pv 2) Z) (af (bC (pv 0) (pv 3) Z) (ak (bC (pv 0) (pv 4) Z))))),?_⟩
 try dsimp only[aO,Cx.aQ]
 refine(bD hx T.y3 ?_);refine(bD ah T.gS ?_);refine(bD ah T.wu ?_);refine(bD ah T.R1 ?_);exact k _ ah fun b hb=>by simp only[ao hb]
inductive S4(A:aR)(vs:List V)(H:Hp)(Q:VK)(E:XK):Prop
 |mk:∀(x dx:ae),vs=[.ref x]→H x=some (.ins A.Land dx [])→(∀(H':Hp) (r:LA),r.a=x→bq A H' r {}→Sep r→(∀b o,b≠x→H b=some o→H' b=some o)→H r.lp=none→H r.ll=none→H r.lc=none→Q .aC H')→S4 A vs H Q E
theorem aiL(T:Txt K mg A):T.Hi.Ok P w mg base 1 (S4 A):=by
 refine T.Hi.go aeq fun _ _ _ _ H _ Q E hr h=>?_;obtain⟨x,dx,rfl,hx,k⟩:=h;refine⟨_,(af (bC (pv 0) (bi gA) Z) (af (bC (pv 0) (bi gA) Z) (af (bC (pv 0) (bi gA) Z) (af (bC (pv 0) (a6 T.ahu) Z) (af (bC (pv 0) dv Z) (af (bC (pv 0) (a6 T.ahv) Z) (ak (bC (pv 0) dv Z)))))))),?_⟩
 try dsimp only[aO,Cx.aQ]
 refine⟨bu _,fun p1 n1=>?_⟩;have a1:x≠p1:=cy hx n1;refine(bD (by rw[ao a1];exact hx) T.jd ?_);refine⟨bu _,fun p2 n2=>?_⟩;have a2:x≠p2:=cy ah n2;rw[ao a2.symm]at n2;have b2:p2≠p1:=fun e=>by subst e;rw[ah]at n2;cases n2
 rw[ao b2]at n2;refine(bD (by rw[ao a2];exact ah) T.qK ?_);refine⟨bu _,fun p3 n3=>?_⟩;have a3:x≠p3:=cy ah n3;rw[ao a3.symm]at n3;have b3:p3≠p2:=fun e=>by subst e;rw[ah]at n3;cases n3
 rw[ao b3,ao a3.symm]at n3;have c3:p3≠p1:=fun e=>by subst e;rw[ah]at n3;cases n3
 rw[ao c3]at n3;refine(bD (by rw[ao a3];exact ah) T.lP ?_);refine(bD ah T.o6 ?_);refine(bD ah T.Ii ?_);refine(bD ah T.Co ?_);refine(bD ah T.Ij ?_);refine k _ ⟨x,dx,p1,p2,p3,[],[]⟩ Z ⟨ah,?_,?_,.nil,?_,.nil,?_⟩ ⟨b2.symm,c3.symm,b3.symm⟩ ?_ n1 n2 n3
 ·simp only[ao a1.symm,ao c3.symm,ao b2.symm,ah];rfl
 ·simp only[ao a2.symm,ao b3.symm,ah];rfl
 ·simp only[ao a3.symm,ah];rfl
 ·refine⟨?_,?_,?_,?_,?_,?_,?_,?_,(fun n m=>by cases m)⟩
  ·intro n m;cases m
  ·intro n m;cases m
  ·exact bu _
  ·exact bu _
  ·exact bu _
  ·decide
  ·intro n m;cases m
  ·intro n m;cases m
 ·intro b o hb e;simp only[ao hb,ao (cy e n1),ao (cy e n2),ao (cy e n3)];exact e
inductive S5(A:aR)(vs:List V)(H:Hp)(Q:VK)(E:XK):Prop
 |mk:∀(r:LA) (l:aJ) (v:List Nat),vs=[.ref r.a,.str (wd v)]→v≠[]→v.length≤3000→bq A H r l→Sep r→gG A r H Q ((dN v 1 60).bind fun m=>if l.limit.isNone=true then some {l with limit:=some m}else none)→S5 A vs H Q E
theorem CJ(h:dN v a b=some m):a≤m∧m≤b:=by
 unfold dN cB at h;split at h
 ·simp only at h;split at h
  ·rename_i h2;change (if a≤_ then some _ else none)=some m at h;split at h
   ·cases h;exact⟨by assumption,h2⟩
   ·cases h
  ·cases h
 ·cases h
theorem tZ{H:Hp}(h:H a=some (.ins C d fs))(h':H b=some (.ins D e gs))(n:fs.length≠gs.length):a≠b:=
 cE h h' fun z=>by injection z with _ _ z;exact n (by rw[z])
theorem bq.fields(h:bq A H r l)(e1:l'.places=l.places)(e2:l'.legs=l.legs)(e3:l'.caches=l.caches)(hm:l'.most≤60):bq A (upd H r.a (.ins A.Land r.dx (CC r l'))) r l':=by
 refine⟨ah,?_,?_,?_,?_,?_,?_⟩
 ·rw[ao (cE h.pl h.ins (by intro z;cases z)),e1];exact h.pl
 ·rw[ao (cE h.lg h.ins (by intro z;cases z))];exact h.lg
 ·rw[e2];exact cG (fun a g q=>q.but fun o e=>by
   obtain⟨d,e2⟩:=q;rw[ao (tZ e2 h.ins (show 4≠7 by decide))];exact e) h.gs
 ·rw[ao (cE h.ch h.ins (by intro z;cases z))];exact h.ch
 ·rw[e3];exact cG (fun a g q=>q.but fun o e=>by
   obtain⟨d,e2⟩:=q;rw[ao (tZ e2 h.ins (show 3≠7 by decide))];exact e) h.cs
 ·refine⟨?_,?_,?_,?_,?_,hm,?_,?_,(by unfold d9;rw[e2];exact h.ok.oQ)⟩
  ·rw[e1];exact h.ok.names
  ·rw[e3];exact h.ok.cnames
  ·rw[e1];exact h.ok.places
  ·rw[e2];exact h.ok.legs
  ·rw[e3];exact h.ok.caches
  ·rw[e1,e2];exact h.ok.dJ
  ·rw[e1,e3];exact h.ok.cache
theorem aiM(T:Txt K mg A):T.Hm.Ok P w mg base 2 (S5 A):=by
 refine T.Hm.go Qt fun _ _ _ _ H _ Q E hr h=>?_;obtain⟨r,l,v,rfl,hv,hl,hL,hS,k⟩:=h;refine⟨_,(af (aE 2 Qt (aI (wB T) hr T.qF (cS (pv 1) aH (a6 T.RX)))) (af (aV (fk (PW.pt (eO (aL de (pv 2) bp) (gz (gg (aj 0)))))) (ak (ax dv)) aW) (af (bC (pv 0) (pv 2) Z) (af (bC (pv 0) dv Z) (ak (ax dv)))))),?_⟩
 try dsimp only[aO,Cx.aQ]
 refine⟨v,1,60,Z,hv,hl,?_⟩;refine⟨((dN v 1 60).isNone||l.limit.isSome),fun Q' q=>?_,fun H1 sm=>?_⟩
 ·refine⟨Z,_,Z,?_⟩;rw[kg];refine bj (fun h=>?_) (fun h=>?_)
  ·have:=q H (aa.refl _);rw[h]at this;exact this
  ·refine(ag hL.ins T.Ii Z ⟨_,Z,?_⟩);have:=q H (aa.refl _);rw[h,gE]at this;exact this
 ·have cu:=hL.same sm;cases hn:dN v 1 60 with
  |none=>
   rw[hn]at k;exact k H1 (dB.of sm)
  |some m=>
   rw[hn]at k;have hm:=CJ hn;cases hi:l.limit with
   |some x=>
    change gG A r H Q (if l.limit.isNone=true then _ else none)at k;rw[if_neg (by rw[hi];exact cb)]at k;exact k H1 (dB.of sm)
   |none=>
    change gG A r H Q (if l.limit.isNone=true then _ else none)at k;rw[if_pos (by rw[hi];rfl)]at k;refine(bD cu.ins T.o6 ?_);refine(bD ah T.Ii ?_);rw[D7];exact k _ r Z (dB.upd (dB.of sm) (by simp[LA.own])) (cu.fields (l':={l with limit:=some m}) Z Z Z hm.2) hS
inductive S6(A:aR)(vs:List V)(H:Hp)(Q:VK)(E:XK):Prop
 |mk:∀(r:LA) (l:aJ) (v:List Nat),vs=[.ref r.a,.str (wd v)]→v≠[]→v.length≤3000→bq A H r l→Sep r→gG A r H Q ((dN v 0 8).bind fun m=>if l.storms.isNone=true then some {l with storms:=some m}else none)→S6 A vs H Q E
theorem aiN(T:Txt K mg A):T.Hn.Ok P w mg base 2 (S6 A):=by
 refine T.Hn.go Qu fun _ _ _ _ H _ Q E hr h=>?_;obtain⟨r,l,v,rfl,hv,hl,hL,hS,k⟩:=h;refine⟨_,(af (aE 2 Qu (aI (wB T) hr T.qF (cS (pv 1) aH (a6 T.G7)))) (af (aV (fk (PW.pt (eO (aL de (pv 2) bp) (gz (gg (aj 0)))))) (ak (ax dv)) aW) (af (bC (pv 0) (pv 2) Z) (af (bC (pv 0) dv Z) (ak (ax dv)))))),?_⟩
 try dsimp only[aO,Cx.aQ]
 refine⟨v,0,8,Z,hv,hl,?_⟩;refine⟨((dN v 0 8).isNone||l.storms.isSome),fun Q' q=>?_,fun H1 sm=>?_⟩
 ·refine⟨Z,_,Z,?_⟩;rw[kg];refine bj (fun h=>?_) (fun h=>?_)
  ·have:=q H (aa.refl _);rw[h]at this;exact this
  ·refine(ag hL.ins T.Ij Z ⟨_,Z,?_⟩);have:=q H (aa.refl _);rw[h,gE]at this;exact this
 ·have cu:=hL.same sm;cases hn:dN v 0 8 with
  |none=>
   rw[hn]at k;exact k H1 (dB.of sm)
  |some m=>
   rw[hn]at k;cases hi:l.storms with
   |some x=>
    change gG A r H Q (if l.storms.isNone=true then _ else none)at k;rw[if_neg (by rw[hi];exact cb)]at k;exact k H1 (dB.of sm)
   |none=>
    change gG A r H Q (if l.storms.isNone=true then _ else none)at k;rw[if_pos (by rw[hi];rfl)]at k;refine(bD cu.ins T.Co ?_);refine(bD ah T.Ij ?_);rw[D7];exact k _ r Z (dB.upd (dB.of sm) (by simp[LA.own])) (cu.fields (l':={l with storms:=some m}) Z Z Z cu.ok.most) hS
theorem nW{α:Type}{R:ae→α→Prop}{x:α}(h:R a x):∀{as}{xs},Paired R as xs→Paired R (as++[a]) (xs++[x])
 |_,_,.nil=>.cons h .nil
 |_,_,.cons r t=>.cons r (nW h t)
theorem IQ(h:dN v a b=some m):cB b v=some m:=by
 unfold dN at h;cases e:cB b v with
 |none=>rw[e]at h;cases h
 |some n=>
  rw[e]at h;change (if a≤n then some n else none)=some m at h;split at h
  ·exact h
  ·cases h
theorem IR(h:dN v a b=none):∀m,cB b v=some m→m<a:=by
 intro m e;unfold dN at h;rw[e]at h;change (if a≤m then some m else none)=none at h;split at h
 ·cases h
 ·lia
theorem zh{v:List Nat}(h:bW l v=some a):a<l.places.length:=by
 unfold bW at h;simp only at h;split at h
 ·cases h;assumption
 ·cases h
def kU(l:aJ)(p q lo hi:List Nat):Option aJ:=match bW l p,bW l q,cB 12 lo,cB 12 hi with
 |some a,some b,some x,some y=>lU l a b x y
 |_,_,_,_=>none
theorem aiO{p q lo hi:List Nat}(h:((bW l p).isNone||((bW l q).isNone||((dN lo 1 12).isNone||(dN hi 1 12).isNone)))=true):kU l p q lo hi=none:=by
 unfold kU;cases h1:bW l p with
 |none=>rfl
 |some a=>
  cases h2:bW l q with
  |none=>rfl
  |some b=>
   cases h3:cB 12 lo with
   |none=>rfl
   |some x=>
    cases h4:cB 12 hi with
    |none=>rfl
    |some y=>
     rw[h1,h2]at h;show lU l a b x y=none;unfold lU;refine if_pos ?_;cases h5:dN lo 1 12 with
     |none=>have:=IR h5 x h3;lia
     |some m=>
      cases h6:dN hi 1 12 with
      |none=>have:=IR h6 y h4;lia
      |some m2=>rw[h5,h6]at h;cases h
inductive S7(A:aR)(vs:List V)(H:Hp)(Q:VK)(E:XK):Prop
 |mk:∀(r:LA) (l:aJ) (p q lo hi:List Nat),vs=[.ref r.a,.str (wd p),.str (wd q),.str (wd lo),.str (wd hi)]→(lo≠[]∧hi≠[]∧lo.length≤3000∧hi.length≤3000)→bq A H r l→Sep r→gG A r H Q (kU l p q lo hi)→S7 A vs H Q E
theorem aa.make{fs:List (Str×V)}(nx:H x=none)(nd:H dx=none)(k:∀b,b≠x→H2 b=(L2.upd (L2.upd H dx (.own x)) x (.ins C dx [])) b):aa H H2:=fun b o e=>by
 rw[k b (cy e nx),ao (cy e nx),ao (cy e nd)];exact e
theorem IS(T:Txt K mg A):T.yT.Ok P w mg base 3 (S7 A):=by
 refine T.yT.go yG fun _ _ _ _ H _ Q E hr h=>?_;obtain⟨r,l,p,q,lo,hi,rfl,⟨h_,hhi,llo,lhi⟩,hL,hS,k⟩:=h;refine⟨_,(af (aE 5 yG (aI (wD T) hr T.qG (aX (pv 0) (pv 1)))) (af (aE 6 yG (aI (wD T) hr T.qG (aX (pv 0) (pv 2)))) (af (aE 7 yG (aI (wB T) hr T.qF (cS (pv 3) aH (a6 T.RW)))) (af (aE 8 yG (aI (wB T) hr T.qF (cS (pv 4) aH (a6 T.RW)))) (af (aV (fk (PW.pt (eO (aL de (pv 5) bp) (eO (aL de (pv 6) bp) (eO (aL de (pv 7) bp) (gz (aL de (pv 8) bp))))))) (ak (ax dv)) aW) (af (aV (fk (PW.pt (eO (aL cO (pv 5) (pv 6)) (gz (aL jz (pv 8) (pv 7)))))) (ak (ax dv)) aW) (af (aV (fk (PW.pt (eO (aL xJ (aI (qU T) hr T.nP (cS (pv 0) (pv 5) (pv 6))) bp) (gz (aL cO (cT T.cH (aj 0)) (a6 T.ahr)))))) (ak (ax dv)) aW) (af (dH (d4 PySem.F.plainAttrs_list PySem.F.slot_list_append PySem.F.type_list_append gQ (aj 0) (aF (gk (aiG T) hr T.ahQ T.Hg (c8 (pv 5) (pv 6) (pv 7) (pv 8)))))) (ak (ax dv)))))))))),?_⟩
 try dsimp only[aO,Cx.aQ]
 refine⟨r,l,p,Z,hL,?_⟩;refine⟨r,l,q,Z,hL,?_⟩;refine⟨lo,1,12,Z,h_,llo,?_⟩;refine⟨hi,1,12,Z,hhi,lhi,?_⟩;refine⟨((bW l p).isNone||((bW l q).isNone||((dN lo 1 12).isNone||(dN hi 1 12).isNone))),fun Q' q'=>?_,fun H1 sm=>?_⟩
 ·have q':=q' H (aa.refl _);refine⟨Z,_,Z,?_⟩;rw[kg];refine bj (fun h=>?_) (fun h=>?_)
  ·rw[h]at q';exact q'
  rw[h,gE]at q';refine⟨Z,_,Z,?_⟩;rw[kg];refine bj (fun h=>?_) (fun h=>?_)
  ·rw[h]at q';exact q'
  rw[h,gE]at q';refine⟨Z,_,Z,?_⟩;rw[kg];refine bj (fun h=>?_) (fun h=>?_)
  ·rw[h]at q';exact q'
  rw[h,gE]at q';refine⟨Z,_,Z,?_⟩;rw[kg];exact q'
 refine bj (fun h=>?_) (fun h=>?_)
 ·rw[aiO h]at k;exact k H1 (dB.of sm)
 cases h1:bW l p with
 |none=>rw[h1]at h;cases h
 |some a=>
 cases h2:bW l q with
 |none=>rw[h1,h2]at h;cases h
 |some b=>
 cases h3:dN lo 1 12 with
 |none=>rw[h1,h2,h3]at h;cases h
 |some x=>
 cases h4:dN hi 1 12 with
 |none=>rw[h1,h2,h3,h4]at h;cases h
 |some y=>
 have bx:=CJ h3;have by_:=CJ h4;have e0:kU l p q lo hi=lU l a b x y:=by
  unfold kU;rw[h1,h2,IQ h3,IQ h4]
 rw[e0]at k;unfold lU at k;refine⟨(decide (a=b)||decide (y<x)),fun Q' q'=>?_,fun H2 cZ=>?_⟩
 ·have q':=q' H1 (aa.refl _);refine⟨Z,_,Z,?_⟩;rw[show decide (ov (some a)=ov (some b))=decide (a=b)from decide_eq_decide.mpr ⟨fun z=>by injection z with z;lia,fun z=>by rw[z]⟩];refine bj (fun h=>?_) (fun h=>?_)
  ·rw[h]at q';exact q'
  rw[h,gE]at q';refine⟨_,_,Z,Z,_,Z,?_⟩;rw[show decide ((y:Int)<x)=decide (y<x)from decide_eq_decide.mpr (by lia)];exact q'
 have sm:=sm.trans cZ;have dn:=hL.same sm;refine bj (fun h=>?_) (fun h=>?_)
 ·rw[mC,decide_eq_true_eq,decide_eq_true_eq]at h;rw[if_pos (by rcases h with h|h <;>lia)]at k;exact k H2 (dB.of sm)
 rw[lV,decide_eq_false_iff_not,decide_eq_false_iff_not]at h;refine⟨((d9 l a b).isSome||decide (24≤l.legs.length)),fun Q' q'=>?_,fun H3 lS=>?_⟩
 ·have q':=q' H2 (aa.refl _);have rest:(d9 l a b).isSome=false→_:=fun e=>by
   rw[e,gE]at q';exact q'
  refine⟨r,l,a,b,Z,dn,fun e=>?_,fun g i bb e _ _ _=>?_⟩
  ·refine⟨Z,_,Z,?_⟩;refine jL (fun z=>absurd Z z) (fun _=>?_);refine(ag dn.ins T.qK Z ⟨_,_,Z,.inl (ai.of dn.lg),Z,_,Z,?_⟩);have nU:r.gs.length=l.legs.length:=Paired.length hL.gs;rw[aB,nU];rw[show decide (V.int (l.legs.length:Nat)=V.int 24)=decide (24≤l.legs.length)from decide_eq_decide.mpr ⟨fun z=>by injection z with z;lia,fun z=>by
    have:=hL.ok.legs;rw[show l.legs.length=24 by lia];rfl⟩]
   exact rest (by rw[e];rfl)
  ·refine⟨Z,_,Z,?_⟩;rw[e]at q';exact q'
 have sm:=sm.trans lS;have lW:=hL.same sm;refine bj (fun h'=>?_) (fun h'=>?_)
 ·rw[mC,decide_eq_true_eq]at h';rw[if_pos (by
   rcases h' with z|z
   ·exact .inr (.inl z)
   ·exact .inr (.inr (.inl z)))]at k
  exact k H3 (dB.of sm)
 rw[lV,decide_eq_false_iff_not]at h';rw[if_neg (by
  rintro(z|z|z|z|z)
  ·exact h.1 z
  ·rw[h'.1]at z;cases z
  ·exact h'.2 z
  ·lia
  ·exact h.2 z)]at k
 refine(ag lW.ins T.qK Z ⟨.inl ⟨Z,_,ai.of lW.lg⟩,?_⟩);refine(fun z dz nz dP iC=>?_);refine⟨z,dz,_,_,_,_,Z,ah,fun H4 hz hk=>⟨Z,?_⟩⟩;have fo:aa H3 H4:=aa.make (C:=A.Leg) (fs:=[]) nz dP hk;have dQ:=lW.same fo;have nU:r.gs.length=l.legs.length:=Paired.length hL.gs;refine⟨r.ll,_,_,Z,Z,dQ.lg,(by rw[aB,nU];show _<16777216;have:=hL.ok.legs;lia),?_⟩;have IT:z≠r.ll:=cE hz dQ.lg (by intro q;cases q);refine k _ {r with gs:=r.gs++[z]} rfl (dB.upd (dB.of (sm.trans fo)) (by simp[LA.own])) ⟨?_,?_,?_,?_,?_,?_,?_⟩ ⟨hS.h1,hS.h2,hS.h3⟩
 ·rw[ao (cE dQ.ins dQ.lg (by intro q;cases q))];exact dQ.ins
 ·rw[ao hS.h1];exact dQ.pl
 ·rw[ah,b9];rfl
 ·refine nW ?_ (cG (fun a g q=>q.but fun o e=>by
   obtain⟨d,e2⟩:=q;rw[ao (cE e2 dQ.lg (by intro z;cases z))];exact e) dQ.gs)
  exact⟨dz,by rw[ao IT];exact hz⟩
 ·rw[ao hS.h3.symm];exact dQ.ch
 ·exact cG (fun a g q=>q.but fun o e=>by
   obtain⟨d,e2⟩:=q;rw[ao (cE e2 dQ.lg (by intro z;cases z))];exact e) dQ.cs
 ·refine⟨hL.ok.names,hL.ok.cnames,hL.ok.places,?_,hL.ok.caches,hL.ok.most,?_,hL.ok.cache,(fun g m=>by
   show(l.legs++[_]).find? _=some g;rw[List.find?_append];rcases e_.mp m with m|m
   ·have u:=hL.ok.oQ g m;unfold d9 at u;rw[u];rfl
   ·rw[cA.mp m];have u:l.legs.find? (fun g=>g.a==a&&g.b==b)=none:=by
     have:=h'.1;unfold d9 at this;exact Option.isSome_eq_false_iff.mp this|>zi.mp
    show(l.legs.find? fun g=>g.a==a&&g.b==b).or _=_;rw[u,qp];simp)⟩
  ·show(l.legs++[_]).length≤24;rw[bT];simp only[jB];lia
  ·intro g m;rcases e_.mp m with m|m
   ·exact hL.ok.dJ g m
   ·rw[cA.mp m];exact⟨bx.1,by show x≤y;lia,by_.2,zh h1,zh h2⟩
def CK(l:aJ)(p q lo hi:List Nat):Option aJ:=(kU l p q lo hi).bind fun m=>kU m q p lo hi
inductive S8(A:aR)(vs:List V)(H:Hp)(Q:VK)(E:XK):Prop
 |mk:∀(r:LA) (l:aJ) (p q lo hi:List Nat),vs=[.ref r.a,.str (wd p),.str (wd q),.str (wd lo),.str (wd hi)]→(lo≠[]∧hi≠[]∧lo.length≤3000∧hi.length≤3000)→bq A H r l→Sep r→gG A r H Q (CK l p q lo hi)→S8 A vs H Q E
theorem aiT(T:Txt K mg A):T.Hk.Ok P w mg base 4 (S8 A):=by
 refine T.Hk.go Qs fun _ _ _ _ H _ Q E hr h=>?_;obtain⟨r,l,p,q,lo,hi,rfl,hw,hL,hS,k⟩:=h;refine⟨_,(af (aE 5 Qs (aI (IS T) hr T.yT (gh (pv 0) (c8 (pv 1) (pv 2) (pv 3) (pv 4))))) (ak (ax (u0 (pv 5) (xD (aI (IS T) hr T.yT (gh (pv 0) (c8 (pv 2) (pv 1) (pv 3) (pv 4))))))))),?_⟩
 try dsimp only[aO,Cx.aQ]
 refine⟨r,l,p,q,lo,hi,Z,hw,hL,hS,?_⟩;unfold CK at k;cases h1:kU l p q lo hi with
 |none=>
  rw[h1]at k;intro H1 s1;exact⟨_,Z,k H1 s1⟩
 |some l1=>
  rw[h1]at k;change gG A r H Q (kU l1 q p lo hi)at k;intro H1 r1 e1 s1 cu IU;have ea:r1.a=r.a:=by
   have:=congrArg List.head? e1;exact bS this
  refine⟨_,Z,?_⟩;refine cP ?_;refine⟨r1,l1,q,p,lo,hi,by rw[ea];rfl,hw,cu,IU,?_⟩;cases h2:kU l1 q p lo hi with
  |none=>
   rw[h2]at k;intro H2 s2;exact k H2 (s1.trans e1 s2)
  |some l2=>
   rw[h2]at k;intro H2 r2 e2 s2 dn S9;exact k H2 r2 (e2.trans e1) (s1.trans e1 s2) dn S9
def t6(l:aJ)(n p m:List Nat):Option aJ:=match bW l p,cB 60 m with
 |some a,some f=>if nV l n=true∧l.caches.length<4∧1≤f then some {l with caches:=l.caches++[{name:=n,place:=a,food:=f}]}else none
 |_,_=>none
theorem aiU{n p m:List Nat}(h:(!Vbexab.free l n||((bW l p).isNone||((dN m 1 60).isNone||decide (4≤l.caches.length))))=true):t6 l n p m=none:=by
 unfold t6;cases h1:bW l p with
 |none=>rfl
 |some a=>
  cases h3:cB 60 m with
  |none=>rfl
  |some x=>
   refine if_neg ?_;rintro⟨z1,z2,z3⟩;rw[z1,h1]at h;cases h5:dN m 1 60 with
   |none=>have:=IR h5 x h3;lia
   |some y=>
    rw[h5,decide_eq_false (by lia)]at h;cases h
inductive S_(A:aR)(vs:List V)(H:Hp)(Q:VK)(E:XK):Prop
 |mk:∀(r:LA) (l:aJ) (n p m:List Nat),vs=[.ref r.a,.str (wd n),.str (wd p),.str (wd m)]→(n≠[]∧m≠[]∧n.length≤3000∧m.length≤3000)→bq A H r l→Sep r→gG A r H Q (t6 l n p m)→S_ A vs H Q E
theorem aiV(T:Txt K mg A):T.Hl.Ok P w mg base 3 (S_ A):=by
 refine T.Hl.go GL fun _ _ _ _ H _ Q E hr h=>?_;obtain⟨r,l,n,p,m,rfl,⟨hn,hm,ln,lm⟩,hL,hS,k⟩:=h;refine⟨_,(af (aE 4 GL (aI (wD T) hr T.qG (aX (pv 0) (pv 2)))) (af (aE 5 GL (aI (wB T) hr T.qF (cS (pv 3) aH (a6 T.aht)))) (af (aV (fk (PW.pt (eO (jX (gg (aI (SO T) hr T.BP (aX (pv 0) (pv 1))))) (eO (aL de (pv 4) bp) (eO (aL de (pv 5) bp) (gz (aL cO (cT T.cH (aj 0)) (a6 T.ahs)))))))) (ak (ax dv)) aW) (af (dH (d4 PySem.F.plainAttrs_list PySem.F.slot_list_append PySem.F.type_list_append gQ (aj 0) (aF (gk (aiH T) hr T.ahR T.Hh (cS (pv 1) (pv 4) (pv 5)))))) (ak (ax dv)))))),?_⟩
 try dsimp only[aO,Cx.aQ]
 refine⟨r,l,p,Z,hL,?_⟩;refine⟨m,1,60,Z,hm,lm,?_⟩;have cz:r.cs.length=l.caches.length:=Paired.length hL.cs;refine⟨(!Vbexab.free l n||((bW l p).isNone||((dN m 1 60).isNone||decide (4≤l.caches.length)))),fun Q' q'=>?_,fun H1 sm=>?_⟩
 ·refine⟨r,l,n,Z,hn,ln,hL,fun H1 sm=>⟨_,Z,?_⟩⟩;have q':=q' H1 sm;have cu:=hL.same sm;refine bj (fun h=>?_) (fun h=>?_)
  ·rw[h]at q';exact q'
  rw[h,gE]at q';refine⟨Z,_,Z,?_⟩;rw[kg];refine bj (fun h=>?_) (fun h=>?_)
  ·rw[h]at q';exact q'
  rw[h,gE]at q';refine⟨Z,_,Z,?_⟩;rw[kg];refine bj (fun h=>?_) (fun h=>?_)
  ·rw[h]at q';exact q'
  rw[h,gE]at q';refine(ag cu.ins T.lP Z ⟨_,_,Z,.inl (ai.of cu.ch),Z,_,Z,?_⟩);rw[aB,cz];rw[show decide (V.int (l.caches.length:Nat)=V.int 4)=decide (4≤l.caches.length)from decide_eq_decide.mpr ⟨fun z=>by injection z with z;lia,fun z=>by
   have:=hL.ok.caches;rw[show l.caches.length=4 by lia];rfl⟩]
  exact q'
 have cu:=hL.same sm;refine bj (fun h=>?_) (fun h=>?_)
 ·rw[aiU h]at k;exact k H1 (dB.of sm)
 rw[lV,lV,lV,decide_eq_false_iff_not,gU]at h;cases h1:bW l p with
 |none=>rw[h1]at h;cases h.2.1
 |some a=>
 cases h3:dN m 1 60 with
 |none=>rw[h3]at h;cases h.2.2.1
 |some x=>
 have bx:=CJ h3;have e0:t6 l n p m=some {l with caches:=l.caches++[{name:=n,place:=a,food:=x}]}:=by
  unfold t6;rw[h1,IQ h3];exact if_pos ⟨h.1,by lia,bx.1⟩
 rw[e0]at k;refine(ag cu.ins T.lP Z ⟨.inl ⟨Z,_,ai.of cu.ch⟩,?_⟩);refine(fun z dz nz dP iC=>?_);refine⟨z,dz,_,_,_,Z,ah,fun H4 hz hk=>⟨Z,?_⟩⟩;have fo:aa H1 H4:=aa.make (C:=A.Cache) (fs:=[]) nz dP hk;have dQ:=cu.same fo;refine⟨r.lc,_,_,Z,Z,dQ.ch,(by rw[aB,cz];show _<16777216;have:=hL.ok.caches;lia),?_⟩;have IT:z≠r.lc:=cE hz dQ.ch (by intro q;cases q);have ng:=IL h.1;refine k _ {r with cs:=r.cs++[z]} rfl (dB.upd (dB.of (sm.trans fo)) (by simp[LA.own])) ⟨?_,?_,?_,?_,?_,?_,?_⟩ ⟨hS.h1,hS.h2,hS.h3⟩
 ·rw[ao (cE dQ.ins dQ.ch (by intro q;cases q))];exact dQ.ins
 ·rw[ao hS.h2];exact dQ.pl
 ·rw[ao hS.h3];exact dQ.lg
 ·exact cG (fun a g q=>q.but fun o e=>by
   obtain⟨d,e2⟩:=q;rw[ao (cE e2 dQ.ch (by intro z;cases z))];exact e) dQ.gs
 ·rw[ah,b9];rfl
 ·refine nW ?_ (cG (fun a g q=>q.but fun o e=>by
   obtain⟨d,e2⟩:=q;rw[ao (cE e2 dQ.ch (by intro z;cases z))];exact e) dQ.cs)
  refine⟨dz,?_⟩;rw[ao IT,hz,lR ng];rfl
 ·refine⟨hL.ok.names,?_,hL.ok.places,hL.ok.legs,?_,hL.ok.most,hL.ok.dJ,?_,hL.ok.oQ⟩
  ·intro c m;rcases e_.mp m with m|m
   ·exact hL.ok.cnames c m
   ·rw[cA.mp m];exact ng
  ·show(l.caches++[_]).length≤4;rw[bT];simp only[jB];lia
  ·intro c m;rcases e_.mp m with m|m
   ·exact hL.ok.cache c m
   ·rw[cA.mp m];exact⟨zh h1,bx.1,bx.2⟩
theorem wH:decide (V.int ((bA ws).length:Nat)=V.int (n:Nat))=decide (ws.length=n):=decide_eq_decide.mpr (by
 unfold bA;rw[aB];exact⟨fun z=>by injection z with z;lia,fun z=>by rw[z]⟩)
theorem mP(h:(aw s).all good=true):decide (V.str (wd w0)=V.str (aZ s))=decide (w0=aw s):=decide_eq_decide.mpr (by
 rw[ig];exact⟨fun z=>by injection z with z;exact(tX h).mp z,fun z=>by rw[(tX h).mpr z]⟩)
theorem Ta(h:l'.places=l.places)(v:List Nat):bW l' v=bW l v:=by
 unfold bW;rw[h]
theorem Tb(h:lU l a b x y=some l'):l'.places=l.places:=by
 unfold lU at h;split at h
 ·cases h
 ·cases h;rfl
theorem aiW l(p q lo hi:List Nat):gH l [aw "leg",p,q,lo,hi]=kU l p q lo hi:=by
 unfold gH kU;show(match bW l p,bW l q,cB 12 lo,cB 12 hi with|some a,some b,some x,some y=>_|_,_,_,_=>none)=_;cases bW l p <;>cases bW l q <;>cases cB 12 lo <;>cases cB 12 hi <;>first|rfl|(simp only[];rw[if_pos rfl])
theorem aiX l(p q lo hi:List Nat):gH l [aw "way",p,q,lo,hi]=CK l p q lo hi:=by
 unfold gH CK;show(match bW l p,bW l q,cB 12 lo,cB 12 hi with|some a,some b,some x,some y=>_|_,_,_,_=>none)=_;unfold kU;cases h1:bW l p with
 |none=>rfl
 |some a=>
  cases h2:bW l q with
  |none=>rfl
  |some b=>
   cases h3:cB 12 lo with
   |none=>rfl
   |some x=>
    cases h4:cB 12 hi with
    |none=>rfl
    |some y=>
     simp only[];rw[if_neg (by decide+kernel),if_pos trivial];cases h5:lU l a b x y with
     |none=>rfl
     |some m=>
      show lU m b a x y=match bW m q,bW m p,some x,some y with|some a,some b,some x,some y=>lU m a b x y|_,_,_,_=>none
      rw[Ta (Tb h5),Ta (Tb h5),h1,h2]
theorem gG.at(s:aa H H1)(k:gG A r H Q o):gG A r H1 Q o:=by
 cases o with
 |none=>exact fun H' s'=>k H' (dB.trans Z (dB.of s) s')
 |some l=>exact fun H' r' e s'=>k H' r' e (dB.trans Z (dB.of s) s')
theorem aiY l(n:List Nat):gH l [aw "place",n]=CI l n:=by
 unfold gH CI;simp only[↓reduceIte];rfl
theorem aiZ l(n:List Nat):gH l [aw "limit",n]=((dN n 1 60).bind fun m=>if l.limit.isNone=true then some {l with limit:=some m}else none):=by
 unfold gH dN;simp only[show ¬aw "limit"=aw "place" by decide+kernel, ↓reduceIte];show(match cB 60 n with|some m=>if l.limit.isNone=true∧1≤m then some {l with limit:=some m}else none|none=>none)=_;cases cB 60 n with
 |none=>rfl
 |some m=>
  show(if l.limit.isNone=true∧1≤m then _ else none)=Option.bind (if 1≤m then some m else none) _;by_cases h:1≤m
  ·rw[if_pos h];show _=if l.limit.isNone=true then _ else none
   by_cases h2:l.limit.isNone=true
   ·rw[if_pos ⟨h2,h⟩,if_pos h2]
   ·rw[if_neg (fun z=>h2 z.1),if_neg h2]
  ·rw[if_neg h,if_neg (fun z=>h z.2)];rfl
theorem ai0 l(n:List Nat):gH l [aw "storms",n]=((dN n 0 8).bind fun m=>if l.storms.isNone=true then some {l with storms:=some m}else none):=by
 unfold gH dN;simp only[show ¬aw "storms"=aw "place" by decide+kernel,show ¬aw "storms"=aw "limit" by decide+kernel, ↓reduceIte];show(match cB 8 n with|some m=>if l.storms.isNone=true then some {l with storms:=some m}else none|none=>none)=_;cases cB 8 n with
 |none=>rfl
 |some m=>rfl
theorem ai1 l(n p m:List Nat):gH l [aw "cache",n,p,m]=t6 l n p m:=by
 unfold gH t6;simp only[↓reduceIte];rfl
def Words(ws:List (List Nat)):Prop:=∀v∈ws,v≠[]∧v.length≤3000
inductive CL(A:aR)(vs:List V)(H:Hp)(Q:VK)(E:XK):Prop
 |mk:∀(r:LA) (l:aJ) (a:ae) (ws:List (List Nat)),vs=[.ref r.a,.ref a]→H a=some (.lst (bA ws))→ws≠[]→Words ws→a∉r.own→bq A H r l→Sep r→gG A r H Q (gH l ws)→CL A vs H Q E
theorem nfL{l:aJ}{w0:List Nat}{rest:List (List Nat)}(ai4:(decide ((w0::rest).length=2)&&decide (w0=aw "place"))=false)(ai5:(decide ((w0::rest).length=5)&&decide (w0=aw "leg"))=false)(ai6:(decide ((w0::rest).length=5)&&decide (w0=aw "way"))=false)(ai7:(decide ((w0::rest).length=4)&&decide (w0=aw "cache"))=false)(ai8:(decide ((w0::rest).length=2)&&decide (w0=aw "limit"))=false)(ai9:(decide ((w0::rest).length=2)&&decide (w0=aw "storms"))=false):gH l (w0::rest)=none:=by
 have ne:∀(n:Nat) (s:String),(decide ((w0::rest).length=n)&&decide (w0=aw s))=false→(w0::rest).length=n→w0≠aw s:=fun n s h e z=>by
  rw[decide_eq_true e,decide_eq_true z]at h;cases h
 match rest with
 |[]=>rfl
 |[n]=>
  have a1:=ne _ _ ai4 Z;have a2:=ne _ _ ai8 Z;have a3:=ne _ _ ai9 Z;show(if w0=aw "place" then _ else if w0=aw "limit" then _ else if w0=aw "storms" then _ else none)=none;rw[if_neg a1,if_neg a2,if_neg a3]
 |[_,_]=>rfl
 |[n,p,m]=>
  have a1:=ne _ _ ai7 Z;show(if w0=aw "cache" then _ else none)=none;rw[if_neg a1]
 |[p,q,lo,hi]=>
  have a1:=ne _ _ ai5 Z;have a2:=ne _ _ ai6 Z;show(match bW l p,bW l q,cB 12 lo,cB 12 hi with|some a,some b,some x,some y=>(if w0=aw "leg" then _ else if w0=aw "way" then _ else none)|_,_,_,_=>none)=none;cases bW l p <;>cases bW l q <;>cases cB 12 lo <;>cases cB 12 hi <;>first|rfl|(simp only[];rw[if_neg a1,if_neg a2])
 |_::_::_::_::_::_=>rfl
theorem ai2(T:Txt K mg A):T.yU.Ok P w mg base 5 (CL A):=by
 refine T.yU.go Qv fun _ _ _ _ H _ Q E hr h=>?_;obtain⟨r,l,a,ws,rfl,hW,cU,fS,hna,hL,hS,k⟩:=h;refine⟨_,(af (aE 2 Qv (bM cF (pv 1) aH)) (af (aV (fk (PW.pt (jW (aL cO (cT T.cH (pv 1)) aH) (jV (aL cO (pv 2) bG))))) (ak (ax (aI (aiF T) hr T.Hj (aX (pv 0) (bM cF (pv 1) aH))))) aW) (af (aV (fk (PW.pt (jW (aL cO (cT T.cH (pv 1)) aH) (jV (aL cO (pv 2) bG))))) (ak (ax (aI (IS T) hr T.yT (gh (pv 0) (c8 (bM cF (pv 1) aH) (bM cF (pv 1) aH) (bM cF (pv 1) aH) (bM cF (pv 1) aH)))))) aW) (af (aV (fk (PW.pt (jW (aL cO (cT T.cH (pv 1)) aH) (jV (aL cO (pv 2) bG))))) (ak (ax (aI (aiT T) hr T.Hk (gh (pv 0) (c8 (bM cF (pv 1) aH) (bM cF (pv 1) aH) (bM cF (pv 1) aH) (bM cF (pv 1) aH)))))) aW) (af (aV (fk (PW.pt (jW (aL cO (cT T.cH (pv 1)) aH) (jV (aL cO (pv 2) bG))))) (ak (ax (aI (aiV T) hr T.Hl (c8 (pv 0) (bM cF (pv 1) aH) (bM cF (pv 1) aH) (bM cF (pv 1) aH))))) aW) (af (aV (fk (PW.pt (jW (aL cO (cT T.cH (pv 1)) aH) (jV (aL cO (pv 2) bG))))) (ak (ax (aI (aiM T) hr T.Hm (aX (pv 0) (bM cF (pv 1) aH))))) aW) (af (aV (fk (PW.pt (jW (aL cO (cT T.cH (pv 1)) aH) (jV (aL cO (pv 2) bG))))) (ak (ax (aI (aiN T) hr T.Hn (aX (pv 0) (bM cF (pv 1) aH))))) aW) (ak (ax dv))))))))),?_⟩
 try dsimp only[aO,Cx.aQ]
 have lX:=hL;have wI:=hW;have sm:aa H H:=aa.refl _;obtain⟨w0,rest,rfl⟩:∃w0 rest,ws=w0::rest:=by
  cases ws with
  |nil=>exact absurd Z cU
  |cons a b=>exact⟨a,b,Z⟩
 generalize qV:w0::rest=ws at*;have hg0:(bA ws)[0]?=some (.str (wd w0)):=by rw[←qV];rfl
 refine⟨a,_,_,_,Z,Z,ai.of hW,bX (j:=0) hg0,?_⟩;refine⟨(decide (ws.length=2)&&decide (w0=aw "place")),fun Q' q'=>?_,?_⟩
 ·have q':=q' _ (aa.refl _);refine⟨_,_,Z,.inl (ai.of hW),Z,_,Z,?_⟩;have e1:=wH (ws:=ws) (n:=2);refine zj (congrArg (fun z=>if z=true then _ else _) e1.symm) ?_;refine bj (fun h=>?_) (fun h=>?_)
  ·rw[h,eE]at q';refine⟨Z,_,Z,?_⟩;rw[←mP (s:="place") (by decide+kernel)]at q';exact q'
  ·rw[h,i3]at q';exact q'
 clear hL hW;intro H1 d_;have sm:=sm.trans d_;have hL:=lX.same sm;have hW:=sm _ _ wI;clear d_;refine bj (fun h=>?_) (fun ai4=>?_)
 ·rw[dA,decide_eq_true_eq,decide_eq_true_eq]at h;obtain⟨w1,e⟩:∃w1,ws=[aw "place",w1]:=by
   obtain⟨h1,h2⟩:=h;subst h2;subst qV
   exact eA1 (C:=fun r=>∃w1,_::r=[_,w1]) (Nat.succ.inj h1) fun w1=>⟨w1,Z⟩
  subst e;have kh:(bA [aw "place",w1])[1]?=some (.str (wd w1)):=Z;rw[aiY]at k;refine⟨a,_,_,_,Z,Z,ai.of hW,bX (j:=1) kh,r,l,w1,Z,(fS w1 (by simp)).1,(fS w1 (by simp)).2,hL,hS,gG.at sm k⟩
 refine⟨(decide (ws.length=5)&&decide (w0=aw "leg")),fun Q' q'=>?_,?_⟩
 ·have q':=q' _ (aa.refl _);refine⟨_,_,Z,.inl (ai.of hW),Z,_,Z,?_⟩;have e1:=wH (ws:=ws) (n:=5);refine zj (congrArg (fun z=>if z=true then _ else _) e1.symm) ?_;refine bj (fun h=>?_) (fun h=>?_)
  ·rw[h,eE]at q';refine⟨Z,_,Z,?_⟩;rw[←mP (s:="leg") (by decide+kernel)]at q';exact q'
  ·rw[h,i3]at q';exact q'
 clear hL hW;intro H1 d_;have sm:=sm.trans d_;have hL:=lX.same sm;have hW:=sm _ _ wI;clear d_;refine bj (fun h=>?_) (fun ai5=>?_)
 ·rw[dA,decide_eq_true_eq,decide_eq_true_eq]at h;obtain⟨w1,w2,w3,w4,e⟩:∃w1 w2 w3 w4,ws=[aw "leg",w1,w2,w3,w4]:=by
   obtain⟨h1,h2⟩:=h;subst h2;subst qV
   exact eA4 (C:=fun r=>∃w1 w2 w3 w4,_::r=[_,w1,w2,w3,w4]) (Nat.succ.inj h1) fun w1 w2 w3 w4=>⟨w1,w2,w3,w4,Z⟩
  subst e;have kh:(bA [aw "leg",w1,w2,w3,w4])[1]?=some (.str (wd w1)):=Z;have t7:(bA [aw "leg",w1,w2,w3,w4])[2]?=some (.str (wd w2)):=Z;have t9:(bA [aw "leg",w1,w2,w3,w4])[3]?=some (.str (wd w3)):=Z;have qW:(bA [aw "leg",w1,w2,w3,w4])[4]?=some (.str (wd w4)):=Z;rw[aiW]at k;refine⟨a,_,_,_,Z,Z,ai.of hW,bX (j:=1) kh,a,_,_,_,Z,Z,ai.of hW,bX (j:=2) t7,a,_,_,_,Z,Z,ai.of hW,bX (j:=3) t9,a,_,_,_,Z,Z,ai.of hW,bX (j:=4) qW,r,l,w1,w2,w3,w4,Z,⟨(fS w3 (by simp)).1,(fS w4 (by simp)).1,(fS w3 (by simp)).2,(fS w4 (by simp)).2⟩,hL,hS,gG.at sm k⟩
 refine⟨(decide (ws.length=5)&&decide (w0=aw "way")),fun Q' q'=>?_,?_⟩
 ·have q':=q' _ (aa.refl _);refine⟨_,_,Z,.inl (ai.of hW),Z,_,Z,?_⟩;have e1:=wH (ws:=ws) (n:=5);refine zj (congrArg (fun z=>if z=true then _ else _) e1.symm) ?_;refine bj (fun h=>?_) (fun h=>?_)
  ·rw[h,eE]at q';refine⟨Z,_,Z,?_⟩;rw[←mP (s:="way") (by decide+kernel)]at q';exact q'
  ·rw[h,i3]at q';exact q'
 clear hL hW;intro H1 d_;have sm:=sm.trans d_;have hL:=lX.same sm;have hW:=sm _ _ wI;clear d_;refine bj (fun h=>?_) (fun ai6=>?_)
 ·rw[dA,decide_eq_true_eq,decide_eq_true_eq]at h;obtain⟨w1,w2,w3,w4,e⟩:∃w1 w2 w3 w4,ws=[aw "way",w1,w2,w3,w4]:=by
   obtain⟨h1,h2⟩:=h;subst h2;subst qV
   exact eA4 (C:=fun r=>∃w1 w2 w3 w4,_::r=[_,w1,w2,w3,w4]) (Nat.succ.inj h1) fun w1 w2 w3 w4=>⟨w1,w2,w3,w4,Z⟩
  subst e;have kh:(bA [aw "way",w1,w2,w3,w4])[1]?=some (.str (wd w1)):=Z;have t7:(bA [aw "way",w1,w2,w3,w4])[2]?=some (.str (wd w2)):=Z;have t9:(bA [aw "way",w1,w2,w3,w4])[3]?=some (.str (wd w3)):=Z;have qW:(bA [aw "way",w1,w2,w3,w4])[4]?=some (.str (wd w4)):=Z;rw[aiX]at k;refine⟨a,_,_,_,Z,Z,ai.of hW,bX (j:=1) kh,a,_,_,_,Z,Z,ai.of hW,bX (j:=2) t7,a,_,_,_,Z,Z,ai.of hW,bX (j:=3) t9,a,_,_,_,Z,Z,ai.of hW,bX (j:=4) qW,r,l,w1,w2,w3,w4,Z,⟨(fS w3 (by simp)).1,(fS w4 (by simp)).1,(fS w3 (by simp)).2,(fS w4 (by simp)).2⟩,hL,hS,gG.at sm k⟩
 refine⟨(decide (ws.length=4)&&decide (w0=aw "cache")),fun Q' q'=>?_,?_⟩
 ·have q':=q' _ (aa.refl _);refine⟨_,_,Z,.inl (ai.of hW),Z,_,Z,?_⟩;have e1:=wH (ws:=ws) (n:=4);refine zj (congrArg (fun z=>if z=true then _ else _) e1.symm) ?_;refine bj (fun h=>?_) (fun h=>?_)
  ·rw[h,eE]at q';refine⟨Z,_,Z,?_⟩;rw[←mP (s:="cache") (by decide+kernel)]at q';exact q'
  ·rw[h,i3]at q';exact q'
 clear hL hW;intro H1 d_;have sm:=sm.trans d_;have hL:=lX.same sm;have hW:=sm _ _ wI;clear d_;refine bj (fun h=>?_) (fun ai7=>?_)
 ·rw[dA,decide_eq_true_eq,decide_eq_true_eq]at h;obtain⟨w1,w2,w3,e⟩:∃w1 w2 w3,ws=[aw "cache",w1,w2,w3]:=by
   obtain⟨h1,h2⟩:=h;subst h2;subst qV
   exact eA3 (C:=fun r=>∃w1 w2 w3,_::r=[_,w1,w2,w3]) (Nat.succ.inj h1) fun w1 w2 w3=>⟨w1,w2,w3,Z⟩
  subst e;have kh:(bA [aw "cache",w1,w2,w3])[1]?=some (.str (wd w1)):=Z;have t7:(bA [aw "cache",w1,w2,w3])[2]?=some (.str (wd w2)):=Z;have t9:(bA [aw "cache",w1,w2,w3])[3]?=some (.str (wd w3)):=Z;rw[ai1]at k;refine⟨a,_,_,_,Z,Z,ai.of hW,bX (j:=1) kh,a,_,_,_,Z,Z,ai.of hW,bX (j:=2) t7,a,_,_,_,Z,Z,ai.of hW,bX (j:=3) t9,r,l,w1,w2,w3,Z,⟨(fS w1 (by simp)).1,(fS w3 (by simp)).1,(fS w1 (by simp)).2,(fS w3 (by simp)).2⟩,hL,hS,gG.at sm k⟩
 refine⟨(decide (ws.length=2)&&decide (w0=aw "limit")),fun Q' q'=>?_,?_⟩
 ·have q':=q' _ (aa.refl _);refine⟨_,_,Z,.inl (ai.of hW),Z,_,Z,?_⟩;have e1:=wH (ws:=ws) (n:=2);refine zj (congrArg (fun z=>if z=true then _ else _) e1.symm) ?_;refine bj (fun h=>?_) (fun h=>?_)
  ·rw[h,eE]at q';refine⟨Z,_,Z,?_⟩;rw[←mP (s:="limit") (by decide+kernel)]at q';exact q'
  ·rw[h,i3]at q';exact q'
 clear hL hW;intro H1 d_;have sm:=sm.trans d_;have hL:=lX.same sm;have hW:=sm _ _ wI;clear d_;refine bj (fun h=>?_) (fun ai8=>?_)
 ·rw[dA,decide_eq_true_eq,decide_eq_true_eq]at h;obtain⟨w1,e⟩:∃w1,ws=[aw "limit",w1]:=by
   obtain⟨h1,h2⟩:=h;subst h2;subst qV
   exact eA1 (C:=fun r=>∃w1,_::r=[_,w1]) (Nat.succ.inj h1) fun w1=>⟨w1,Z⟩
  subst e;have kh:(bA [aw "limit",w1])[1]?=some (.str (wd w1)):=Z;rw[aiZ]at k;refine⟨a,_,_,_,Z,Z,ai.of hW,bX (j:=1) kh,r,l,w1,Z,(fS w1 (by simp)).1,(fS w1 (by simp)).2,hL,hS,gG.at sm k⟩
 refine⟨(decide (ws.length=2)&&decide (w0=aw "storms")),fun Q' q'=>?_,?_⟩
 ·have q':=q' _ (aa.refl _);refine⟨_,_,Z,.inl (ai.of hW),Z,_,Z,?_⟩;have e1:=wH (ws:=ws) (n:=2);refine zj (congrArg (fun z=>if z=true then _ else _) e1.symm) ?_;refine bj (fun h=>?_) (fun h=>?_)
  ·rw[h,eE]at q';refine⟨Z,_,Z,?_⟩;rw[←mP (s:="storms") (by decide+kernel)]at q';exact q'
  ·rw[h,i3]at q';exact q'
 clear hL hW;intro H1 d_;have sm:=sm.trans d_;have hL:=lX.same sm;have hW:=sm _ _ wI;clear d_;refine bj (fun h=>?_) (fun ai9=>?_)
 ·rw[dA,decide_eq_true_eq,decide_eq_true_eq]at h;obtain⟨w1,e⟩:∃w1,ws=[aw "storms",w1]:=by
   obtain⟨h1,h2⟩:=h;subst h2;subst qV
   exact eA1 (C:=fun r=>∃w1,_::r=[_,w1]) (Nat.succ.inj h1) fun w1=>⟨w1,Z⟩
  subst e;have kh:(bA [aw "storms",w1])[1]?=some (.str (wd w1)):=Z;rw[ai0]at k;refine⟨a,_,_,_,Z,Z,ai.of hW,bX (j:=1) kh,r,l,w1,Z,(fS w1 (by simp)).1,(fS w1 (by simp)).2,hL,hS,gG.at sm k⟩
 have nf:gH l ws=none:=by
  subst qV;exact nfL ai4 ai5 ai6 ai7 ai8 ai9
 rw[nf]at k;exact k _ (dB.of sm)
theorem dR{X Y:Prop}(e:c=d)(h:if d=true then X else Y):if c=true then X else Y:=by rw[e];exact h
theorem t_(a b:Nat):oC (a:Int) (b:Int)=((a&&& b:Nat):Int):=by
 unfold oC;rw[decide_eq_true (ai_ a),decide_eq_true (ai_ b)];simp
theorem Tc:∀s,s<16→∀i,i<4→(decide (s&&& 2^i≠0))=jh s i:=by decide+kernel
def fe(s:Nat):List Nat:=(bP 4).filter (jh s)
inductive Td(vs:List V)(H:Hp)(Q:VK)(E:XK):Prop
 |mk:∀(s:Nat),vs=[.int s]→s<16→(∀(H':Hp) (p:ae),aa H H'→H p=none→H' p=some (.lst (nats (fe s)))→Q (.ref p) H')→Td vs H Q E
theorem pq(h:i<4):([.int 1,.int 2,.int 4,.int 8]:List V)[i]?=some (.int ((2^i:Nat):Int)):=by
 match i,h with
 |0,_=>rfl
 |1,_=>rfl
 |2,_=>rfl
 |3,_=>rfl
theorem lY f n:(bP (n+1)).filter f=(bP n).filter f++(if f n=true then[n]else[]):=by
 rw[tH,ID,lO,aij]
theorem Te(T:Txt K mg A):T.BQ.Ok P w mg base 1 Td:=by
 refine T.BQ.go BB fun _ _ _ _ H _ Q E hr h=>?_;obtain⟨b,rfl,hb,k⟩:=h;refine⟨_,(ak (ax (i8 Z BB.nd (NV Z T.wj (aF (a6 T.tP))) (hZ (N:=["held","index","bit"]) (sc:=aG Gx) (own:=[("index",1),("bit",2)]) (by decide+kernel)) (fun _ _ _ _ _=>(Cz (K0:=K) Z (n:=2) Z (ir (bY 1 BB) (ir (bY 2 BB) oB)))) (fun _ _ _ _ _=>(x9 (aL kM (br qg (pv 0) (pv 2)) aH))) (fun _ _ _ _ _=>(pv 1))))),?_⟩
 try dsimp only[aO,Cx.aQ]
 refine⟨A.mJ,_,Z,T.iA _,fun D nD=>wC (n:=4)
  (fun i H2=>aa H H2∧H2 D=some (.lst (nats ((bP i).filter (jh b))))) ⟨aa.upd nD,ah⟩ ?_ ?_ ?_ ?_⟩
 ·rintro i H2 hi _;exact⟨_,_,T.iA _,pq hi⟩
 ·rintro H2 _;exact⟨_,T.iA _,Z⟩
 ·rintro i H2 x H3 hi ⟨sm,h2⟩ ⟨t,y,rfl,nt,rfl,hy⟩;have hy:=hy _ (T.iA _);rw[pq hi]at hy;have hy:=bS hy;subst hy;have cZ:aa H (upd H2 t (.tup [.int (i:Nat),.int ((2^i:Nat):Int)])):=aa.bI sm (aa.free sm nt);have nX:D≠t:=fun e=>by subst e;rw[h2]at nt;cases nt
  refine⟨t,_,Z,bV.of ah,Z,_,_,Z,_,_,Z,Z,Z,?_⟩;refine⟨_,_,Z,Z,Z,_,Z,?_⟩;refine dR (d:=jh b i) ?_ ?_
  ·show(!decide (V.int (oC (b:Int) ((2^i:Nat):Int))=V.int 0))=_;rw[t_,←Tc b hb i hi,←decide_not];exact decide_eq_decide.mpr ⟨fun z e=>z (by rw[e];rfl),fun z e=>z (by injection e with e;lia)⟩
  refine bj (fun h=>?_) (fun h=>?_)
  ·refine⟨_,(by rw[ao nX];exact h2),?_,aa.bI cZ nD,?_⟩
   ·unfold nats;rw[aB];have:=qS (jh b) (bP i);rw[ia]at this;show _<16777216;lia
   ·rw[ah,lY,if_pos h];unfold nats;rw[b9];rfl
  ·refine⟨cZ,?_⟩;rw[ao nX,h2,lY,if_neg (by rw[h];exact cb),gi]
 ·rintro H2 ⟨sm,h2⟩;exact k H2 D sm nD h2
def partsOf(h:Nat):List Nat:=(bP (h+1)).filter fun t=>decide (t&&& h=t)
inductive Tf(vs:List V)(H:Hp)(Q:VK)(E:XK):Prop
 |mk:∀(s:Nat),vs=[.int s]→s<16→(∀(H':Hp) (p:ae),aa H H'→H p=none→H' p=some (.lst (nats (partsOf s)))→Q (.ref p) H')→Tf vs H Q E
theorem IV(T:Txt K mg A):T.yV.Ok P w mg base 1 Tf:=by
 refine T.yV.go GN fun _ _ _ _ H _ Q E hr h=>?_;obtain⟨b,rfl,hb,k⟩:=h;refine⟨_,(ak (ax (i8 Z GN.nd (qe Z T.mK (aF (br dX (pv 0) aH))) (hZ (N:=["held","part"]) (sc:=aG Gy) (own:=[("part",1)]) (by decide+kernel)) (fun _ _ _ _ _=>(bY 1 GN)) (fun _ _ _ _ _=>(x9 (aL cO (br qg (pv 1) (pv 0)) (pv 1)))) (fun _ _ _ _ _=>(pv 1))))),?_⟩
 try dsimp only[aO,Cx.aQ]
 refine⟨_,_,Z,Z,(b:Int)+1,Z,(by lia),(by lia),fun D nD=>?_⟩;rw[show((b:Int)+1).toNat=b+1 by lia];refine Fx (lo:=0) (n:=b+1) (fun i H2=>aa H H2∧H2 D=some (.lst (nats ((bP i).filter fun t=>decide (t&&& b=t))))) ⟨aa.upd nD,ah⟩ ?_ ?_
 ·rintro i H2 hi ⟨sm,h2⟩;rw[uc];refine⟨Z,_,_,Z,Z,Z,_,Z,?_⟩;refine dR (d:=decide (i&&& b=i)) ?_ ?_
  ·show decide (V.int (oC (i:Int) (b:Int))=V.int (i:Int))=_;rw[t_];exact decide_eq_decide.mpr ⟨fun z=>by injection z with z;lia,fun z=>by rw[z]⟩
  refine bK (fun h=>?_) (fun h=>?_)
  ·refine⟨_,h2,?_,aa.bI sm nD,?_⟩
   ·unfold nats;rw[aB];have:=qS (fun t=>decide (t&&& b=t)) (bP i);rw[ia]at this;show _<16777216;lia
   ·rw[ah,lY,if_pos (decide_eq_true h)];unfold nats;rw[b9];rfl
  ·refine⟨sm,?_⟩;rw[h2,lY,if_neg (by rw[decide_eq_true_eq];exact h),gi]
 ·rintro H2 ⟨sm,h2⟩;exact k H2 D sm nD h2
def setAt(l:aJ)(p:Nat):Nat:=(((bP l.caches.length).filter fun i=>(mQ l i).place==p).map fun i=>2^i).sum
theorem CM:∀l:List Nat,((l.map fun i=>((i:Nat):Int)).sum)=((l.sum:Nat):Int)
 |[]=>rfl
 |a::r=>by
  rw[dw,ph,ph,CM r];lia
theorem IW(L:List Nat):(L.map fun(n:Nat)=>V.int (n:Int))=(L.map fun n=>((n:Nat):Int)).map V.int:=by rw[jf];rfl
inductive Tg(A:aR)(vs:List V)(H:Hp)(Q:VK)(E:XK):Prop
 |mk:∀(r:LA) (l:aJ) (p:Nat),vs=[.ref r.a,.int p]→bq A H r l→(∀H',aa H H'→Q (.int (setAt l p)) H')→Tg A vs H Q E
theorem zk(h:l.caches[i]?=some c):mQ l i=c:=by
 unfold mQ;rw[eS,h];rfl
theorem IX(T:Txt K mg A):T.yW.Ok P w mg base 1 (Tg A):=by
 refine T.yW.go BC fun _ _ _ _ H _ Q E hr h=>?_;obtain⟨r,l,p,rfl,hL,k⟩:=h;refine⟨_,(ak (ax (gB (E6 Z) (by rfl) T.BL IY (aF (i8 Z BC.nd (ads Z T.G4 (aX (a6 T.tP) (aj 0))) (hZ (N:=["land","place","bit","cache"]) (sc:=aG Gz) (own:=[("bit",2),("cache",3)]) (by decide+kernel)) (fun _ _ _ _ _=>(Cz (K0:=K) Z (n:=2) Z (ir (bY 2 BC) (ir (bY 3 BC) oB)))) (fun _ _ _ _ _=>(x9 (aL cO (jg (K0:=K) Z (pv 3) Z) (pv 1)))) (fun _ _ _ _ _=>(pv 2))))))),?_⟩
 try dsimp only[aO,Cx.aQ]
 have cz:r.cs.length=l.caches.length:=Paired.length hL.cs;have h4:=hL.ok.caches;refine(ag hL.ins T.lP Z ⟨A.mJ,r.lc,_,_,Z,T.iA _,ai.of hL.ch,fun D nD=>wC (n:=l.caches.length)
  (fun i H2=>aa H H2∧H2 D=some (.lst ((((bP i).filter fun i=>(mQ l i).place==p).map fun i=>2^i).map fun(n:Nat)=>V.int (n:Int)))) ⟨aa.upd nD,ah⟩ ?_ ?_ ?_ ?_⟩)
 ·rintro i H2 hi ⟨sm,_⟩;obtain⟨a,ha⟩:∃a,r.cs[i]?=some a:=⟨_,di (by lia)⟩
  exact⟨_,_,_,V.ref a,T.iA _,ai.of (sm _ _ hL.ch),pq (by lia),by rw[cR,ha];rfl⟩
 ·rintro H2 ⟨sm,_⟩;refine⟨_,_,T.iA _,ai.of (sm _ _ hL.ch),?_⟩;rw[aB,cz];by_cases e:l.caches.length=4
  ·exact .inl e.symm
  ·exact .inr ⟨by show l.caches.length<4;lia,Z⟩
 ·rintro i H2 x H3 hi ⟨sm,h2⟩ ⟨t,y,z,rfl,nt,rfl,hy,hz⟩;have hy:=hy _ (T.iA _);rw[pq (by lia)]at hy;have hy:=bS hy;subst hy;have hz:=hz _ (ai.of (sm _ _ hL.ch));obtain⟨a,ha,rfl⟩:=cY hz;obtain⟨c,hc,dx,gf⟩:=fc hL.cs ha;have cZ:aa H (upd H2 t (.tup [.int ((2^i:Nat):Int),.ref a])):=aa.bI sm (aa.free sm nt);have nX:D≠t:=fun e=>by subst e;rw[h2]at nt;cases nt
  refine⟨t,_,Z,bV.of ah,Z,_,_,Z,_,_,Z,Z,Z,?_⟩;refine(ag (cZ _ _ gf) T.Ig Z ⟨Z,_,Z,?_⟩);refine dR (d:=((mQ l i).place==p)) ?_ ?_
  ·rw[zk hc,iJ,decide_eq_true_eq,beq_iff_eq];exact⟨fun z=>by injection z with z;lia,fun z=>by rw[z]⟩
  refine bj (fun h=>?_) (fun h=>?_)
  ·refine⟨_,(by rw[ao nX];exact h2),?_,aa.bI cZ nD,?_⟩
   ·rw[aB,aB];have:=qS (fun i=>(mQ l i).place==p) (bP i);rw[ia]at this;show _<16777216;lia
   ·rw[ah,lY,if_pos h,b9,b9];rfl
  ·refine⟨cZ,?_⟩;rw[ao nX,h2,lY,if_neg (by rw[h];exact cb),gi]
 ·rintro H2 ⟨sm,h2⟩;refine⟨D,(((bP l.caches.length).filter fun i=>(mQ l i).place==p).map fun i=>2^i).map fun(n:Nat)=>((n:Nat):Int),Z,ai.of ?_,?_⟩
  ·rw[h2,IW]
  ·rw[CM];exact k H2 sm
theorem Th(h:t<2^l.caches.length)(h4:l.caches.length≤4):fe t=qX l t:=by
 unfold fe qX;have key:∀n m,n≤m→(∀i,n≤i→i<m→jh t i=false)→(bP m).filter (jh t)=(bP n).filter (jh t):=by
  intro n m;induction m with
  |zero=>
   intro e _;have:n=0:=by lia
   subst this;rfl
  |succ m ih=>
   intro e hf;by_cases c:n=m+1
   ·subst c;rfl
   ·rw[lY,if_neg (by rw[hf m (by lia) (by lia)];exact cb),gi];exact ih (by lia) fun i h1 h2=>hf i h1 (by lia)
 refine key _ 4 h4 fun i h1 _=>?_;exact Bw (dG h (jc (by decide) h1))
inductive Ti(A:aR)(vs:List V)(H:Hp)(Q:VK)(E:XK):Prop
 |mk:∀(r:LA) (l:aJ) (t:Nat),vs=[.ref r.a,.int t]→bq A H r l→t<2^l.caches.length→(∀H',aa H H'→Q (.int (kW l t)) H')→Ti A vs H Q E
theorem Tj:∀l:List Nat,Tn l=l.sum
 |[]=>rfl
 |a::r=>by
  unfold Tn;rw[List.foldr_cons,ph];have:=Tj r;unfold Tn at this;rw[this]
theorem IZ(T:Txt K mg A):T.yX.Ok P w mg base 2 (Ti A):=by
 refine T.yX.go GO fun _ _ _ _ H _ Q E hr h=>?_;obtain⟨r,l,t,rfl,hL,ht,k⟩:=h;refine⟨_,(ak (ax (gB (E6 Z) (by rfl) T.BL IY (aF (i8 Z GO.nd (fL (aI (Te T) hr T.BQ (aF (pv 1)))) (hZ (N:=["land","taking","index"]) (sc:=aG GA) (own:=[("index",2)]) (by decide+kernel)) (fun _ _ _ _ _=>(bY 2 GO)) (fun _ _ _ _ _=>j6) (fun _ _ _ _ _=>(jg (K0:=K) Z (bM (zd (K0:=K) Z) (jg (K0:=K) Z (pv 0) Z) (pv 2)) Z))))))),?_⟩
 try dsimp only[aO,Cx.aQ]
 have cz:r.cs.length=l.caches.length:=Paired.length hL.cs;have h4:=hL.ok.caches;have gW:t<16:=dG ht (jc (n:=2) (by decide) h4);refine⟨t,Z,gW,fun H1 p1 d_ pd eG=>?_⟩;rw[Th ht h4]at eG;refine⟨p1,Z,⟨_,ai.of eG⟩,fun D nD=>ny (K:=K) (a:=p1) (xs:=nats (qX l t))
  (fun i H2=>aa H1 H2∧H2 D=some (.lst ((((qX l t).take i).map fun i=>(mQ l i).food).map fun(n:Nat)=>V.int (n:Int)))) ⟨aa.upd nD,ah⟩ (fun i H2 _ q=>ai.of (q.1 _ _ eG)) ?_ ?_⟩
 ·rintro i y H2 hi ⟨sm,h2⟩;obtain⟨j,hj,rfl⟩:=cY hi;have dn:=hL.same (d_.trans sm);have jl:j<l.caches.length:=by
   have:=dI hj;unfold qX at this;exact ip.mp (rW.mp this).1
  obtain⟨a,ha⟩:∃a,r.cs[j]?=some a:=⟨_,di (by lia)⟩
  obtain⟨c,hc,dx,gf⟩:=fc dn.cs ha;refine⟨Z,?_⟩;refine(ag dn.ins T.lP Z ⟨r.lc,_,_,_,Z,Z,ai.of dn.ch,bX (j:=j) (v:=V.ref a) (by rw[cR,ha];rfl),?_⟩);refine ag gf T.Ih Z ⟨_,h2,?_,aa.bI sm nD,?_⟩
  ·rw[aB,aB,eW];unfold qX;have:=qS (jh t) (bP l.caches.length);rw[ia]at this;show _<16777216;lia
  ·rw[ah,gT hj,b9,b9,←zk hc];rfl
 ·rintro H2 ⟨sm,h2⟩;rw[show(nats (qX l t)).length=(qX l t).length by unfold nats;rw[aB],fD]at h2;refine⟨D,((qX l t).map fun i=>(mQ l i).food).map fun(n:Nat)=>((n:Nat):Int),Z,ai.of ?_,?_⟩
  ·rw[h2,IW]
  ·rw[CM,←Tj];exact k H2 (d_.trans sm)
theorem CN:∀(x acc:List Nat) (v:List Nat),v∈kT x acc→v≠[]∧v.length≤x.length+acc.length
 |[],acc,v,h=>by
  change v∈(if acc.isEmpty=true then[]else[acc.reverse])at h;cases acc with
  |nil=>cases h
  |cons a r=>
   have h:=cA.mp h;subst h;exact⟨by simp,by simp⟩
 |c::x,acc,v,h=>by
  change v∈(if To c=true then(if acc.isEmpty=true then kT x []else acc.reverse::kT x [])else kT x (c::acc))at h;by_cases hc:To c=true
  ·rw[if_pos hc]at h;cases acc with
   |nil=>
    have:=CN x [] v h;simp only[b6,ja]at this ⊢;exact⟨this.1,by lia⟩
   |cons a r=>
    rcases b_.mp h with e|h
    ·subst e;exact⟨by simp,by simp⟩
    ·have:=CN x [] v h;simp only[b6,ja]at this ⊢;exact⟨this.1,by lia⟩
  ·rw[if_neg hc]at h;have:=CN x (c::acc) v h;simp only[b6]at this ⊢;exact⟨this.1,by lia⟩
theorem I_:∀(x acc:List Nat),(kT x acc).length≤x.length+acc.length
 |[],acc=>by
  show(if acc.isEmpty=true then[]else[acc.reverse]).length≤_;cases acc with
  |nil=>simp
  |cons a r=>simp
 |c::r,acc=>by
  show(if To c=true then(if acc.isEmpty=true then kT r []else acc.reverse::kT r [])else kT r (c::acc)).length≤_;have h1:=I_ r [];have h2:=I_ r (c::acc);simp only[ja,b6]at h1 h2 ⊢;split
  ·cases acc with
   |nil=>simp only[List.isEmpty_nil,if_true,ja];lia
   |cons a q=>simp only[List.isEmpty_cons,Ft,if_false,b6];lia
  ·lia
theorem Ja:∀(b w:List Nat) (v:List Nat),v∈wJ b w→v.length≤b.length+w.length
 |[],w,v,h=>by
  have h:=cA.mp (show v∈[w.reverse]from h);subst h;simp
 |c::r,w,v,h=>by
  change v∈(if c=10 then w.reverse::wJ r []else wJ r (c::w))at h;by_cases hc:c=10
  ·rw[if_pos hc]at h;rcases b_.mp h with e|h
   ·subst e;simp
   ·have:=Ja r [] v h;simp only[b6,ja]at this ⊢
    lia
  ·rw[if_neg hc]at h;have:=Ja r (c::w) v h;simp only[b6]at this ⊢
   lia
def ji{S:Type}(step:S→List (List Nat)→Option S):Nat→S→List (List (List Nat))→Except Nat S
 |_,st,[]=>.ok st
 |n,st,ws::r=>if ws=[]then ji step (n+1) st r else match step st ws with
  |none=>.error n
  |some ci=>ji step (n+1) ci r
def bJ(O:List ae)(H H':Hp):Prop:=∀b o,H b=some o→b∉O→H' b=some o
theorem bJ.of(s:aa H H'):bJ O H H':=fun b o e _=>s b o e
theorem bJ.trans(a:bJ O H H1)(b:bJ O H1 H2):bJ O H H2:=fun c o e n=>b c o (a c o e n) n
structure Jb{S:Type}(sp:Sp)(whole:V)(R:Hp→S→Prop)(O:List ae)(step:S→List (List Nat)→Option S):Prop where
 kI:∀H H' st,aa H H'→R H st→R H' st
 own:∀H st b,R H st→b∈O→∃o,H b=some o
 take:∀H st a ws (Q:VK),R H st→H a=some (.lst (bA ws))→ws≠[]→Words ws→ws.length≤3000→a∉O→
  (∀ci,step st ws=some ci→∀H',bJ O H H'→R H' ci→Q (.bl true) H')→(step st ws=none→∀H',bJ O H H'→Q (.bl false) H')→sp [whole,.ref a] H Q E0
def aja{ι:Type}(fs:ι→ae)(tu:ι→Sp)(K:PySem.W.Frag):Sp:=fun vs H Q _=>∃(S:Type) (R:Hp→S→Prop) (O:List ae) (step:S→List (List Nat)→Option S) (j:ι) (row:ae) (whole:V) (bs:List Nat) (st:S),
 vs=[.ref row,whole,.ref (fs j)]∧ai K H row (nats bs)∧bs.length≤2500∧Jb (tu j) whole R O step∧R H st∧
 (∀ci,ji step 1 st (jN bs)=.ok ci→∀H',bJ O H H'→R H' ci→Q (.int 0) H')∧(∀n,ji step 1 st (jN bs)=.error n→∀H',bJ O H H'→Q (.int (n:Nat)) H')
theorem Tp{ι:Type}{ps:ι→List Str}{fs:ι→ae}{yp:ι→aM}{tu:ι→Sp}(T:Txt K mg A)(F:∀j,fC P w K mg base jE 6 (fs j) (yp j) (ps j) (tu j))(hk:∀j,PySem.W.keepIn K (.ref (fs j))=true)(hb:∀j,Binds K (yp j) (ps j) []):
  fC P w K mg base jE 7 A.QN A.QO ["row","whole","take_line"] (aja fs tu K):=by
 refine T.tR.ok BA (fun vs H Q E h=>?_) (fun dy Ar outer s H vs Q E hr h=>?_)
 ·obtain⟨S,R,O,step,j,row,whole,bs,st,rfl,_⟩:=h;rfl
 obtain⟨S,R,O,step,j,row,whole,bs,st,rfl,zm,hlen,tk,hR,kok,ajc⟩:=h;refine⟨_,(af (cJ<|eV d8 rfl (Be rfl T.wj (aF (aI (ah_ T) hr T.Hd (aF (pv 0))))) (u7 (n:=2) rfl (ir (bY 3 BA) (ir (bY 4 BA) oB))) (af (aE 5 BA (aI (aii T) hr T.He (aF (pv 4)))) (ak (aV (PW.pt (jW (aL kN (cT T.cH (pv 5)) aH) (jV (jX (gg (Ob 2 F (hr.mono (by decide)) hk hb .nil jG (aX (pv 1) (pv 5)))))))) (ak (ax (br dX (pv 3) aH))) aW)))) (ak (ax aH))),?_⟩
 try dsimp only[aO,Cx.aQ]
 refine⟨fun σ H'=>∃ci,ji step 1 st (jN bs)=.ok ci∧bJ O H H'∧R H' ci,?_,?_⟩
 ·refine⟨row,bs,Z,zm,by lia,fun H1 p as d_ np zo hp lQ=>?_⟩;have zc:as.length=(wJ bs []).length:=by rw[lQ.len,aB]
  have fr:∀c,c∈as→c∉O:=fun c m mo=>by
   obtain⟨o,e⟩:=tk.own H st c hR mo;rw[zo c m]at e;cases e
  have Jc:p∉O:=fun mo=>by
   obtain⟨o,e⟩:=tk.own H st p hR mo;rw[np]at e;cases e
  have hLs:∀H',bJ O H1 H'→Ls H' as ((wJ bs []).map nats):=fun H' so=>by
   have:∀{as:List ae}{ls:List (List V)},Ls H1 as ls→(∀c,c∈as→c∉O)→Ls H' as ls:=by
    intro as ls h;induction h with
    |nil=>intro _;exact .nil
    |cons r t ih=>intro f;exact .cons (so _ _ r (f _ cI)) (ih fun c m=>f c (c_ _ m))
   exact this lQ fr
  have ll:(jN bs).length=(wJ bs []).length:=by unfold jN;rw[aB]
  refine⟨p,_,Z,ai.of hp,qT (n:=(wJ bs []).length)
   (fun i σ H'=>∃v3 v4 v5 ci,σ=[some (.ref row),some whole,some (.ref (fs j)),v3,v4,v5]∧bJ O H1 H'∧R H' ci∧ji step 1 st (jN bs)=ji step (i+1) ci ((jN bs).drop i)) ⟨none,none,none,st,Z,bJ.of (aa.refl _),tk.kI _ _ _ d_ hR,Z⟩ ?_ ?_ ?_ ?_⟩
  ·rintro i σ H' hi ⟨v3,v4,v5,ci,rfl,so,qY,bO⟩;obtain⟨a,ha⟩:∃a,as[i]?=some a:=⟨_,di (by lia)⟩
   exact⟨_,V.ref a,ai.of (so _ _ hp Jc),by rw[cR,ha];rfl⟩
  ·rintro σ H' ⟨v3,v4,v5,ci,rfl,so,qY,bO⟩;exact⟨_,ai.of (so _ _ hp Jc),by rw[aB,zc];exact a9 _⟩
  ·rintro i σ H' x lT hi ⟨v3,v4,v5,ci,rfl,so,qY,bO⟩ ⟨t,y,rfl,nt,rfl,hy⟩;have hy:=hy _ (ai.of (so _ _ hp Jc));obtain⟨a,ha,rfl⟩:=cY hy;obtain⟨ln0,SA,zp⟩:=(hLs H' so).get ha;obtain⟨line,j5,rfl⟩:=cY SA;have SR:line.length≤2500:=by
    have:=Ja bs [] line (dI j5);simp only[ja]at this;lia
   have fS:(jN bs)[i]?=some (kT (fR line) []):=by
    unfold jN;rw[cR,j5];rfl
   have wok:Words (kT (fR line) []):=fun v m=>by
    have q:=CN (fR line) [] v m;have:=IC line;simp only[ja]at q;exact⟨q.1,by lia⟩
   have ajf:(kT (fR line) []).length≤3000:=by
    have q:=I_ (fR line) [];have:=IC line;simp only[ja]at q
    lia
   rw[o_ fS]at bO;have s2:aa H' (upd H' t (.tup [.int (i:Nat),.ref a])):=aa.upd nt;refine⟨t,_,Z,bV.of ah,Z,_,_,Z,_,_,Z,Z,?_⟩;refine⟨a,line,Z,ai.of (s2 _ _ zp),by lia,fun H3 pw s3 Tq Tr=>?_⟩;have pA:=s2.trans s3;have kX:bJ O H1 H3:=so.trans (bJ.of pA);have ki:=tk.kI _ _ _ pA qY;have npO:pw∉O:=fun mo=>by
    obtain⟨o,e⟩:=tk.own H' ci pw qY mo;rw[s2 _ _ e]at Tq;cases Tq
   generalize kT (fR line) []=ws at*;refine⟨_,_,Z,.inl (ai.of Tr),_,_,Z,Z,_,Z,?_⟩;change ji step 1 st (jN bs)=(if ws=[]then ji step (i+1+1) ci ((jN bs).drop (i+1))else match step ci ws with|none=>.error (i+1)|some Jd=>ji step (i+1+1) Jd ((jN bs).drop (i+1)))at bO;refine bK (fun h=>?_) (fun h=>?_)
   ·have Ts:ws≠[]:=fun e=>by
     subst e;exact absurd h (by unfold bA;simp)
    rw[if_neg Ts]at bO;refine⟨j,Z,tk.take H3 ci pw ws _ ki Tr Ts wok ajf npO (fun Jd e H4 s4 CO=>?_) (fun e H4 s4=>?_)⟩
    ·refine⟨_,Z,cV ?_⟩;rw[e]at bO;exact⟨_,_,_,Jd,Z,kX.trans s4,CO,bO⟩
    ·refine⟨_,Z,cP ?_⟩;rw[e]at bO;refine⟨_,_,Z,Z,?_⟩;exact ajc (i+1) bO H4 ((bJ.of d_).trans (kX.trans s4))
   ·have we:ws=[]:=by
     cases ws with
     |nil=>rfl
     |cons a b=>exact absurd (show(0:Int)<((bA (a::b)).length:Nat) by unfold bA;simp) h
    rw[if_pos we]at bO;refine cV ?_;exact⟨_,_,_,ci,Z,kX,ki,bO⟩
  ·rintro σ H' ⟨v3,v4,v5,ci,rfl,so,qY,bO⟩;rw[←ll,qw]at bO;exact⟨ci,bO,(bJ.of d_).trans so,qY⟩
 ·rintro σ H' ⟨ci,e,so,qY⟩;exact kok ci e H' so qY
theorem CP q:∀n,((((bP n).filter q).map fun i=>2^i).sum<2^n)∧∀i,ud ((((bP n).filter q).map fun i=>2^i).sum) i=(decide (i<n)&&q i)
 |0=>⟨by simp,fun i=>by simp⟩
 |n+1=>by
  obtain⟨h1,h2⟩:=CP q n;rw[lY];cases hq:q n with
  |false=>
   rw[if_neg cb,gi];refine⟨dG h1 (jc (by decide) (by lia)),fun i=>?_⟩;rw[h2];by_cases e:i=n
   ·subst e;rw[hq];simp
   ·rw[show decide (i<n)=decide (i<n+1)from decide_eq_decide.mpr (by lia)]
  |true=>
   rw[if_pos Z,b9,List.sum_append];generalize (((bP n).filter q).map fun i=>2^i).sum=x at h1 h2;have e:x+([n].map fun i=>2^i).sum=2^n+x:=by
    simp[A0]
   rw[e];have lt:2^n+x<2^(n+1):=by rw[Nat.pow_succ];lia
   refine⟨lt,fun i=>?_⟩;by_cases c1:i<n
   ·rw[Nat.testBit_two_pow_add_gt c1,h2,decide_eq_true c1,decide_eq_true (show i<n+1 by lia)]
   ·by_cases c2:i=n
    ·subst c2;rw[Nat.testBit_two_pow_add_eq,h2,hq,decide_eq_false (m3 i),decide_eq_true (EE i)];rfl
    ·rw[Bw (dG lt (jc (by decide) (by lia))),decide_eq_false (show ¬i<n+1 by lia)];rfl
theorem ajh l p:setAt l p<2^l.caches.length:=(CP _ _).1
theorem Tt l p i:(setAt l p).testBit i=(decide (i<l.caches.length)&&(mQ l i).place==p):=(CP _ _).2 i
theorem CQ(ht:t<16):fY l p s t=decide ((t&&& s)&&& setAt l p=t):=by
 rw[iJ,decide_eq_true_eq];unfold fY;rw[jC];constructor
 ·intro h;apply Gq;intro i;rw[Bv,Bv,Tt];by_cases hi:i<max aji l.caches.length
  ·have q:=h i (ip.mpr hi);unfold jh at q;cases a:t.testBit i with
   |false=>simp
   |true=>
    rw[a]at q;simp only[OF,gE]at q;rw[eE];exact q
  ·have:t.testBit i=false:=Bw (dG ht (show 2^4≤2^i from jc (by decide) (by have:aji=4:=Z;lia)));rw[this];rfl
 ·intro h i _;have q:=congrArg (fun n=>ud n i) h;simp only[Bv,Tt]at q;unfold jh;cases a:t.testBit i with
  |false=>rfl
  |true=>
   rw[a,eE]at q;exact q
theorem ajj(CS:n≤m)(h1:∀i,i<n→f i=g i)(h2:∀i,n≤i→i<m→f i=false):(bP m).filter f=(bP n).filter g:=by
 induction m with
 |zero=>
  have:n=0:=by lia
  subst this;rfl
 |succ m ih=>
  by_cases c:n=m+1
  ·subst c;exact List.filter_congr fun i hi=>h1 i (ip.mp hi)
  ·rw[lY,if_neg (by rw[h2 m (by lia) (by lia)];exact cb),gi];exact ih (by lia) fun i a b=>h2 i a (by lia)
theorem Tu(hs:s<2^l.caches.length)(h4:l.caches.length≤4):gI l p s=partsOf (s&&& setAt l p):=by
 have gJ:2^l.caches.length≤16:=jc (n:=2) (by decide) h4;have hle:s&&& setAt l p<2^l.caches.length:=qB Je hs;unfold gI partsOf;refine ajj (by lia) (fun i hi=>?_) (fun i h1 h2=>?_)
 ·rw[CQ (by lia)];refine decide_eq_decide.mpr ?_;rw[Tv]
 ·rw[CQ (by lia),decide_eq_false_iff_not,Tv];intro e;have:i≤s&&& setAt l p:=by rw[←e];exact tG
  lia
def zq(x:ee):List (Str×V):=[("place",.int (x.p:Nat)),("held",.int (x.s:Nat)),("storms",.int (x.b:Nat)),("food",.int (x.f:Nat))]
def c9(A:aR)(H:Hp)(a:ae)(x:ee):Prop:=∃dx,H a=some (.ins A.ic dx (zq x))
theorem c9.same(s:aa H H')(h:c9 A H a x):c9 A H' a x:=let ⟨d,e⟩:=h;⟨d,s _ _ e⟩
inductive Tw(A:aR)(vs:List V)(H:Hp)(Q:VK)(E:XK):Prop
 |mk:∀(r:LA) (l:aJ) (p c t:Nat),vs=[.ref r.a,.int p,.int c,.int t]→bq A H r l→t<16→(∀H',aa H H'→Q (.bl (fY l p c t)) H')→Tw A vs H Q E
theorem CT(T:Txt K mg A):T.wq.Ok P w mg base 2 (Tw A):=by
 refine T.wq.go aey fun _ _ _ _ H _ Q E hr h=>?_;obtain⟨r,l,p,c,t,rfl,hL,ht,k⟩:=h;refine⟨_,(ak (ax (nI cO (br qg (br qg (pv 3) (pv 2)) (aI (IX T) hr T.yW (aX (pv 0) (pv 1)))) (pv 3)))),?_⟩
 try dsimp only[aO,Cx.aQ]
 refine⟨_,_,Z,Z,r,l,p,Z,hL,fun H' sm=>?_⟩;refine⟨_,_,Z,Z,Z,?_⟩;have:=k H' sm;rw[CQ ht]at this;have e:V.bl (decide (V.int (oC (oC (t:Int) (c:Int)) (setAt l p:Int))=V.int (t:Int)))=V.bl (decide ((t&&& c)&&& setAt l p=t)):=by
  rw[t_,t_];exact congrArg V.bl (decide_eq_decide.mpr ⟨fun z=>by injection z with z;lia,fun z=>by rw[z]⟩)
 exact e▸this
inductive Jf(A:aR)(vs:List V)(H:Hp)(Q:VK)(E:XK):Prop
 |mk:∀(c:ae) (x:ee),vs=[.ref c]→c9 A H c x→(∀t,H t=none→Q (.ref t) (upd H t (.tup [.int (x.p:Nat),.int (x.s:Nat),.int (x.b:Nat),.int (x.f:Nat)])))→Jf A vs H Q E
theorem CU(T:Txt K mg A):T.wo.Ok P w mg base 1 (Jf A):=by
 refine T.wo.go aex fun _ _ _ _ H _ Q E hr h=>?_;obtain⟨c,x,rfl,⟨dp,hp⟩,k⟩:=h;refine⟨_,(ak (ax (jA (c8 (aj 0) (aj 0) (aj 0) (aj 0))))),?_⟩
 try dsimp only[aO,Cx.aQ]
 refine(ag hp T.fQ Z (ag hp T.jJ Z (ag hp T.jK Z (ag hp T.qL Z ?_))));exact⟨be,fun t nt=>k t nt⟩
inductive Tx(A:aR)(vs:List V)(H:Hp)(Q:VK)(E:XK):Prop
 |mk:∀(r:LA) (l:aJ) (c:ae) (x:ee) (t:Nat),vs=[.ref r.a,.ref c,.int t]→bq A H r l→c9 A H c x→t<2^l.caches.length→(∀H',aa H H'→Q (.int (dS l x.f t)) H')→Tx A vs H Q E
theorem Tz(T:Txt K mg A):T.BR.Ok P w mg base 3 (Tx A):=by
 refine T.BR.go aez fun _ _ _ _ H _ Q E hr h=>?_;obtain⟨r,l,c,x,t,rfl,hL,⟨dp,hp⟩,ht,k⟩:=h;refine⟨_,(ak (ax (gB (AN Z) (by rfl) T.BK Jg (aX (aj 0) (br dX (aj 1) (aI (IZ T) hr T.yX (aX (pv 0) (pv 2)))))))),?_⟩
 try dsimp only[aO,Cx.aQ]
 refine(ag hL.ins T.o6 Z (ag hp T.qL Z ⟨r,l,t,Z,hL,ht,fun H' sm=>?_⟩));refine⟨_,_,Z,Z,_,_,Z,?_⟩;have:=k H' sm;have e:(if(x.f:Int)+(kW l t:Int)<(l.most:Int)then(x.f:Int)+(kW l t:Int)else(l.most:Int))=(dS l x.f t:Int):=by
  unfold dS;split <;>lia
 exact e▸this
inductive TB(A:aR)(vs:List V)(H:Hp)(Q:VK)(E:XK):Prop
 |mk:∀(c:ae) (g:cK) (b:Nat),vs=[.ref c,.int b]→dO A H c g→g.least≤g.most→Q (.int (a_ g b)) H→TB A vs H Q E
theorem ue(T:Txt K mg A):T.oW.Ok P w mg base 1 (TB A):=by
 refine T.oW.go aeA fun _ _ _ _ H _ Q E hr h=>?_;obtain⟨c,g,b,rfl,⟨dg,hg⟩,hle,k⟩:=h;refine⟨_,(ak (ax (gB (AN Z) (by rfl) T.BK Jg (aX (br iu (aj 0) (aj 0)) (pv 1))))),?_⟩
 try dsimp only[aO,Cx.aQ]
 refine(ag hg T.Cn Z (ag hg T.oZ Z ⟨_,_,Z,Z,_,_,Z,?_⟩));have e:(if(b:Int)<(g.most:Int)-(g.least:Int)then(b:Int)else(g.most:Int)-(g.least:Int))=(a_ g b:Int):=by
  unfold a_;split <;>lia
 exact e▸k
def iS(l:aJ)(x:ee)(t:Nat)(g:cK)(j:Nat):ee:={p:=g.b,s:=x.s-t,b:=x.b-j,f:=dS l x.f t-(g.least+j)}
inductive TC(A:aR)(vs:List V)(H:Hp)(Q:VK)(E:XK):Prop
 |mk:∀(r:LA) (l:aJ) (c:ae) (x:ee) (t:Nat) (cg:ae) (g:cK) (j:Nat),vs=[.ref r.a,.ref c,.int t,.ref cg,.int j]→bq A H r l→c9 A H c x→t<2^l.caches.length→dO A H cg g→t≤x.s→j≤x.b→(dS l x.f t<g.least+j→∀H',aa H H'→Q .aC H')→(g.least+j≤dS l x.f t→∀H' c',aa H H'→H c'=none→c9 A H' c' (iS l x t g j)→Q (.ref c') H')→TC A vs H Q E
theorem wK(T:Txt K mg A):T.qI.Ok P w mg base 4 (TC A):=by
 refine T.qI.go Qw fun _ _ _ _ H _ Q E hr h=>?_;obtain⟨r,l,c,x,t,cg,g,j,rfl,hL,⟨dp,hp⟩,ht,⟨dg,hg⟩,CV,hjb,k0,k1⟩:=h;refine⟨_,(af (aE 5 Qw (br iu (br iu (aI (Tz T) hr T.BR (cS (pv 0) (pv 1) (pv 2))) (aj 3)) (pv 4))) (af (aV (aL jz (pv 5) aH) (ak (ax bp)) aW) (ak (ax (gk (wG T) hr T.wx T.qH (c8 (aj 3) (br iu (aj 1) (pv 2)) (br iu (aj 1) (pv 4)) (pv 5))))))),?_⟩
 try dsimp only[aO,Cx.aQ]
 refine⟨r,l,c,x,t,Z,hL,⟨dp,hp⟩,ht,fun H1 sm=>?_⟩;have eG:=sm _ _ hp;have kh:=sm _ _ hg;refine(ag kh T.oZ Z ⟨_,_,Z,Z,_,_,Z,Z,?_⟩);refine⟨_,_,Z,Z,_,Z,bK (fun h=>?_) (fun h=>?_)⟩
 ·exact k0 (by lia) H1 sm
 ·refine(ag kh T.nQ Z ?_);refine(ag eG T.jJ Z ⟨_,_,Z,Z,?_⟩);refine(ag eG T.jK Z ⟨_,_,Z,Z,fun z dz nz dP iC=>?_⟩);refine⟨z,dz,_,_,_,_,Z,ah,fun H4 hz hk=>⟨Z,?_⟩⟩;have fo:aa H1 H4:=aa.make (C:=A.ic) (fs:=[]) nz dP hk;refine k1 (by lia) H4 z (sm.trans fo) (aa.free sm nz) ⟨dz,?_⟩;rw[hz];unfold zq iS;rw[show((x.s-t:Nat):Int)=(x.s:Int)-(t:Int) by lia,show((x.b-j:Nat):Int)=(x.b:Int)-(j:Int) by lia,
   show((dS l x.f t-(g.least+j):Nat):Int)=(dS l x.f t:Int)-(g.least:Int)-(j:Int) by lia]
def fv:wL→Nat
 |none=>1000
 |some n=>n
def lZ(l:aJ)(s b:Nat):List V:=(bP l.places.length).map fun p=>V.int ((fv (cq (a8 l) s b p):Nat):Int)
def kY(g:cK)(b:Nat)(f:Nat→wL)(n:Nat):Nat:=(bP n).foldl (fun m k=>max m (g.least+(k+1)+fv (f (b-(k+1))))) 0
def ij(g:cK)(b:Nat)(f:Nat→wL):Nat:=max (kY g b f (a_ g b)) (g.least+fv (f b))
def mR(l:aJ)(s b:Nat):List V:=l.legs.map fun g=>V.int ((ij g b (fun c=>cq (a8 l) s c g.b):Nat):Int)
def kk(s b:Nat):List Key:=[bL (s:Int),bL (b:Int)]
structure NA where
 a:ae
 dx:ae
 dl:ae
 dc:ae
 kl:List (List Key×V)
 kc:List (List Key×V)
def Jh(r:LA)(n:NA):List (Str×V):=[("land",.ref r.a),("levels",.ref n.dl),("costs",.ref n.dc)]
structure bR(A:aR)(H:Hp)(n:NA)(r:LA)(l:aJ):Prop where
 ins:H n.a=some (.ins A.iQ n.dx (Jh r n))
 lv:H n.dl=some (.dT n.kl)
 cs:H n.dc=some (.dT n.kc)
 ne:n.dl≠n.dc
 pB:∀k v,bw n.kl k=some v→∃s b a,k=kk s b∧s<2^l.caches.length∧b≤8∧v=.ref a∧H a=some (.lst (lZ l s b))
 pC:∀k v,bw n.kc k=some v→∃s b a,k=kk s b∧s<2^l.caches.length∧b≤8∧v=.ref a∧H a=some (.lst (mR l s b))
 both:∀k,(bw n.kl k).isSome=(bw n.kc k).isSome
 qZ:(n.kl.map (·.1)).Nodup
 q_:(n.kc.map (·.1)).Nodup
theorem bR.same(sm:aa H H')(h:bR A H n r l):bR A H' n r l:=
 ⟨sm _ _ h.ins,sm _ _ h.lv,sm _ _ h.cs,h.ne,fun k v e=>let ⟨s,b,a,q1,q2,q3,q4,q5⟩:=h.pB k v e;⟨s,b,a,q1,q2,q3,q4,sm _ _ q5⟩,
  fun k v e=>let ⟨s,b,a,q1,q2,q3,q4,q5⟩:=h.pC k v e;⟨s,b,a,q1,q2,q3,q4,sm _ _ q5⟩,h.both,h.qZ,h.q_⟩
def eY(n:NA)(s b:Nat):Prop:=(bw n.kl (kk s b)).isSome=true
theorem TF(h:kk s b=kk s' b'):s=s'∧b=b':=by
 unfold kk at h;injection h with h1 h2;injection h2 with h2 _;have e1:=K7 h1;have e2:=K7 h2
 lia
theorem bR.level(h:bR A H n r l)(hs:eY n s b):∃a,bw n.kl (kk s b)=some (.ref a)∧H a=some (.lst (lZ l s b)):=by
 obtain⟨v,hv⟩:=EN.mp hs;obtain⟨s',b',a,e,_,_,rfl,ha⟩:=h.pB _ _ hv;obtain⟨rfl,rfl⟩:=TF e;exact⟨a,hv,ha⟩
theorem bR.cost(h:bR A H n r l)(hs:eY n s b):∃a,bw n.kc (kk s b)=some (.ref a)∧H a=some (.lst (mR l s b)):=by
 have hs:(bw n.kc (kk s b)).isSome=true:=by rw[←h.both];exact hs
 obtain⟨v,hv⟩:=EN.mp hs;obtain⟨s',b',a,e,_,_,rfl,ha⟩:=h.pC _ _ hv;obtain⟨rfl,rfl⟩:=TF e;exact⟨a,hv,ha⟩
theorem TH(hp:p<l.places.length):(lZ l s b)[p]?=some (.int ((fv (cq (a8 l) s b p):Nat):Int)):=by
 unfold lZ;rw[cR,j_ hp];rfl
inductive TJ(A:aR)(vs:List V)(H:Hp)(Q:VK)(E:XK):Prop
 |mk:∀(n:NA) (r:LA) (l:aJ) (p s b:Nat),vs=[.ref n.a,.int p,.int s,.int b]→bR A H n r l→eY n s b→p<l.places.length→(∀H',aa H H'→Q (.int (fv (cq (a8 l) s b p))) H')→TJ A vs H Q E
theorem ajk(T:Txt K mg A):T.qJ.Ok P w mg base 1 (TJ A):=by
 refine T.qJ.go QF fun _ _ _ _ H _ Q E hr h=>?_;obtain⟨n,r,l,p,s,b,rfl,hN,hh,hp,k⟩:=h;have hu:=d6 hr;refine⟨_,(af (aV (uZ (yc hu (jA (aX (pv 2) (pv 3))) (aj 0))) YK aW) (ak (ax (bM cF (eD hu (aj 0) (jA (aX (pv 2) (pv 3)))) (pv 1))))),?_⟩
 try dsimp only[aO,Cx.aQ]
 refine⟨be,fun t1 n1=>?_⟩;have d_:aa H (upd H t1 (.tup [.int s,.int b])):=aa.upd n1;have dC:=hN.same d_;refine(ag dC.ins T.tW Z ⟨n.dl,_,Z,fW.t (k:=kk s b) dC.lv ah,_,Z,?_⟩);rw[show(bw n.kl (kk s b)).isSome=true from hh];refine cV ?_;obtain⟨a,ha,zp⟩:=dC.level hh;refine(ag dC.ins T.tW Z ⟨be,fun t2 n2=>?_⟩);have cZ:=aa.upd (o:=.tup [.int s,.int b]) n2;have kZ:=dC.same cZ;refine⟨n.dl,_,Z,?_,a,_,_,_,Z,Z,ai.of (cZ _ _ zp),bX (TH hp),k _ (d_.trans cZ)⟩;rw[←ha];exact fW.t (k:=kk s b) kZ.lv ah
theorem TK g b f n:kY g b f (n+1)=max (kY g b f n) (g.least+(n+1)+fv (f (b-(n+1)))):=by
 unfold kY;rw[tH,OH];rfl
inductive TM(A:aR)(vs:List V)(H:Hp)(Q:VK)(E:XK):Prop
 |mk:∀(n:NA) (r:LA) (l:aJ) (c:ae) (g:cK) (s b:Nat),vs=[.ref n.a,.ref c,.int s,.int b]→bR A H n r l→dO A H c g→g.least≤g.most→g.b<l.places.length→b≤8→(∀k,1≤k→k≤a_ g b→eY n s (b-k))→(∀H',aa H H'→Q (.int (kY g b (fun c=>cq (a8 l) s c g.b) (a_ g b))) H')→TM A vs H Q E
theorem ajl(T:Txt K mg A):T.HX.Ok P w mg base 2 (TM A):=by
 refine T.HX.go BF fun _ _ _ _ H _ Q E hr h=>?_;obtain⟨n,r,l,c,g,s,b,rfl,hN,⟨dg,hg⟩,hle,hgb,jk,hh,k⟩:=h;refine⟨_,(af (aE 4 BF aH) (af (cJ<|eV d8 rfl (Y5 rfl T.mK (aX aH (br dX (gB (AN rfl) (by rfl) T.BK Jg (aX (br iu (aj 1) (aj 1)) (pv 3))) aH))) (bY 5 BF) (ak (aE 4 BF (gB (xK Z) (by rfl) T.wk zr (aX (pv 4) (br dX (br dX (aj 1) (pv 5)) (qj (pv 0) T.qO T.Ct (ajk T) (hr.mono (by decide)) T.qJ.b .nil jG (cS (aj 1) (pv 2) (br iu (pv 3) (pv 5)))))))))) (ak (ax (pv 4))))),?_⟩
 try dsimp only[aO,Cx.aQ]
 refine⟨fun(σ:L2.St) H'=>∃v5,σ=[some (.ref n.a),some (.ref c),some (.int s),some (.int b),some (.int (kY g b (fun c=>cq (a8 l) s c g.b) (a_ g b))),v5]∧aa H H',?_,?_⟩
 ·refine(ag hg T.Cn Z (ag hg T.oZ Z ⟨_,_,Z,Z,_,_,Z,_,_,Z,Z,1,(a_ g b:Int)+1,?_,?_,?_⟩))
  ·have e:(if(b:Int)<(g.most:Int)-(g.least:Int)then(b:Int)else(g.most:Int)-(g.least:Int))=(a_ g b:Int):=by
    unfold a_;split <;>lia
   exact congrArg (fun z=>[V.int 1,V.int (z+1)]) e
  ·have:a_ g b≤8:=by unfold a_;lia
   lia
  rw[show((a_ g b:Int)+1-1).toNat=a_ g b by lia];refine ve (lo:=1) (n:=a_ g b) (fun i σ H'=>∃v5,σ=[some (.ref n.a),some (.ref c),some (.int s),some (.int b),some (.int (kY g b (fun c=>cq (a8 l) s c g.b) i)),v5]∧aa H H') ⟨none,Z,aa.refl _⟩ ?_ ?_
  ·rintro i σ H' hi ⟨v5,rfl,sm⟩;have wM:=hN.same sm;have fF:=sm _ _ hg;have hib:i+1≤b:=by
    have:a_ g b≤b:=by unfold a_;lia
    lia
   refine(ag fF T.oZ Z ⟨_,_,Z,Z,n.a,n.dx,_,Z,wM.ins,Z,?_⟩);refine(ag fF T.nQ Z ⟨_,_,Z,Z,n,r,l,g.b,s,b-(i+1),?_,wM,hh (i+1) (by lia) (by lia),hgb,fun lT sm'=>?_⟩)
   ·rw[show((b-(i+1):Nat):Int)=(b:Int)-(1+(i:Int)) by lia];rfl
   refine⟨_,_,Z,Z,_,_,Z,some (.int (1+(i:Int))),?_,sm.trans sm'⟩;have e:(if(g.least:Int)+(1+(i:Int))+(fv (cq (a8 l) s (b-(i+1)) g.b):Int)>(kY g b (fun c=>cq (a8 l) s c g.b) i:Int)then(g.least:Int)+(1+(i:Int))+(fv (cq (a8 l) s (b-(i+1)) g.b):Int)else(kY g b (fun c=>cq (a8 l) s c g.b) i:Int))=((kY g b (fun c=>cq (a8 l) s c g.b) (i+1):Nat):Int):=by
    rw[TK];split <;>lia
   rw[←e];rfl
  ·rintro σ H' ⟨v5,rfl,sm⟩;exact⟨v5,Z,sm⟩
 ·rintro σ H' ⟨v5,rfl,sm⟩;exact(k H' sm)
def mS(l:aJ)(s b:Nat)(g:cK)(N:List Nat)(t:Nat):List Nat:=
 if t=0 then N else
  if ij g b (fun c=>cq (a8 l) (s-t) c g.b)≤l.most then N.set g.a (min (N.getD g.a 0) (ij g b (fun c=>cq (a8 l) (s-t) c g.b)-kW l t))else N
def rd(l:aJ)(s b:Nat)(N:List Nat)(g:cK):List Nat:=(partsOf (s&&& setAt l g.a)).foldl (mS l s b g) N
def kj(l:aJ)(s b:Nat):List Nat:=l.legs.foldl (rd l s b) ((fj l.places.length 1000).set 0 0)
theorem Ji l s b g N t:(mS l s b g N t).length=N.length:=by
 unfold mS;split
 ·rfl
 ·split
  ·rw[sI]
  ·rfl
theorem zt{α:Type}{f:List Nat→α→List Nat}(h:∀N x,(f N x).length=N.length):∀(L:List α) N,(L.foldl f N).length=N.length
 |[],_=>rfl
 |x::L,N=>by rw[nv,zt h L,h]
theorem Jj l s b N g:(rd l s b N g).length=N.length:=zt (Ji l s b g) _ _
theorem Jk{α β:Type}{f:β→α→β}{L:List α}{x:α}(h:L[i]?=some x)N:(L.take (i+1)).foldl f N=f ((L.take i).foldl f N) x:=by
 rw[gT h,OH];rfl
theorem TN(m:t∈partsOf h):t&&& h=t:=of_decide_eq_true (rW.mp m).2
inductive TQ(A:aR)(vs:List V)(H:Hp)(Q:VK)(E:XK):Prop
 |mk:∀(n:NA) (r:LA) (l:aJ) (s b:Nat),vs=[.ref n.a,.int s,.int b]→bR A H n r l→bq A H r l→0<l.places.length→s<2^l.caches.length→(∀t,t≠0→t&&& s=t→eY n (s-t) b)→(∀H' p,aa H H'→H p=none→H' p=some (.lst (nats (kj l s b)))→Q (.ref p) H')→TQ A vs H Q E
theorem Jl N i v:(nats N).set i (V.int (v:Nat))=nats (N.set i v):=by
 unfold nats;rw[List.map_set]
theorem zu(h:i<N.length):(nats N)[i]?=some (V.int ((N.getD i 0:Nat):Int)):=by
 unfold nats;rw[cR,di h,eS,di h];rfl
inductive I8_(H:Hp)(n:NA)(l:Vbexab.Land)(s b:Nat)(p2:ae)(σ:L2.St)(H':Hp):Prop|mk v4 v5 v6 v7 v8:σ=[some (.ref n.a),some (.int s),some (.int b),some (.ref p2),v4,v5,v6,v7,v8]→aa H H'→H' p2=some (.lst (nats (kj l s b)))→I8_ H n l s b p2 σ H'
inductive I9_(H:Hp)(n:NA)(l:Vbexab.Land)(s b:Nat)(p2:ae)(i:Nat)(σ:L2.St)(H':Hp):Prop|mk v4 v5 v6 v7 v8:σ=[some (.ref n.a),some (.int s),some (.int b),some (.ref p2),v4,v5,v6,v7,v8]→aa H H'→H' p2=some (.lst (nats ((l.legs.take i).foldl (rd l s b) ((fj l.places.length 1000).set 0 0))))→I9_ H n l s b p2 i σ H'
inductive I10_(H:Hp)(n:NA)(l:Vbexab.Land)(s b:Nat)(p2:ae)(i:Nat)(a:ae)(g:Vbexab.Leg)(N:List Nat)(σ:L2.St)(H':Hp):Prop|mk v6 v7 v8:σ=[some (.ref n.a),some (.int s),some (.int b),some (.ref p2),some (.int (i:Nat)),some (.ref a),v6,v7,v8]→aa H H'→H' p2=some (.lst (nats (rd l s b N g)))→I10_ H n l s b p2 i a g N σ H'
theorem ajo(T:Txt K mg A):T.HW.Ok P w mg base 3 (TQ A):=by
 refine T.HW.go tK fun _ _ _ _ H _ Q E hr h=>?_;obtain⟨n,r,l,s,b,rfl,hN,hL,df,hs,hh,k⟩:=h;have hu:=d6 hr;have h7:=hL.ok.places;have nU:r.gs.length=l.legs.length:=Paired.length hL.gs;have gJ:2^l.caches.length≤16:=jc (n:=2) (by decide) hL.ok.caches;refine⟨_,(af (aE 3 tK (br Mx (bi (aF (a6 T.BN))) (cT T.cH (iw (aj 0) Z)))) (af (Em aH (Ek (pv 3) (a6 T.tQ) set_list)) (af (cJ<|eV d8 rfl (Be rfl T.wj (aF (iw (aj 0) rfl))) (u7 (n:=2) rfl (ir (bY 4 tK) (ir (bY 5 tK) oB))) (ak (cJ<|eV d8 rfl (fL (aI (IV T) hr T.yV (aF (br qg (pv 1) (aI (IX T) hr T.yW (aX (aj 0) (aj 5))))))) (bY 6 tK) (af (aV (aL cO (pv 6) aH) (ak Lp) aW) (af (aE 7 tK (bM cF (eD hu (aj 0) (jA (aX (br iu (pv 1) (pv 6)) (pv 2)))) (pv 4))) (ak (aV (aL qh (pv 7) (iw (aj 0) Z)) (af (aE 8 tK (gB (xK Z) (by rfl) T.wk zr (aX aH (br iu (pv 7) (aI (IZ T) hr T.yX (aX (aj 0) (pv 6))))))) (ak (Em (gB (AN Z) (by rfl) T.BK Jg (aX (bM cF (pv 3) (aj 5)) (pv 8))) (Ek (pv 3) (aj 5) set_list)))) aW))))))) (ak (ax (pv 3)))))),?_⟩
 try dsimp only[aO,Cx.aQ]
 refine⟨be,fun p1 n1=>?_⟩;have s1:aa H (upd H p1 (.lst [V.int 1000])):=aa.upd n1;have cu:=hL.same s1;have dC:=hN.same s1;refine(ag dC.ins T.qP Z (ag cu.ins T.jd Z ⟨_,_,Z,.inl (ai.of cu.pl),p1,_,_,Z,Z,ah,?_,?_,?_,fun p2 n2=>?_⟩))
 ·lia
 ·unfold cn;rw[aB];lia
 ·unfold cn;rw[aB];show _≤16777216;simp;lia
 have qR:H p2=none:=aa.free s1 n2;have apX:p1≠p2:=fun e=>by subst e;rw[ah]at n2;cases n2
 have er:(fj (((cn l.places).length:Nat):Int).toNat [V.int 1000]).flatten=nats (fj l.places.length 1000):=by
  rw[ml];unfold cn nats;rw[aB,List.map_replicate];generalize l.places.length=m;induction m with
  |zero=>rfl
  |succ m ih=>rw[vF,AZ,ih,vF];rfl
 rw[er];have s2:aa H (upd (upd H p1 (.lst [V.int 1000])) p2 (.lst (nats (fj l.places.length 1000)))):=aa.bI s1 qR;refine⟨p2,_,_,0,Z,Z,ah,?_,?_⟩
 ·unfold lI;rw[if_pos (by decide),if_pos (by unfold nats;rw[aB,vo];lia)];rfl
 rw[D7,show(V.int 0)=V.int ((0:Nat):Int)from Z,Jl];have s3:aa H (upd (upd H p1 (.lst [V.int 1000])) p2 (.lst (nats ((fj l.places.length 1000).set 0 0)))):=aa.bI s1 qR;generalize Fq:upd (upd H p1 (.lst [V.int 1000])) p2 (.lst (nats ((fj l.places.length 1000).set 0 0)))=H3 at s3 ⊢;have h3:H3 p2=some (.lst (nats ((fj l.places.length 1000).set 0 0))):=by rw[←Fq];exact ah
 clear Fq s2;have len0:((fj l.places.length 1000).set 0 0).length=l.places.length:=by rw[sI,vo]
 refine⟨I8_ H n l s b p2,?_,?_⟩
 ·have lW:=hL.same s3;have l0:=hN.same s3;refine(ag l0.ins T.qP Z (ag lW.ins T.qK Z ⟨r.ll,_,Z,ai.of lW.lg,qT (n:=l.legs.length)
   (I9_ H n l s b p2) ⟨none,none,none,none,none,Z,s3,h3⟩ ?_ ?_ ?_ ?_⟩))
  ·rintro i σ H' hi ⟨v4,v5,v6,v7,v8,rfl,sm,hp⟩;obtain⟨a,ha⟩:∃a,r.gs[i]?=some a:=⟨_,di (by lia)⟩
   exact⟨_,V.ref a,ai.of (sm _ _ hL.lg),by rw[cR,ha];rfl⟩
  ·rintro σ H' ⟨v4,v5,v6,v7,v8,rfl,sm,hp⟩;exact⟨_,ai.of (sm _ _ hL.lg),by rw[aB];lia⟩
  ·rintro i σ H' x lT hi ⟨v4,v5,v6,v7,v8,rfl,sm,hp⟩ ⟨t,y,rfl,nt,rfl,hy⟩;have hy:=hy _ (ai.of (sm _ _ hL.lg));obtain⟨a,ha,rfl⟩:=cY hy;obtain⟨g,hg,dg,ii⟩:=fc hL.gs ha;have dj:=hL.ok.dJ g (dI hg);have Jm:p2≠t:=fun e=>by subst e;rw[hp]at nt;cases nt
   have cZ:aa H (upd H' t (.tup [.int (i:Nat),.ref a])):=aa.bI sm (aa.free sm nt);have cX:(upd H' t (.tup [.int (i:Nat),.ref a])) p2=some (.lst (nats ((l.legs.take i).foldl (rd l s b) ((fj l.places.length 1000).set 0 0)))):=by rw[ao Jm];exact hp
   refine⟨t,_,Z,bV.of ah,Z,_,_,Z,_,_,Z,Z,?_⟩;generalize upd H' t (.tup [.int (i:Nat),.ref a])=H4 at cZ cX ⊢;generalize TR:(l.legs.take i).foldl (rd l s b) ((fj l.places.length 1000).set 0 0)=N at cX;have hNl:N.length=l.places.length:=by rw[←TR,zt (Jj l s b),len0]
   have dQ:=hL.same cZ;have jO:=hN.same cZ;have qW:=cZ _ _ ii;have ajq:s&&& setAt l g.a<16:=qB Je (by lia);refine⟨I10_ H n l s b p2 i a g N,?_,?_⟩
   ·refine(ag jO.ins T.qP Z (ag qW T.oY Z ⟨r,l,g.a,Z,dQ,fun H5 s5=>⟨_,_,Z,Z,s&&& setAt l g.a,?_,ajq,fun H6 pp s6 k6 iD=>?_⟩⟩))
    ·show[V.int (oC (s:Int) (setAt l g.a:Int))]++[]=_;rw[t_];rfl
    have TU:=s5.trans s6;refine⟨pp,Z,⟨_,ai.of iD⟩,kL (K:=K) (a:=pp) (xs:=nats (partsOf (s&&& setAt l g.a)))
     (fun m σ H'=>∃v6 v7 v8,σ=[some (.ref n.a),some (.int s),some (.int b),some (.ref p2),some (.int (i:Nat)),some (.ref a),v6,v7,v8]∧aa H H'∧H' pp=some (.lst (nats (partsOf (s&&& setAt l g.a))))∧H' p2=some (.lst (nats (((partsOf (s&&& setAt l g.a)).take m).foldl (mS l s b g) N))))
     ⟨_,_,_,Z,cZ.trans TU,iD,TU _ _ cX⟩ (fun m σ H' _ ⟨_,_,_,_,_,q,_⟩=>ai.of q) ?_ ?_⟩
    ·rintro m y σ H' hm ⟨v6,v7,v8,rfl,pD,CW,pE⟩;obtain⟨tk,zw,rfl⟩:=cY hm;have ajr:pp≠p2:=fun e=>by
      subst e;rw[s5 _ _ cX]at k6;cases k6
     have hLm:=hL.same pD;have Jn:=hN.same pD;have hgm:=pD _ _ ii;have hand:=TN (dI zw);have TV:tk&&& s=tk:=by
      have e:tk&&& s&&& setAt l g.a=tk:=by rw[Tv];exact hand
      apply Gq;intro q;have:=congrArg (fun z=>ud z q) e;simp only[Bv]at this ⊢;cases h1:tk.testBit q <;>cases h2:s.testBit q <;>rw[h1,h2]at this <;>simp_all
     have apZ:tk≤s:=by rw[←TV];exact tG
     generalize TX:((partsOf (s&&& setAt l g.a)).take m).foldl (mS l s b g) N=M at pE;have TY:M.length=l.places.length:=by rw[←TX,zt (Ji l s b g),hNl]
     have nxt:((partsOf (s&&& setAt l g.a)).take (m+1)).foldl (mS l s b g) N=mS l s b g M tk:=by rw[Jk zw,TX]
     rw[nxt];unfold mS;refine⟨Z,_,Z,bK (fun h=>?_) (fun h=>?_)⟩
     ·have e:tk=0:=by injection h with h;lia
      rw[if_pos e];exact⟨_,_,_,Z,pD,CW,pE⟩
     ·have e:tk≠0:=fun z=>h (by rw[z]);rw[if_neg e];have zx:=hh tk e TV;obtain⟨ac,hac,ajv⟩:=Jn.cost zx;refine(ag Jn.ins T.Iq Z ⟨_,_,Z,Z,be,fun t2 mT=>?_⟩);have fM:=aa.upd (o:=.tup [.int ((s:Int)-(tk:Int)),.int (b:Int)]) mT;have Jo:=Jn.same fM;refine⟨n.dc,_,Z,?_,ac,_,_,_,Z,Z,ai.of (fM _ _ ajv),bX (j:=i) (v:=V.int ((ij g b (fun c=>cq (a8 l) (s-tk) c g.b):Nat):Int)) (by unfold mR;rw[cR,hg];rfl),?_⟩
      ·rw[←hac];refine fW.t (k:=kk (s-tk) b) Jo.cs ?_;rw[ah];unfold kk;rw[show(((s-tk:Nat)):Int)=(s:Int)-(tk:Int) by lia];rfl
      generalize hc:ij g b (fun c=>cq (a8 l) (s-tk) c g.b)=cst;have Jp:=pD.trans fM;have ap0:p2≠t2:=fun e=>by subst e;rw[pE]at mT;cases mT
      have ap1:pp≠t2:=fun e=>by subst e;rw[CW]at mT;cases mT
      have TZ:=fM _ _ pE;have T1:=fM _ _ CW;have T2:=hLm.same fM;generalize upd H' t2 (.tup [.int ((s:Int)-(tk:Int)),.int (b:Int)])=H7 at*;refine(ag Jo.ins T.qP Z (ag T2.ins T.o6 Z ⟨_,_,Z,Z,_,Z,?_⟩));refine bK (fun h=>?_) (fun h=>?_)
      ·rw[if_pos (by lia)];refine(ag Jo.ins T.qP Z ⟨r,l,tk,Z,T2,by lia,fun H8 s8=>?_⟩);refine⟨_,_,Z,Z,_,_,Z,?_⟩;have T3:=s8 _ _ TZ;have ajw:=s8 _ _ T1;have T4:=s8 _ _ (Jp _ _ ii);have ix:(nats M)[g.a]?=some (V.int ((M.getD g.a 0:Nat):Int)):=zu (by rw[TY];exact dj.2.2.2.1);refine(ag T4 T.oY Z ⟨p2,_,_,_,Z,Z,ai.of T3,bX (j:=g.a) ix,_,_,Z,?_⟩);refine(ag T4 T.oY Z ⟨p2,_,_,g.a,Z,Z,T3,?_,?_⟩)
       ·unfold lI;rw[if_pos (by lia),if_pos (by unfold nats;rw[aB,TY];have:=dj.2.2.2.1;lia)];simp
       refine⟨_,_,_,Z,aa.bI (Jp.trans s8) qR,by rw[ao ajr];exact ajw,?_⟩;rw[ah,←Jl];congr 3;show V.int _=V.int _;congr 1;split <;>split <;>lia
      ·rw[if_neg (by lia)];exact⟨_,_,_,Z,Jp,T1,TZ⟩
    ·rintro σ H' ⟨v6,v7,v8,rfl,pD,CW,pE⟩;rw[show(nats (partsOf (s&&& setAt l g.a))).length=(partsOf (s&&& setAt l g.a)).length by unfold nats;rw[aB],fD]at pE;exact⟨_,_,_,Z,pD,pE⟩
   ·rintro σ H' ⟨v6,v7,v8,rfl,pD,pE⟩;refine⟨_,_,_,_,_,Z,pD,?_⟩;rw[Jk hg,TR];exact pE
  ·rintro σ H' ⟨v4,v5,v6,v7,v8,rfl,sm,hp⟩;rw[fD]at hp;exact⟨_,_,_,_,_,Z,sm,hp⟩
 ·rintro σ H' ⟨v4,v5,v6,v7,v8,rfl,sm,hp⟩;exact(k H' p2 sm qR hp)
theorem CY g b f u:∀n,kY g b f n≤u↔∀k,k<n→g.least+(k+1)+fv (f (b-(k+1)))≤u
 |0=>by simp[kY]
 |n+1=>by
  rw[TK,T5,CY g b f u n];constructor
  ·rintro⟨h1,h2⟩ k hk;by_cases e:k<n
   ·exact h1 k e
   ·have:k=n:=by lia
    subst this;exact h2
  ·intro h;exact⟨fun k hk=>h k (by lia),h n (by lia)⟩
theorem T6 g b f u:ij g b f≤u↔∀k,k≤a_ g b→g.least+k+fv (f (b-k))≤u:=by
 unfold ij;rw[T5,CY];constructor
 ·rintro⟨h1,h2⟩ k hk;cases k with
  |zero=>exact h2
  |succ k=>exact h1 k (by lia)
 ·intro h;exact⟨fun k hk=>h (k+1) (by lia),h 0 (by lia)⟩
theorem ajx(hp:p<N.length):(mS l s b g N t).getD p 0≤u↔N.getD p 0≤u∨(g.a=p∧t≠0∧ij g b (fun c=>cq (a8 l) (s-t) c g.b)≤l.most∧ij g b (fun c=>cq (a8 l) (s-t) c g.b)-kW l t≤u):=by
 unfold mS;generalize ij g b (fun c=>cq (a8 l) (s-t) c g.b)=c;by_cases h0:t=0
 ·rw[if_pos h0];exact⟨.inl,fun h=>h.elim id fun z=>absurd h0 z.2.1⟩
 ·rw[if_neg h0];by_cases h1:c≤l.most
  ·rw[if_pos h1];by_cases h2:g.a=p
   ·subst h2;rw[eS,xy hp];show min _ _≤u↔_;constructor
    ·intro h;by_cases q:N.getD g.a 0≤u
     ·exact .inl q
     ·exact .inr ⟨Z,h0,h1,by lia⟩
    ·rintro(h|⟨_,_,_,h⟩)<;>lia
   ·rw[eS,xA h2,←eS];exact⟨.inl,fun h=>h.elim id fun z=>absurd z.1 h2⟩
  ·rw[if_neg h1];exact⟨.inl,fun h=>h.elim id fun z=>absurd z.2.2.1 h1⟩
theorem T7:∀(L:List Nat) N,p<N.length→((L.foldl (mS l s b g) N).getD p 0≤u↔N.getD p 0≤u∨∃t∈L,g.a=p∧t≠0∧ij g b (fun c=>cq (a8 l) (s-t) c g.b)≤l.most∧ij g b (fun c=>cq (a8 l) (s-t) c g.b)-kW l t≤u)
 |[],N,hp=>by simp
 |t::L,N,hp=>by
  rw[nv,T7 L _ (by rw[Ji];exact hp),ajx hp];constructor
  ·rintro((h|h)|⟨t',m,h⟩)
   ·exact .inl h
   ·exact .inr ⟨t,cI,h⟩
   ·exact .inr ⟨t',c_ _ m,h⟩
  ·rintro(h|⟨t',m,h⟩)
   ·exact .inl (.inl h)
   ·rcases b_.mp m with e|m
    ·subst e;exact .inl (.inr h)
    ·exact .inr ⟨t',m,h⟩
theorem Jq:∀(L:List cK) N,p<N.length→((L.foldl (rd l s b) N).getD p 0≤u↔N.getD p 0≤u∨∃g∈L,∃t∈partsOf (s&&& setAt l g.a),g.a=p∧t≠0∧ij g b (fun c=>cq (a8 l) (s-t) c g.b)≤l.most∧ij g b (fun c=>cq (a8 l) (s-t) c g.b)-kW l t≤u)
 |[],N,hp=>by simp
 |g::L,N,hp=>by
  rw[nv,Jq L _ (by rw[Jj];exact hp)];unfold rd;rw[T7 _ _ hp];constructor
  ·rintro((h|⟨t,m,h⟩)|⟨g',m,h⟩)
   ·exact .inl h
   ·exact .inr ⟨g,cI,t,m,h⟩
   ·exact .inr ⟨g',c_ _ m,h⟩
  ·rintro(h|⟨g',m,h⟩)
   ·exact .inl (.inl h)
   ·rcases b_.mp m with e|m
    ·subst e;exact .inl (.inr h)
    ·exact .inr ⟨g',m,h⟩
theorem ajy l s b:(kj l s b).length=l.places.length:=by
 unfold kj;rw[zt (Jj l s b),sI,vo]
theorem Jr(hp:p<l.places.length)(h0:p≠0):(kj l s b).getD p 0≤u↔1000≤u∨∃g∈l.legs,∃t∈partsOf (s&&& setAt l g.a),g.a=p∧t≠0∧ij g b (fun c=>cq (a8 l) (s-t) c g.b)≤l.most∧ij g b (fun c=>cq (a8 l) (s-t) c g.b)-kW l t≤u:=by
 unfold kj;rw[Jq _ _ (by rw[sI,vo];exact hp)];rw[eS,xA (fun e=>h0 e.symm),ZM,if_pos hp];rfl
theorem ajz(hp:0<l.places.length):(kj l s b).getD 0 0=0:=by
 have h:(kj l s b).getD 0 0≤0:=by
  unfold kj;rw[Jq _ _ (by rw[sI,vo];exact hp)];left;rw[eS,xy (by rw[vo];exact hp)];exact a9 _
 lia
def ik(l:aJ)(s b:Nat)(g:cK):Nat:=kY g b (fun c=>cq (a8 l) s c g.b) (a_ g b)
def c6(l:aJ)(s b:Nat)(N:List Nat)(g:cK):Nat:=max (ik l s b g) (g.least+N.getD g.b 0)
structure Good(l:aJ)(s b:Nat)(N:List Nat):Prop where
 len:N.length=l.places.length
 CZ:N.getD 0 0=0
 below:∀p,p<l.places.length→N.getD p 0≤(kj l s b).getD p 0
 got:∀p,p<l.places.length→p≠0→N.getD p 0=(kj l s b).getD p 0∨∃g∈l.legs,g.a=p∧c6 l s b N g≤N.getD p 0∧N.getD p 0≤l.most
theorem Good.start(hp:0<l.places.length):Good l s b (kj l s b):=⟨ajy l s b,ajz hp,fun _ _=>a9 _,fun _ _ _=>.inl Z⟩
theorem uf{N:List Nat}(hi:i<N.length):(N.set i v).getD p 0=if p=i then v else N.getD p 0:=by
 by_cases e:p=i
 ·subst e;rw[if_pos Z,eS,xy hi];rfl
 ·rw[if_neg e,eS,xA (fun z=>e z.symm),←eS]
theorem Good.lower(G:Good l s b N)(hg:g∈l.legs)(ha:g.a<l.places.length)(h1:c6 l s b N g≤l.most)(h2:c6 l s b N g<N.getD g.a 0):Good l s b (N.set g.a (c6 l s b N g)):=by
 have hl:g.a<N.length:=by rw[G.len];exact ha
 have a0:g.a≠0:=fun e=>by rw[e,G.CZ]at h2;lia
 have le:∀q,(N.set g.a (c6 l s b N g)).getD q 0≤N.getD q 0:=fun q=>by
  rw[uf hl];by_cases e:q=g.a
  ·rw[if_pos e,e];lia
  ·rw[if_neg e];exact a9 _
 have T8:∀g',c6 l s b (N.set g.a (c6 l s b N g)) g'≤c6 l s b N g':=fun g'=>by
  have:=le g'.b;unfold c6 at this ⊢
  lia
 refine⟨by rw[sI];exact G.len,?_,fun p hp=>dU (le p) (G.below p hp),fun p hp p0=>?_⟩
 ·rw[uf hl,if_neg (fun e=>a0 e.symm)];exact G.CZ
 ·by_cases e:p=g.a
  ·refine .inr ⟨g,hg,e.symm,?_,?_⟩
   ·rw[uf hl,if_pos e];exact T8 g
   ·rw[uf hl,if_pos e];exact h1
  ·rcases G.got p hp p0 with q|⟨g',m,ea,q1,q2⟩
   ·exact .inl (by rw[uf hl,if_neg e];exact q)
   ·exact .inr ⟨g',m,ea,by rw[uf hl,if_neg e];exact dU (T8 g') q1,by rw[uf hl,if_neg e];exact q2⟩
theorem Js(ok:CD l):g∈Jt l p↔g∈l.legs∧g.a=p:=by
 constructor
 ·intro h;unfold Jt at h;obtain⟨q,_,e⟩:=AJ.mp h;have h2:=Gn e;simp only[dA,beq_iff_eq]at h2;exact⟨Bt e,h2.1⟩
 ·rintro⟨h,rfl⟩;unfold Jt;exact AJ.mpr ⟨g.b,ip.mpr (ok.dJ g h).2.2.2.2,ok.oQ g h⟩
theorem Ju(h:m+fv a≤u)(hu:u<1000):∃n,a=some n∧fv a=n:=by
 cases a with
 |none=>simp[fv]at h;lia
 |some n=>exact⟨n,Z,Z⟩
theorem T9(ok:CD l)(df:0<l.places.length)(hs:s<2^l.caches.length)(hb:b≤8)(G:Good l s b N)(ex:∀g∈l.legs,¬(c6 l s b N g≤l.most∧c6 l s b N g<N.getD g.a 0)):
  ∀p,p<l.places.length→N.getD p 0=fv (cq (a8 l) s b p):=by
 have lo:M.yx l:=⟨df,fun g m=>⟨(ok.dJ g m).1,(ok.dJ g m).2.1,(ok.dJ g m).2.2.2.1,(ok.dJ g m).2.2.2.2⟩⟩
 have Jv:=ok.most;have top:∀p,p<l.places.length→N.getD p 0≤1000:=fun p hp=>by
  by_cases e:p=0
  ·rw[e,G.CZ];lia
  ·exact dU (G.below p hp) ((Jr hp e).mpr (.inl (a9 _)))
 have key:∀p,p<l.places.length→cq (a8 l) s b p=(if N.getD p 0=1000 then none else some (N.getD p 0)):=by
  refine M.aek lo hs hb (fun p=>if N.getD p 0=1000 then none else some (N.getD p 0)) (by rw[G.CZ];rfl) fun p hp p0 v=>?_;have mem:∀t,t∈gI l p s↔t∈partsOf (s&&& setAt l p):=fun t=>by rw[Tu hs ok.caches]
  have zero:0∈gI l p s:=by rw[mem];unfold partsOf;simp
  have lq:M.dM (if N.getD p 0=1000 then none else some (N.getD p 0)) v↔N.getD p 0≤v∧N.getD p 0≠1000:=by
   by_cases e:N.getD p 0=1000
   ·rw[if_pos e];exact⟨fun h=>absurd h M.jH,fun h=>absurd e h.2⟩
   ·rw[if_neg e,M.fu];exact⟨fun h=>⟨h,e⟩,fun h=>h.1⟩
  rw[lq];constructor
  ·rintro⟨hv,cU⟩;rcases G.got p hp p0 with q|⟨g,m,ea,q1,q2⟩
   ·have vi:=hv;rw[q]at vi;have nt:¬1000≤(kj l s b).getD p 0:=fun z=>cU (by have:=top p hp;lia);rcases(Jr hp p0).mp (a9 _)with z|⟨g,m,t,mt,ea,t0,c1,c2⟩
    ·exact absurd z nt
    ·refine⟨t,(mem t).mpr (ea▸mt),g,(Js ok).mpr ⟨m,ea⟩,fun k hk=>?_⟩;rw[if_neg (fun z=>t0 z.1)];have c3:=(T6 g b (fun c=>cq (a8 l) (s-t) c g.b) (min l.most (v+kW l t))).mp (by lia) k hk;obtain⟨n,e1,e2⟩:=Ju c3 (by lia);exact⟨n,e1,by rw[←e2];exact c3⟩
   ·refine⟨0,zero,g,(Js ok).mpr ⟨m,ea⟩,fun k hk=>?_⟩;rw[M.Bu];by_cases k0:k=0
    ·subst k0;rw[if_pos ⟨Z,Z⟩];have:g.least+N.getD g.b 0≤c6 l s b N g:=by unfold c6;lia
     refine⟨N.getD g.b 0,if_neg (by lia),by lia⟩
    ·rw[if_neg (fun z=>k0 z.2)];have d1:ik l s b g≤min l.most v:=by
      have:ik l s b g≤c6 l s b N g:=by unfold c6;lia
      lia
     have c3:=(CY g b _ _ _).mp d1 (k-1) (by lia);rw[show k-1+1=k by lia]at c3;obtain⟨n,e1,e2⟩:=Ju c3 (by lia);refine⟨n,e1,?_⟩;rw[e2]at c3
     lia
  ·rintro⟨t,mt,g,mg,hk⟩;obtain⟨m,ea⟩:=(Js ok).mp mg;by_cases t0:t=0
   ·subst t0;rw[M.Bu]at hk;have c1:c6 l s b N g≤min l.most v:=by
     unfold c6;refine T5.mpr ⟨(CY g b _ _ _).mpr fun k rf=>?_,?_⟩
     ·obtain⟨n,e1,e2⟩:=hk (k+1) (by lia);rw[if_neg (fun z=>by lia)]at e1;have e1:cq (a8 l) s (b-(k+1)) g.b=some n:=e1;show g.least+(k+1)+fv (cq (a8 l) s (b-(k+1)) g.b)≤_;rw[e1];exact e2
     ·obtain⟨n,e1,e2⟩:=hk 0 (by lia);rw[if_pos ⟨Z,Z⟩]at e1;by_cases z:N.getD g.b 0=1000
      ·rw[if_pos z]at e1;cases e1
      ·rw[if_neg z]at e1;have:=bS e1
       lia
    have:=ex g m;rw[ea]at this;have:N.getD p 0≤c6 l s b N g:=by
     by_cases z:c6 l s b N g<N.getD p 0
     ·exact absurd ⟨by lia,z⟩ this
     ·lia
    lia
   ·have c1:ij g b (fun c=>cq (a8 l) (s-t) c g.b)≤min l.most (v+kW l t):=(T6 g b _ _).mpr fun k rf=>by
     obtain⟨n,e1,e2⟩:=hk k rf;rw[if_neg (fun z=>t0 z.1)]at e1;show g.least+k+fv (cq (a8 l) (s-t) (b-k) g.b)≤_;rw[e1];exact e2
    have q:=(Jr (s:=s) (b:=b) (u:=ij g b (fun c=>cq (a8 l) (s-t) c g.b)-kW l t) hp p0).mpr (.inr ⟨g,m,t,ea▸((mem t).mp mt),ea,t0,by lia,a9 _⟩);have:=G.below p hp
    lia
 intro p hp;rw[key p hp];by_cases e:N.getD p 0=1000
 ·rw[if_pos e,e];rfl
 ·rw[if_neg e];rfl
def T_:List (List Key):=(bP 16).flatMap fun s=>(bP 9).map fun b=>kk s b
theorem ajA(hs:s<16)(hb:b≤8):kk s b∈T_:=List.mem_flatMap.mpr ⟨s,ip.mpr hs,mB.mpr ⟨b,ip.mpr (by lia),Z⟩⟩
theorem Ua{aq:List (List Key×V)}(nd:(aq.map (·.1)).Nodup)(h:∀k v,bw aq k=some v→∃s b,k=kk s b∧s<16∧b≤8):aq.length≤144:=by
 have sub:(aq.map (·.1)) ⊆ T_:=by
  intro k m;cases e:bw aq k with
  |none=>exact absurd m (NN e)
  |some v=>
   obtain⟨s,b,rfl,h1,h2⟩:=h k v e;exact ajA h1 h2
 have:=nd.length_le_of_subset sub;rw[aB]at this;exact dU this (by decide+kernel)
def ba(H H':Hp):Prop:=∀b o,H b=some o→(∀kv,o≠.dT kv)→H' b=some o
theorem ba.of(s:aa H H'):ba H H':=fun b o e _=>s b o e
theorem ba.trans(a:ba H H1)(b:ba H1 H2):ba H H2:=fun c o e n=>b c o (a c o e n) n
theorem ba.put(s:ba H H1)(e:H1 d=some (.dT kv)):ba H (upd H1 d (.dT gp)):=fun b o h n=>by
 have hb:b≠d:=fun z=>by
  subst z;have:=s b o h n;rw[e]at this;exact n kv (bS this).symm
 rw[ao hb];exact s b o h n
theorem bq.ei(s:ba H H')(h:bq A H r l):bq A H' r l:=
 ⟨s _ _ h.ins (by intro kv z;cases z),s _ _ h.pl (by intro kv z;cases z),s _ _ h.lg (by intro kv z;cases z),cG (fun _ _ q=>let ⟨d,e⟩:=q;⟨d,s _ _ e (by intro kv z;cases z)⟩) h.gs,
  s _ _ h.ch (by intro kv z;cases z),cG (fun _ _ q=>let ⟨d,e⟩:=q;⟨d,s _ _ e (by intro kv z;cases z)⟩) h.cs,h.ok⟩
def dk(n n':NA):Prop:=n'.a=n.a∧n'.dx=n.dx∧n'.dl=n.dl∧n'.dc=n.dc
inductive Ub(A:aR)(vs:List V)(H:Hp)(Q:VK)(E:XK):Prop
 |mk:∀(n:NA) (r:LA) (l:aJ) (s b:Nat),vs=[.ref n.a,.int s,.int b]→bR A H n r l→bq A H r l→0<l.places.length→s<2^l.caches.length→b≤8→(¬eY n s b)→(∀t,t≠0→t&&& s=t→eY n (s-t) b)→(∀k,1≤k→k≤b→eY n s (b-k))→(∀H' n',bR A H' n' r l→dk n n'→(∀s' b',eY n s' b'→eY n' s' b')→eY n' s b→ba H H'→Q .aC H')→Ub A vs H Q E
theorem Uc:∀{N:List Nat}{i v},i<N.length→(N.set i v).sum+N.getD i 0=N.sum+v
 |[],i,v,h=>by simp at h
 |a::N,0,v,_=>by
  show(v::N).sum+a=(a::N).sum+v;rw[ph,ph];lia
 |a::N,i+1,v,h=>by
  have ih:=Uc (N:=N) (i:=i) (v:=v) (by simpa using h);show(a::N.set i v).sum+N.getD i 0=(a::N).sum+v;rw[ph,ph];lia
def intOf:V→Nat
 | .int i=>i.toNat
 |_=>0
def zy(H:Hp)(p:ae):Nat:=match H p with
 |some (.lst xs)=>(xs.map intOf).sum
 |_=>0
def Jw(σ:List (Option V)):Nat:=match σ[7]? with
 |some (some (V.bl true))=>1
 |_=>0
theorem Ud(h:H p=some (.lst (nats N))):zy H p=N.sum:=by
 unfold zy;rw[h];show((nats N).map intOf).sum=_;unfold nats;rw[jf];congr 1;exact CB N
inductive I12_(H:Hp)(n:NA)(r:LA)(l:Vbexab.Land)(s b:Nat)(pn D:ae)(σ:L2.St)(H':Hp):Prop|mk v6 v8 v9 N:σ=[some (.ref n.a),some (.int s),some (.int b),some (.ref r.ll),some (.ref pn),some (.ref D),v6,some (.bl false),v8,v9]→aa H H'→H' D=some (.lst (nats (l.legs.map (ik l s b))))→H' pn=some (.lst (nats N))→Good l s b N→(∀g∈l.legs,¬(c6 l s b N g≤l.most∧c6 l s b N g<N.getD g.a 0))→I12_ H n r l s b pn D σ H'
inductive I13_(H:Hp)(n:NA)(r:LA)(l:Vbexab.Land)(s b:Nat)(pn D:ae)(σ:L2.St)(H':Hp):Prop|mk v6 lw v8 v9 N:σ=[some (.ref n.a),some (.int s),some (.int b),some (.ref r.ll),some (.ref pn),some (.ref D),v6,some (.bl lw),v8,v9]→aa H H'→H' D=some (.lst (nats (l.legs.map (ik l s b))))→H' pn=some (.lst (nats N))→Good l s b N→(lw=false→∀g∈l.legs,¬(c6 l s b N g≤l.most∧c6 l s b N g<N.getD g.a 0))→I13_ H n r l s b pn D σ H'
inductive I14_(H:Hp)(n:NA)(r:LA)(l:Vbexab.Land)(s b:Nat)(pn D:ae)(N:List Nat)(i:Nat)(σ:L2.St)(H':Hp):Prop|mk v6 lw v8 v9 M:σ=[some (.ref n.a),some (.int s),some (.int b),some (.ref r.ll),some (.ref pn),some (.ref D),v6,some (.bl lw),v8,v9]→aa H H'→H' D=some (.lst (nats (l.legs.map (ik l s b))))→H' pn=some (.lst (nats M))→Good l s b M→(lw=false→M=N∧∀j g,j<i→l.legs[j]?=some g→¬(c6 l s b N g≤l.most∧c6 l s b N g<N.getD g.a 0))→(lw=true→M.sum<N.sum)→I14_ H n r l s b pn D N i σ H'
theorem ajB(T:Txt K mg A):T.HV.Ok P w mg base 5 (Ub A):=by
 refine T.HV.go ka fun _ _ _ _ H _ Q E hr h=>?_;obtain⟨n,r,l,s,b,rfl,hN,hL,df,hs,jk,dh,hh1,hh2,k⟩:=h;have hu:=d6 hr;have nU:r.gs.length=l.legs.length:=Paired.length hL.gs;have h24:=hL.ok.legs;have h7:=hL.ok.places;have gJ:2^l.caches.length≤16:=jc (n:=2) (by decide) hL.ok.caches;refine⟨_,(af (aE 3 ka (iw (aj 0) Z)) (af (aE 4 ka (qj (pv 0) T.qO T.ahY (ajo T) (hr.mono (by decide)) T.HW.b .nil jG (aX (pv 1) (pv 2)))) (af (Fv (i:=5) Z ka.nd Z Z (Fw Z Z Z (by decide+kernel)) (fL (pv 3)) (hZ (N:=["self","held","storms","legs","needs","delayed","leg","lowered","least_cost","cost"]) (sc:=aG Bz) (own:=[("leg",6)]) (by decide+kernel)) (fun _ _ _ _ _=>(bY 6 ka)) (fun _ _ _ _ _=>j6) (fun _ _ _ _ _=>(qj (pv 0) T.qO T.ahZ (ajl T) (hr.mono (by decide)) T.HX.b .nil jG (cS (pv 6) (pv 1) (pv 2))))) (af (aE 7 ka dv) (af (cJ<|AH d8 (gg (pv 7)) (af (aE 7 ka dv) (ak (cJ<|eV d8 rfl (Nq rfl T.G4 (aX (pv 3) (pv 5))) (u7 (n:=2) rfl (ir (bY 6 ka) (ir (bY 8 ka) oB))) (af (aE 9 ka (gB (xK Z) (by rfl) T.wk zr (aX (pv 8) (br dX (aj 6) (bM cF (pv 4) (aj 6)))))) (ak (aV (fk (PW.pt (jW (aL qh (pv 9) (iw (aj 0) Z)) (jV (aL jz (pv 9) (bM cF (pv 4) (aj 6))))))) (af (Em (pv 9) (Ek (pv 4) (aj 6) set_list)) (ak (aE 7 ka dv))) aW))))))) (af (Ba hu (aj 0) (jA (aX (pv 1) (pv 2))) (pv 4) Z) (ak (Ba hu (aj 0) (jA (aX (pv 1) (pv 2))) (i8 Z ka.nd (Nq Z T.G4 (aX (pv 3) (pv 5))) (hZ (N:=["self","held","storms","legs","needs","delayed","leg","lowered","least_cost","cost"]) (sc:=aG Bz) (own:=[("leg",6),("least_cost",8)]) (by decide+kernel)) (fun _ _ _ _ _=>(Cz (K0:=K) Z (n:=2) Z (ir (bY 6 ka) (ir (bY 8 ka) oB)))) (fun _ _ _ _ _=>j6) (fun _ _ _ _ _=>(gB (xK Z) (by rfl) T.wk zr (aX (pv 8) (br dX (jg (K0:=K) Z (pv 6) Z) (bM (zd (K0:=K) Z) (pv 4) (jg (K0:=K) Z (pv 6) Z))))))) Z)))))))),?_⟩
 try dsimp only[aO,Cx.aQ]
 refine(ag hN.ins T.qP Z (ag hL.ins T.qK Z ?_));refine⟨n.a,n.dx,_,Z,hN.ins,Z,n,r,l,s,b,Z,hN,hL,df,hs,hh1,fun H1 pn s1 Jx C1=>?_⟩;have cu:=hL.same s1;have dC:=hN.same s1;refine⟨r.ll,Z,⟨_,ai.of cu.lg⟩,fun D nD=>ny (K:=K) (a:=r.ll) (xs:=r.gs.map V.ref)
  (fun i H2=>aa H1 H2∧H2 D=some (.lst (nats ((l.legs.take i).map (ik l s b))))) ⟨aa.upd nD,ah⟩ (fun i H2 _ q=>ai.of (q.1 _ _ cu.lg)) ?_ ?_⟩
 ·rintro i y H2 hi ⟨sm,h2⟩;obtain⟨a,ha,rfl⟩:=cY hi;have dn:=cu.same sm;have kZ:=dC.same sm;obtain⟨g,hg,dg,ii⟩:=fc dn.gs ha;have dj:=hL.ok.dJ g (dI hg);refine⟨Z,?_⟩;refine⟨n.a,n.dx,_,Z,kZ.ins,Z,n,r,l,a,g,s,b,Z,kZ,⟨dg,ii⟩,dj.2.1,dj.2.2.2.2,jk,fun k k1 k2=>hh2 k k1 (by unfold a_ at k2;lia),fun H3 s3=>?_⟩;refine⟨_,s3 _ _ h2,?_,aa.bI (sm.trans s3) nD,?_⟩
  ·unfold nats;rw[aB,aB,eW];show _<16777216;lia
  ·rw[ah,gT hg,b9];unfold nats;rw[b9];rfl
 rintro H2 ⟨s2,hD⟩;rw[aB,nU,fD]at hD;have ajF:=s2 _ _ C1;have eI:=s1.trans s2;have km:H D=none:=aa.free s1 nD;have ajG:D≠pn:=fun e=>by subst e;rw[C1]at nD;cases nD
 refine⟨I12_ H n r l s b pn D,?_,?_⟩
 ·refine Y9 (I13_ H n r l s b pn D)
   (fun σ H'=>2*zy H' pn+Jw σ) ⟨none,true,none,none,kj l s b,Z,eI,hD,ajF,Good.start df,fun z=>by cases z⟩ ?_ (fun σ H Q Q' f h=>by obtain⟨v,e,c,e2,q⟩:=Lh.ex (i:=7) (σ:=σ) (H:=H) (Q:=fun x H1=>Bq_ x H1 Q) h;exact Lh.mk (Q:=fun x H1=>Bq_ x H1 Q') v e ⟨c,e2,f _ _ q⟩)
  rintro σ H3 ⟨v6,lw,v8,v9,N,rfl,lS,iT,wN,G,ex⟩;refine⟨lw,Z,bj (fun h=>?_) (fun h=>?_)⟩
  ·subst h;have lW:=hL.same lS;refine⟨fun σ' H'=>_,?_,fun σ' H' q=>q⟩;refine⟨r.ll,D,_,_,Z,ai.of lW.lg,ai.of iT,qT (n:=l.legs.length)
    (I14_ H n r l s b pn D N)
    ⟨_,false,_,_,N,Z,lS,iT,wN,G,fun _=>⟨Z,fun j g hj=>absurd hj (mH _)⟩,fun z=>by cases z⟩ ?_ ?_ ?_ ?_⟩
   ·rintro i σ H4 hi ⟨v6,lw,v8,v9,M,rfl,fo,jP,ug,GM,h0,h1⟩;obtain⟨a,ha⟩:∃a,r.gs[i]?=some a:=⟨_,di (by lia)⟩
    obtain⟨g,hg⟩:∃g,l.legs[i]?=some g:=⟨_,di hi⟩
    exact⟨_,_,V.ref a,V.int ((ik l s b g:Nat):Int),ai.of (fo _ _ hL.lg),ai.of jP,by rw[cR,ha];rfl,by unfold nats;rw[cR,cR,hg];rfl⟩
   ·rintro σ H4 ⟨v6,lw,v8,v9,M,rfl,fo,jP,ug,GM,h0,h1⟩;exact⟨_,_,ai.of (fo _ _ hL.lg),ai.of jP,.inl (by rw[aB];lia)⟩
   ·rintro i σ H4 x H5 hi ⟨v6,lw,v8,v9,M,rfl,fo,jP,ug,GM,h0,h1⟩ ⟨t,y,z,rfl,nt,rfl,hy,hz⟩;have hy:=hy _ (ai.of (fo _ _ hL.lg));have hz:=hz _ (ai.of jP);obtain⟨a,ha,rfl⟩:=cY hy;obtain⟨w0,Jy,rfl⟩:=cY hz;obtain⟨g,hg,rfl⟩:=cY Jy;obtain⟨g',fF,dg,ii⟩:=fc hL.gs ha;rw[hg]at fF;have fF:=bS fF;subst fF;have gm:=dI hg;have dj:=hL.ok.dJ g gm;have ntD:D≠t:=fun e=>by subst e;rw[jP]at nt;cases nt
    have Jm:pn≠t:=fun e=>by subst e;rw[ug]at nt;cases nt
    have wO:aa H (upd H4 t (.tup [.ref a,.int ((ik l s b g:Nat):Int)])):=aa.bI fo (aa.free fo nt);have jm:(upd H4 t (.tup [.ref a,.int ((ik l s b g:Nat):Int)])) D=_:=(ao ntD).trans jP;have uh:(upd H4 t (.tup [.ref a,.int ((ik l s b g:Nat):Int)])) pn=_:=(ao Jm).trans ug;refine⟨t,_,Z,bV.of ah,Z,_,_,Z,_,_,Z,Z,?_⟩;generalize upd H4 t (.tup [.ref a,.int ((ik l s b g:Nat):Int)])=H6 at*;refine(ag (wO _ _ ii) T.oZ Z (ag (wO _ _ ii) T.nQ Z ⟨pn,_,_,_,Z,Z,ai.of uh,bX (j:=g.b) (zu (by rw[GM.len];exact dj.2.2.2.2)),_,_,Z,Z,_,_,Z,?_⟩));have e:(if(g.least:Int)+((M.getD g.b 0:Nat):Int)>((ik l s b g:Nat):Int)then(g.least:Int)+((M.getD g.b 0:Nat):Int)else((ik l s b g:Nat):Int))=((c6 l s b M g:Nat):Int):=by
     unfold c6;split <;>lia
    rw[e];have pF:(nats M)[g.a]?=some (V.int ((M.getD g.a 0:Nat):Int)):=zu (by rw[GM.len];exact dj.2.2.2.1);refine⟨(decide (c6 l s b M g≤l.most)&&decide (c6 l s b M g<M.getD g.a 0)),fun Q' q'=>?_,fun H7 s7=>?_⟩
    ·have q':=q' H6 (aa.refl _);have Jz:=hL.same wO;have C2:=hN.same wO;refine(ag C2.ins T.qP Z (ag Jz.ins T.o6 Z ⟨_,_,Z,Z,_,Z,?_⟩));refine dR (d:=decide (c6 l s b M g≤l.most)) (decide_eq_decide.mpr (by lia)) ?_;refine bj (fun h=>?_) (fun h=>?_)
     ·rw[h,eE]at q';refine(ag (wO _ _ ii) T.oY Z ⟨pn,_,_,_,Z,Z,ai.of uh,bX (j:=g.a) pF,_,_,Z,Z,_,Z,?_⟩);have e3:decide (((c6 l s b M g:Nat):Int)<((M.getD g.a 0:Nat):Int))=decide (c6 l s b M g<M.getD g.a 0):=decide_eq_decide.mpr (by lia);exact e3▸q'
     ·rw[h,i3]at q';exact q'
    ·have rg:=wO.trans s7;have zz:=s7 _ _ jm;have Ue:=s7 _ _ uh;refine bj (fun h=>?_) (fun h=>?_)
     ·rw[dA,decide_eq_true_eq,decide_eq_true_eq]at h;refine(ag (rg _ _ ii) T.oY Z ⟨pn,_,_,g.a,Z,Z,Ue,?_,?_⟩)
      ·unfold lI;rw[if_pos (by lia),if_pos (by unfold nats;rw[aB,GM.len];have:=dj.2.2.2.1;lia)];simp
      refine⟨_,true,_,_,M.set g.a (c6 l s b M g),Z,aa.bI rg Jx,by rw[ao ajG];exact zz,by rw[ah,Jl],GM.lower gm dj.2.2.2.1 h.1 h.2,(fun z=>(by cases z)),fun _=>?_⟩;have q:=Uc (N:=M) (i:=g.a) (v:=c6 l s b M g) (by rw[GM.len];exact dj.2.2.2.1);have le:M.sum≤N.sum:=by
       cases lw with
       |true=>exact D9 (h1 Z)
       |false=>rw[(h0 Z).1];exact a9 _
      lia
     ·refine⟨_,lw,_,_,M,Z,rg,zz,Ue,GM,fun z=>⟨(h0 z).1,fun j g' hj fF=>?_⟩,h1⟩;by_cases hji:j<i
      ·exact(h0 z).2 j g' hji fF
      ·have:j=i:=by lia
       subst this;rw[hg]at fF;rw[←bS fF,←(h0 z).1];intro c;rw[decide_eq_true c.1,decide_eq_true c.2]at h;cases h
   ·rintro σ H4 ⟨v6,lw,v8,v9,M,rfl,fo,jP,ug,GM,h0,h1⟩;refine⟨⟨_,lw,_,_,M,Z,fo,jP,ug,GM,fun z g m=>?_⟩,?_⟩
    ·obtain⟨j,hj⟩:=wF m;rw[(h0 z).1];exact(h0 z).2 j g (du.mp hj).1 hj
    ·show 2*zy H4 pn+Jw _<2*zy H3 pn+Jw _;rw[Ud ug,Ud wN];cases lw with
     |true=>
      have:=h1 Z;show 2*M.sum+1<2*N.sum+1
      lia
     |false=>
      rw[(h0 Z).1];show 2*N.sum+0<2*N.sum+1
      lia
  ·subst h;exact⟨_,_,_,N,Z,lS,iT,wN,G,ex Z⟩
 ·rintro σ H3 ⟨v6,v8,v9,N,rfl,lS,iT,wN,G,ex⟩;have zm:nats N=lZ l s b:=by
   unfold nats lZ;apply List.ext_getElem?;intro p;rw[cR,cR];by_cases hp:p<l.places.length
   ·rw[j_ hp,di (by rw[G.len];exact hp)];have:=T9 hL.ok df hs jk G ex p hp;rw[eS,di (by rw[G.len];exact hp)]at this;show some (V.int _)=some (V.int _);rw[←this];rfl
   ·rw[x5 (by rw[G.len];lia),x5 (by rw[ia];lia)];rfl
  have l0:=hN.same lS;have ap2:=Ua hN.qZ fun k v e=>let ⟨s,b,_,q1,q2,q3,_⟩:=hN.pB k v e;⟨s,b,q1,by lia,q3⟩;have ap3:=Ua hN.q_ fun k v e=>let ⟨s,b,_,q1,q2,q3,_⟩:=hN.pC k v e;⟨s,b,q1,by lia,q3⟩;refine(ag l0.ins T.tW Z ⟨be,fun t1 nt1=>?_⟩);have eJ:=aa.upd (o:=.tup [.int (s:Int),.int (b:Int)]) nt1;have jO:=l0.same eJ;refine⟨n.dl,_,Z,nA.t (k:=kk s b) jO.lv ah (by show _<16777216;lia),?_⟩;have jQ:ba H (upd (upd H3 t1 (.tup [.int (s:Int),.int (b:Int)])) n.dl (.dT (putK n.kl (kk s b) (.ref pn)))):=ba.put (ba.of (lS.trans eJ)) jO.lv;have rh:(upd (upd H3 t1 (.tup [.int (s:Int),.int (b:Int)])) n.dl (.dT (putK n.kl (kk s b) (.ref pn)))) n.dc=some (.dT n.kc):=by rw[ao hN.ne.symm];exact jO.cs
  have hl5:(upd (upd H3 t1 (.tup [.int (s:Int),.int (b:Int)])) n.dl (.dT (putK n.kl (kk s b) (.ref pn)))) n.dl=some (.dT (putK n.kl (kk s b) (.ref pn))):=ah;have jm:(upd (upd H3 t1 (.tup [.int (s:Int),.int (b:Int)])) n.dl (.dT (putK n.kl (kk s b) (.ref pn)))) D=some (.lst (nats (l.legs.map (ik l s b)))):=by
   rw[ao (cE (eJ _ _ iT) jO.lv (by intro z;cases z))];exact eJ _ _ iT
  have uh:(upd (upd H3 t1 (.tup [.int (s:Int),.int (b:Int)])) n.dl (.dT (putK n.kl (kk s b) (.ref pn)))) pn=some (.lst (nats N)):=by
   rw[ao (cE (eJ _ _ wN) jO.lv (by intro z;cases z))];exact eJ _ _ wN
  have hi5:=jQ _ _ hN.ins (by intro kv z;cases z);generalize upd (upd H3 t1 (.tup [.int (s:Int),.int (b:Int)])) n.dl (.dT (putK n.kl (kk s b) (.ref pn)))=H5 at*;have fZ:=hL.ei jQ;refine⟨r.ll,D,_,_,Z,ai.of fZ.lg,ai.of jm,fun Dc Ug=>wC (n:=l.legs.length)
   (fun i H6=>aa H5 H6∧H6 Dc=some (.lst (nats ((l.legs.take i).map (c6 l s b N))))) ⟨aa.upd Ug,ah⟩ ?_ ?_ ?_ ?_⟩
  ·rintro i H6 hi ⟨kn,_⟩;obtain⟨a,ha⟩:∃a,r.gs[i]?=some a:=⟨_,di (by lia)⟩
   obtain⟨g,hg⟩:∃g,l.legs[i]?=some g:=⟨_,di hi⟩
   exact⟨_,_,V.ref a,V.int ((ik l s b g:Nat):Int),ai.of (kn _ _ fZ.lg),ai.of (kn _ _ jm),by rw[cR,ha];rfl,by unfold nats;rw[cR,cR,hg];rfl⟩
  ·rintro H6 ⟨kn,_⟩;exact⟨_,_,ai.of (kn _ _ fZ.lg),ai.of (kn _ _ jm),.inl (by rw[aB];lia)⟩
  ·rintro i H6 x H7 hi ⟨kn,h6⟩ ⟨t,y,z,rfl,nt,rfl,hy,hz⟩;have hy:=hy _ (ai.of (kn _ _ fZ.lg));have hz:=hz _ (ai.of (kn _ _ jm));obtain⟨a,ha,rfl⟩:=cY hy;obtain⟨w0,Jy,rfl⟩:=cY hz;obtain⟨g,hg,rfl⟩:=cY Jy;obtain⟨g',fF,dg,ii⟩:=fc fZ.gs ha;rw[hg]at fF;have fF:=bS fF;subst fF;have dj:=hL.ok.dJ g (dI hg);have rg:aa H5 (upd H6 t (.tup [.ref a,.int ((ik l s b g:Nat):Int)])):=aa.bI kn (aa.free kn nt);have nX:Dc≠t:=fun e=>by subst e;rw[h6]at nt;cases nt
   refine⟨t,_,Z,bV.of ah,Z,_,_,Z,_,_,Z,Z,Z,?_⟩;refine(ag (rg _ _ ii) T.oZ Z (ag (rg _ _ ii) T.nQ Z ⟨pn,_,_,_,Z,Z,ai.of (rg _ _ uh),bX (j:=g.b) (zu (by rw[G.len];exact dj.2.2.2.2)),_,_,Z,Z,_,_,Z,?_⟩));refine⟨_,(by rw[ao nX];exact h6),?_,aa.bI rg Ug,?_⟩
   ·unfold nats;rw[aB,aB,eW];show _<16777216;lia
   ·rw[ah,gT hg,b9];unfold nats;rw[b9];have e:(if(g.least:Int)+((N.getD g.b 0:Nat):Int)>((ik l s b g:Nat):Int)then(g.least:Int)+((N.getD g.b 0:Nat):Int)else((ik l s b g:Nat):Int))=((c6 l s b N g:Nat):Int):=by
     unfold c6;split <;>lia
    show _=some (HO.lst (_++[V.int ((c6 l s b N g:Nat):Int)]));rw[←e]
  ·rintro H6 ⟨kn,h6⟩;rw[fD]at h6;have ajM:nats (l.legs.map (c6 l s b N))=mR l s b:=by
    unfold nats mR;rw[jf];refine List.map_congr_left fun g m=>?_;have:=T9 hL.ok df hs jk G ex g.b (hL.ok.dJ g m).2.2.2.2;show V.int ((c6 l s b N g:Nat):Int)=_;unfold c6 ij;rw[this];rfl
   refine(ag (kn _ _ hi5) T.Iq Z ⟨be,fun t2 mT=>?_⟩);have fM:=aa.upd (o:=.tup [.int (s:Int),.int (b:Int)]) mT;have C3:=fM _ _ (kn _ _ rh);refine⟨n.dc,_,Z,nA.t (k:=kk s b) C3 ah (by show _<16777216;lia),?_⟩;have l3:=kn.trans fM;have C4:ba H (upd (upd H6 t2 (.tup [.int (s:Int),.int (b:Int)])) n.dc (.dT (putK n.kc (kk s b) (.ref Dc)))):=ba.put (jQ.trans (ba.of l3)) C3;have Uh:bw n.kl (kk s b)=none:=by
    cases e:bw n.kl (kk s b)with
    |none=>rfl
    |some v=>exact absurd (show eY n s b by unfold eY;rw[e];rfl) dh
   have ajN:bw n.kc (kk s b)=none:=by
    have:=hN.both (kk s b);rw[Uh]at this;cases e:bw n.kc (kk s b)with
    |none=>rfl
    |some v=>rw[e]at this;cases this
   refine k _ {n with kl:=putK n.kl (kk s b) (.ref pn),kc:=putK n.kc (kk s b) (.ref Dc)} ⟨C4 _ _ hN.ins (by intro kv z;cases z),?_,ah,hN.ne,fun q v e=>?_,fun q v e=>?_,fun q=>?_,NP _ hN.qZ Uh,NP _ hN.q_ ajN⟩ ⟨Z,Z,Z,Z⟩ (fun s' b' hq=>?_) ?_ C4
   ·rw[ao hN.ne];exact l3 _ _ hl5
   ·rw[sQ]at e;by_cases c:q=kk s b
    ·rw[if_pos c]at e;refine⟨s,b,pn,c,hs,jk,(bS e).symm,?_⟩;rw[←zm,ao (cE (l3 _ _ uh) C3 (by intro z;cases z))];exact l3 _ _ uh
    ·rw[if_neg c]at e;obtain⟨s',b',a,q1,q2,q3,q4,q5⟩:=hN.pB q v e;exact⟨s',b',a,q1,q2,q3,q4,C4 _ _ q5 (by intro kv z;cases z)⟩
   ·rw[sQ]at e;by_cases c:q=kk s b
    ·rw[if_pos c]at e;refine⟨s,b,Dc,c,hs,jk,(bS e).symm,?_⟩;rw[←ajM,ao (cE (fM _ _ h6) C3 (by intro z;cases z))];exact fM _ _ h6
    ·rw[if_neg c]at e;obtain⟨s',b',a,q1,q2,q3,q4,q5⟩:=hN.pC q v e;exact⟨s',b',a,q1,q2,q3,q4,C4 _ _ q5 (by intro kv z;cases z)⟩
   ·show(bw (putK n.kl (kk s b) (.ref pn)) q).isSome=(bw (putK n.kc (kk s b) (.ref Dc)) q).isSome;rw[sQ,sQ];by_cases c:q=kk s b
    ·rw[if_pos c,if_pos c];rfl
    ·rw[if_neg c,if_neg c];exact hN.both q
   ·show(bw (putK n.kl (kk s b) (.ref pn)) (kk s' b')).isSome=true;rw[sQ];by_cases c:kk s' b'=kk s b
    ·rw[if_pos c];rfl
    ·rw[if_neg c];exact hq
   ·show(bw (putK n.kl (kk s b) (.ref pn)) (kk s b)).isSome=true;rw[sQ,if_pos Z];rfl
theorem ajO:∀s,s<16→∀q,q<16→∀t,t<16→q&&& s=q→t&&& q=t→(q-t)&&& s=q-t:=by decide+kernel
theorem ajP s:(partsOf s).Pairwise (· <·):=ap4 _ List.pairwise_lt_range
theorem ajQ{i m p q:Nat}(hi:(partsOf s)[i]?=some p)(hm:(partsOf s)[m]?=some q)(h:q<p):m<i:=by
 obtain⟨l1,e1⟩:=du.mp hi;obtain⟨l2,e2⟩:=du.mp hm;have pw:=List.pairwise_iff_getElem.mp (ajP s);by_cases c:i<m
 ·have:=pw i m l1 l2 c
  lia
 ·by_cases e:i=m
  ·subst e;lia
  ·lia
theorem Ui(h:q&&& s=q):q∈partsOf s:=by
 unfold partsOf;refine rW.mpr ⟨ip.mpr ?_,decide_eq_true h⟩;have:q≤s:=by rw[←h];exact tG
 lia
theorem dk.refl n:dk n n:=⟨Z,Z,Z,Z⟩
theorem dk.trans(x:dk a b)(y:dk b c):dk a c:=⟨y.1.trans x.1,y.2.1.trans x.2.1,y.2.2.1.trans x.2.2.1,y.2.2.2.trans x.2.2.2⟩
inductive Uj(A:aR)(vs:List V)(H:Hp)(Q:VK)(E:XK):Prop
 |mk:∀(n:NA) (r:LA) (l:aJ) (s b:Nat),vs=[.ref n.a,.int s,.int b]→bR A H n r l→bq A H r l→0<l.places.length→s<2^l.caches.length→b≤8→(∀H' n',bR A H' n' r l→dk n n'→(∀s' b',eY n s' b'→eY n' s' b')→eY n' s b→ba H H'→Q .aC H')→Uj A vs H Q E
inductive I15_(H:Hp)(n:NA)(r:LA)(l:Vbexab.Land)(s b:Nat)(σ:L2.St)(H':Hp):Prop|mk n':bR A H' n' r l→dk n n'→(∀s' b',eY n s' b'→eY n' s' b')→eY n' s b→ba H H'→I15_ H n r l s b σ H'
inductive I16_(H:Hp)(n:NA)(r:LA)(l:Vbexab.Land)(s b:Nat)(pp:ae)(i:Nat)(σ:L2.St)(H':Hp):Prop|mk v3 v4 n':σ=[some (.ref n.a),some (.int s),some (.int b),v3,v4]→bR A H' n' r l→dk n n'→(∀s' b',eY n s' b'→eY n' s' b')→ba H H'→H' pp=some (.lst (nats (partsOf s)))→(∀m q,m<i→(partsOf s)[m]?=some q→∀d,d≤b→eY n' q d)→I16_ H n r l s b pp i σ H'
inductive I17_(H:Hp)(n:NA)(r:LA)(l:Vbexab.Land)(s b:Nat)(pp:ae)(i q j:Nat)(σ:L2.St)(H':Hp):Prop|mk v4 n':σ=[some (.ref n.a),some (.int s),some (.int b),some (.int (q:Nat)),v4]→bR A H' n' r l→dk n n'→(∀s' b',eY n s' b'→eY n' s' b')→ba H H'→H' pp=some (.lst (nats (partsOf s)))→(∀m q,m<i→(partsOf s)[m]?=some q→∀d,d≤b→eY n' q d)→(∀d,d<j→eY n' q d)→I17_ H n r l s b pp i q j σ H'
theorem ajR(T:Txt K mg A):T.HU.Ok P w mg base 6 (Uj A):=by
 refine T.HU.go GV fun _ _ _ _ H _ Q E hr h=>?_;obtain⟨n,r,l,s,b,rfl,hN,hL,df,hs,jk,k⟩:=h;have hu:=d6 hr;have gJ:2^l.caches.length≤16:=jc (n:=2) (by decide) hL.ok.caches;refine⟨_,(ak (cJ<|eV d8 rfl (fL (aI (IV T) hr T.yV (aF (pv 1)))) (bY 3 GV) (ak (cJ<|eV d8 rfl (qe rfl T.mK (aF (br dX (pv 2) aH))) (bY 4 GV) (ak (aV (uZ (yc hu (jA (aX (pv 3) (pv 4))) (aj 0))) (ak (dH (qj (pv 0) T.qO T.ahX (ajB T) (hr.mono (by decide)) T.HV.b .nil jG (aX (pv 3) (pv 4))))) aW)))))),?_⟩
 try dsimp only[aO,Cx.aQ]
 refine⟨I15_ H n r l s b,?_,?_⟩
 ·refine⟨s,Z,by lia,fun H1 pp s1 k6 iD=>?_⟩;refine⟨pp,Z,⟨_,ai.of iD⟩,kL (K:=K) (a:=pp) (xs:=nats (partsOf s))
   (I16_ H n r l s b pp)
   ⟨none,none,n,Z,hN.same s1,dk.refl n,fun _ _ z=>z,ba.of s1,iD,fun m q hm=>absurd hm (mH _)⟩ (fun i σ H' _ ⟨_,_,_,_,_,_,_,_,q,_⟩=>ai.of q) ?_ ?_⟩
  ·rintro i y σ H' hi ⟨v3,v4,n1,rfl,dC,eK,zA,dm,Uk,d7⟩;obtain⟨q,hq,rfl⟩:=cY hi;have hand:=TN (dI hq);have qle:q≤s:=by rw[←hand];exact tG
   refine⟨fun σ' H'=>_,?_,fun σ' H' q=>q⟩;refine⟨_,_,Z,Z,(b:Int)+1,Z,by lia,by lia,?_⟩;rw[show((b:Int)+1).toNat=b+1 by lia];refine ve (lo:=0) (n:=b+1) (I17_ H n r l s b pp i q)
    ⟨_,n1,Z,dC,eK,zA,dm,Uk,d7,fun d hd=>absurd hd (mH _)⟩ ?_ ?_
   ·rintro j σ H2 hj ⟨v4,n2,rfl,kZ,ko,C5,kq,JB,zB,hd2⟩;rw[uc];have dn:=hL.ei kq;refine⟨be,fun t nt=>?_⟩;have st:=aa.upd (o:=.tup [.int (q:Int),.int (j:Int)]) nt;have l0:=kZ.same st;have lW:=dn.same st;have zC:=st _ _ JB;have ea:n2.a=n.a:=ko.1;have ui:(upd H2 t (.tup [.int (q:Int),.int (j:Int)])) n.a=some (.ins A.iQ n2.dx (Jh r n2)):=by rw[←ea];exact l0.ins
    refine(ag ui T.tW Z ⟨n2.dl,_,Z,fW.t (k:=kk q j) l0.lv ah,_,Z,?_⟩);have kr:=kq.trans (ba.of st);cases hv:bw n2.kl (kk q j)with
    |some v=>
     refine⟨_,n2,Z,l0,ko,C5,kr,zC,zB,fun d hd=>?_⟩;by_cases c:d<j
     ·exact hd2 d c
     ·have:d=j:=by lia
      subst this;show(bw n2.kl (kk q d)).isSome=true;rw[hv];rfl
    |none=>
     refine⟨n.a,n2.dx,_,Z,ui,Z,n2,r,l,q,j,by rw[ea];rfl,l0,lW,df,by lia,by lia,?_,?_,?_,fun H4 n4 jO uj JC zx mU=>?_⟩
     ·unfold eY;rw[hv];exact cb
     ·intro t' t0 Ul;have wQ:t'≤q:=by rw[←Ul];exact tG
      have e:=ajO s (by lia) q (by lia) t' (by lia) hand Ul;obtain⟨m,hm⟩:=wF (Ui e);exact zB m (q-t') (ajQ hq hm (by lia)) hm j (by lia)
     ·intro k' h1 h2;exact hd2 (j-k') (by lia)
     ·refine⟨_,n4,Z,jO,ko.trans uj,fun s' b' z=>JC _ _ (C5 _ _ z),kr.trans mU,mU _ _ zC (by intro kv z;cases z),fun m q' hm j2 d hd=>JC _ _ (zB m q' hm j2 d hd),fun d hd=>?_⟩;by_cases c:d<j
      ·exact JC _ _ (hd2 d c)
      ·have:d=j:=by lia
       subst this;exact zx
   ·rintro σ H2 ⟨v4,n2,rfl,kZ,ko,C5,kq,JB,zB,hd2⟩;refine⟨_,_,n2,Z,kZ,ko,C5,kq,JB,fun m q' hm j2 d hd=>?_⟩;by_cases c:m<i
    ·exact zB m q' c j2 d hd
    ·have:m=i:=by lia
     subst this;rw[hq]at j2;rw[←bS j2];exact hd2 d (by lia)
  ·rintro σ H' ⟨v3,v4,n1,rfl,dC,eK,zA,dm,Uk,d7⟩;rw[show(nats (partsOf s)).length=(partsOf s).length by unfold nats;rw[aB]]at d7;obtain⟨m,hm⟩:=wF (Ui (Nat.and_self s));exact⟨n1,dC,eK,zA,d7 m s (du.mp hm).1 hm b (a9 _),dm⟩
 ·rintro σ H' ⟨n1,dC,eK,zA,zx,dm⟩;exact k H' n1 dC eK zA zx dm
inductive Um(A:aR)(vs:List V)(H:Hp)(Q:VK)(E:XK):Prop
 |mk:∀(n:NA) (r:LA) (l:aJ) (p s b:Nat),vs=[.ref n.a,.int p,.int s,.int b]→bR A H n r l→bq A H r l→p<l.places.length→s<2^l.caches.length→b≤8→(∀H' n',bR A H' n' r l→dk n n'→ba H H'→Q (.int (fv (cq (a8 l) s b p))) H')→Um A vs H Q E
theorem JD(T:Txt K mg A):T.qJ.Ok P w mg base 7 (Um A):=by
 refine T.qJ.go QF fun _ _ _ _ H _ Q E hr h=>?_;obtain⟨n,r,l,p,s,b,rfl,hN,hL,hp,hs,jk,k⟩:=h;have hu:=d6 hr;refine⟨_,(af (cJ<|aV (uZ (yc hu (jA (aX (pv 2) (pv 3))) (aj 0))) (ak (dH (qj (pv 0) T.qO T.ahW (ajR T) (hr.mono (by decide)) T.HU.b .nil jG (aX (pv 2) (pv 3))))) aW) (ak (ax (bM cF (eD hu (aj 0) (jA (aX (pv 2) (pv 3)))) (pv 1))))),?_⟩
 try dsimp only[aO,Cx.aQ]
 refine⟨fun(σ:L2.St) H'=>∃n',σ=[some (.ref n.a),some (.int p),some (.int s),some (.int b)]∧bR A H' n' r l∧dk n n'∧ba H H'∧eY n' s b,?_,?_⟩
 ·refine⟨be,fun t1 n1=>?_⟩;have d_:aa H (upd H t1 (.tup [.int s,.int b])):=aa.upd n1;have dC:=hN.same d_;have cu:=hL.same d_;refine(ag dC.ins T.tW Z ⟨n.dl,_,Z,fW.t (k:=kk s b) dC.lv ah,_,Z,?_⟩);cases hv:bw n.kl (kk s b)with
  |some v=>exact⟨n,Z,dC,dk.refl n,ba.of d_,by unfold eY;rw[hv];rfl⟩
  |none=>
   refine⟨n.a,n.dx,_,Z,dC.ins,Z,n,r,l,s,b,Z,dC,cu,qB (bu _) hp,hs,jk,fun H' n' q1 q2 q3 q4 q5=>?_⟩;exact⟨n',Z,q1,q2,(ba.of d_).trans q5,q4⟩
 ·rintro σ H' ⟨n',rfl,wM,ns,sn,hh⟩;obtain⟨a,ha,zp⟩:=wM.level hh;have ui:H' n.a=some (.ins A.iQ n'.dx (Jh r n')):=by rw[←ns.1];exact wM.ins
  refine(ag ui T.tW Z ⟨be,fun t2 n2=>?_⟩);have cZ:=aa.upd (o:=.tup [.int s,.int b]) n2;have kZ:=wM.same cZ;refine⟨n'.dl,_,Z,?_,a,_,_,_,Z,Z,ai.of (cZ _ _ zp),bX (TH hp),k _ n' kZ ns (sn.trans (ba.of cZ))⟩;rw[←ha];exact fW.t (k:=kk s b) kZ.lv ah
theorem c9.ei(s:ba H H')(h:c9 A H a x):c9 A H' a x:=let ⟨d,e⟩:=h;⟨d,s _ _ e (by intro kv z;cases z)⟩
theorem dO.ei(s:ba H H')(h:dO A H a x):dO A H' a x:=let ⟨d,e⟩:=h;⟨d,s _ _ e (by intro kv z;cases z)⟩
structure fw(l:aJ)(x:ee):Prop where
 p:x.p<l.places.length
 s:x.s<2^l.caches.length
 b:x.b≤8
 f:x.f≤60
inductive Uo(A:aR)(vs:List V)(H:Hp)(Q:VK)(E:XK):Prop
 |mk:∀(n:NA) (r:LA) (l:aJ) (c:ae) (x:ee),vs=[.ref n.a,.ref c]→bR A H n r l→bq A H r l→c9 A H c x→fw l x→(∀H' n',bR A H' n' r l→dk n n'→ba H H'→Q (.bl (ku (a8 l) x)) H')→Uo A vs H Q E
theorem ajS(hf:x.f≤60):decide ((fv (cq t x.s x.b x.p):Int)≤(x.f:Int))=ku t x:=by
 unfold ku;cases cq t x.s x.b x.p with
 |none=>exact decide_eq_false (by show ¬(1000:Int)≤_;lia)
 |some n=>exact decide_eq_decide.mpr (by show(n:Int)≤_↔_;lia)
theorem C6(T:Txt K mg A):T.wt.Ok P w mg base 8 (Uo A):=by
 refine T.wt.go aeB fun _ _ _ _ H _ Q E hr h=>?_;obtain⟨n,r,l,c,x,rfl,hN,hL,⟨dp,hp⟩,ok,k⟩:=h;refine⟨_,(ak (ax (nI xI (aj 1) (qj (pv 0) T.qO T.Ct (JD T) (hr.mono (by decide)) T.qJ.b .nil jG (cS (aj 1) (aj 1) (aj 1)))))),?_⟩
 try dsimp only[aO,Cx.aQ]
 refine(ag hp T.qL Z ⟨n.a,n.dx,_,Z,hN.ins,Z,?_⟩);refine(ag hp T.fQ Z (ag hp T.jJ Z (ag hp T.jK Z ⟨n,r,l,x.p,x.s,x.b,Z,hN,hL,ok.p,ok.s,ok.b,fun H' n' q1 q2 q3=>?_⟩)));refine⟨_,_,Z,Z,?_⟩;have:=k H' n' q1 q2 q3;rw[←ajS ok.f]at this;exact this
def fG(l:aJ)(x:ee)(t:Nat)(g:cK):Option Nat:=(bP (a_ g x.b+1)).find? fun k=>match cq (a8 l) (x.s-t) (x.b-k) g.b with
 |none=>true
 |some n=>decide (dS l x.f t<g.least+k+n)
inductive Up(A:aR)(vs:List V)(H:Hp)(Q:VK)(E:XK):Prop
 |mk:∀(n:NA) (r:LA) (l:aJ) (c:ae) (x:ee) (t:Nat) (cg:ae) (g:cK),vs=[.ref r.a,.ref n.a,.ref c,.int t,.ref cg]→bR A H n r l→bq A H r l→c9 A H c x→fw l x→t<2^l.caches.length→t≤x.s→dO A H cg g→g∈l.legs→(∀H' n',bR A H' n' r l→dk n n'→ba H H'→Q (ov (fG l x t g)) H')→Up A vs H Q E
theorem zD l f t:dS l f t≤l.most:=Nat.min_le_left _ _
inductive I19_(H:Hp)(n:NA)(r:LA)(l:Vbexab.Land)(x:Vbexab.At)(t:Nat)(g:Vbexab.Leg)(σ:L2.St)(H':Hp):Prop|mk n':bR A H' n' r l→dk n n'→ba H H'→fG l x t g=none→I19_ H n r l x t g σ H'
inductive I20_(H:Hp)(n:NA)(r:LA)(l:Vbexab.Land)(c:ae)(x:Vbexab.At)(t:Nat)(cg:ae)(g:Vbexab.Leg)(i:Nat)(σ:L2.St)(H':Hp):Prop|mk v5 v6 n':σ=[some (.ref r.a),some (.ref n.a),some (.ref c),some (.int t),some (.ref cg),v5,v6]→bR A H' n' r l→dk n n'→ba H H'→(∀j,j<i→(match cq (a8 l) (x.s-t) (x.b-j) g.b with|none=>true|some n=>decide (dS l x.f t<g.least+j+n))=false)→I20_ H n r l c x t cg g i σ H'
theorem JE(T:Txt K mg A):T.yY.Ok P w mg base 9 (Up A):=by
 refine T.yY.go GP fun _ _ _ _ H _ Q E hr h=>?_;obtain⟨n,r,l,c,x,t,cg,g,rfl,hN,hL,hP,ok,ht,CV,hG,gm,k⟩:=h;have dj:=hL.ok.dJ g gm;have wR:a_ g x.b≤x.b:=by unfold a_;lia
 have jk:=ok.b;refine⟨_,(af (cJ<|eV d8 rfl (qe rfl T.mK (aF (br dX (aI (ue T) hr T.oW (aX (pv 4) (aj 2))) aH))) (bY 5 GP) (af (aE 6 GP (aI (wK T) hr T.qI (gh (pv 0) (c8 (pv 2) (pv 3) (pv 4) (pv 5))))) (ak (aV (PW.pt (eO (aL de (pv 6) bp) (gz (jX (gg (aI (C6 T) hr T.wt (aX (pv 1) (pv 6)))))))) (ak (ax (pv 5))) aW)))) (ak (ax bp))),?_⟩
 try dsimp only[aO,Cx.aQ]
 refine⟨I19_ H n r l x t g,?_,?_⟩
 ·obtain⟨dp,hp⟩:=id hP;refine(ag hp T.jK Z ⟨cg,g,x.b,Z,hG,dj.2.1,_,_,Z,Z,(a_ g x.b:Int)+1,Z,by lia,by lia,?_⟩);rw[show((a_ g x.b:Int)+1).toNat=a_ g x.b+1 by lia];refine ve (lo:=0) (n:=a_ g x.b+1) (I20_ H n r l c x t cg g)
   ⟨none,none,n,Z,hN,dk.refl n,ba.of (aa.refl _),fun j hj=>absurd hj (mH _)⟩ ?_ ?_
  ·rintro i σ H1 hi ⟨v5,v6,n1,rfl,dC,eK,dm,dh⟩;rw[uc];have cu:=hL.ei dm;have wU:=hP.ei dm;have hG1:=hG.ei dm;have found:(match cq (a8 l) (x.s-t) (x.b-i) g.b with|none=>true|some n=>decide (dS l x.f t<g.least+i+n))=true→fG l x t g=some i:=fun e=>by
    refine find_here (i:=i) (j_ hi) e fun m y hm hy=>?_;have A5:m<a_ g x.b+1:=by lia
    rw[j_ A5]at hy;rw[←bS hy];exact dh m hm
   refine⟨r,l,c,x,t,cg,g,i,Z,cu,wU,ht,hG1,CV,by lia,fun lost H2 s2=>?_,fun rj H2 c2 s2 nc2 l4=>?_⟩
   ·refine⟨Z,_,Z,cP (cP ?_)⟩;have:=k H2 n1 (dC.same s2) eK (dm.trans (ba.of s2));rw[found (by
     cases cq (a8 l) (x.s-t) (x.b-i) g.b with
     |none=>rfl
     |some n=>exact decide_eq_true (by lia))]at this
    exact this
   ·refine⟨Z,_,Z,cV ?_⟩;have kZ:=dC.same s2;have dn:=cu.same s2;have zE:fw l (iS l x t g i):=⟨dj.2.2.2.2,by show x.s-t<_;have:=ok.s;lia,by show x.b-i≤8;lia,by show dS l x.f t-_≤60;have:=zD l x.f t;have:=hL.ok.most;lia⟩
    have pG:n1.a=n.a:=eK.1;refine⟨n1,r,l,c2,iS l x t g i,by rw[pG];rfl,kZ,dn,l4,zE,fun H3 n3 l0 jn kr=>⟨_,Z,?_⟩⟩;have sn:=dm.trans ((ba.of s2).trans kr);have eqv:(match cq (a8 l) (x.s-t) (x.b-i) g.b with|none=>true|some n=>decide (dS l x.f t<g.least+i+n))= !Vbexab.safeAt (a8 l) (iS l x t g i):=by
     unfold ku iS;show _= !(match cq (a8 l) (x.s-t) (x.b-i) g.b with|none=>false|some n=>decide (n≤dS l x.f t-(g.least+i)));cases cq (a8 l) (x.s-t) (x.b-i) g.b with
     |none=>rfl
     |some n=>
      show decide _= !decide _;rw[←decide_not];exact decide_eq_decide.mpr (by lia)
    refine bj (fun h=>?_) (fun h=>?_)
    ·have:=k H3 n3 l0 (eK.trans jn) sn;rw[found (by rw[eqv];exact h)]at this;exact this
    ·refine⟨_,_,n3,Z,l0,eK.trans jn,sn,fun j hj=>?_⟩;by_cases cj:j<i
     ·exact dh j cj
     ·have:j=i:=by lia
      subst this;rw[eqv];exact h
  ·rintro σ H1 ⟨v5,v6,n1,rfl,dC,eK,dm,dh⟩;refine⟨n1,dC,eK,dm,find_none fun m y hm hy=>?_⟩;rw[ia]at hm;rw[j_ hm]at hy;rw[←bS hy];exact dh m hm
 ·rintro σ H1 ⟨n1,dC,eK,dm,e⟩;have:=k H1 n1 dC eK dm;rw[e]at this;exact this
theorem ba.bI(s:ba H H1)(h:H p=none):ba H (L2.upd H1 p o):=fun b u e n=>by rw[ao (cy e h)];exact s b u e n
def TupAt(H:Hp)(a:ae)(x:Nat×Nat):Prop:=H a=some (.tup [.int (x.1:Nat),.int (x.2:Nat)])
def wV(l:aJ)(x:ee)(t q:Nat):List (Nat×Nat):=match d9 l x.p q with
 |none=>[]
 |some g=>if fG l x t g=none then[(t,q)]else[]
def jo(l:aJ)(x:ee)(n t:Nat):List (Nat×Nat):=(bP n).flatMap (wV l x t)
theorem Uq l x n t:jo l x (n+1) t=jo l x n t++wV l x t n:=by
 unfold jo;rw[tH,JF];simp
theorem C7{α β:Type}{f:α→List β}{L:List α}{x:α}(h:L[i]?=some x):(L.take (i+1)).flatMap f=(L.take i).flatMap f++f x:=by
 rw[gT h,JF];simp
theorem ajV l x t q:(wV l x t q).length≤1:=by
 unfold wV;split
 ·simp
 ·split <;>simp
theorem JG l x t:∀n,(jo l x n t).length≤n
 |0=>by simp[jo]
 |n+1=>by
  rw[Uq,bT];have:=JG l x t n;have:=ajV l x t n
  lia
theorem C_{α β:Type}{f:α→List β}(h:∀x,(f x).length≤c):∀L:List α,(L.flatMap f).length≤L.length*c
 |[]=>by simp
 |x::L=>by
  rw[pj,bT,b6,aaz];have:=C_ h L;have:=h x
  lia
theorem Dd{as:List ae}(e:xs=.int i::ys):as.map V.ref≠xs:=fun z=>by
 rw[e]at z;cases as with
 |nil=>cases z
 |cons a r=>injection z with z _;cases z
theorem bR.grow(h:bR A H n r l){as:List ae}(hp:H p=some (.lst (as.map V.ref)))(df:0<l.places.length)(JH:l.legs≠[]):bR A (upd H p (.lst ys)) n r l:=by
 have row:∀s b a,H a=some (.lst (lZ l s b))→a≠p:=fun s b a ha e=>by
  subst e;rw[hp]at ha;have ha:=bS ha;injection ha with ha;have e0:∃i ys,lZ l s b=V.int i::ys:=by
   unfold lZ;obtain⟨m,hm⟩:∃m,l.places.length=m+1:=⟨l.places.length-1,by lia⟩
   rw[hm,E9,dw];exact⟨_,_,Z⟩
  obtain⟨i,ys,e0⟩:=e0;exact Dd e0 ha
 have cst:∀s b a,H a=some (.lst (mR l s b))→a≠p:=fun s b a ha e=>by
  subst e;rw[hp]at ha;have ha:=bS ha;injection ha with ha;have e0:∃i ys,mR l s b=V.int i::ys:=by
   unfold mR;cases hl:l.legs with
   |nil=>exact absurd hl JH
   |cons g gs=>exact⟨_,_,Z⟩
  obtain⟨i,ys,e0⟩:=e0;exact Dd e0 ha
 exact⟨by rw[ao (cE h.ins hp (by intro z;cases z))];exact h.ins,by rw[ao (cE h.lv hp (by intro z;cases z))];exact h.lv,by rw[ao (cE h.cs hp (by intro z;cases z))];exact h.cs,h.ne,
  fun k v e=>let ⟨s,b,a,q1,q2,q3,q4,q5⟩:=h.pB k v e;⟨s,b,a,q1,q2,q3,q4,by rw[ao (row s b a q5)];exact q5⟩,
  fun k v e=>let ⟨s,b,a,q1,q2,q3,q4,q5⟩:=h.pC k v e;⟨s,b,a,q1,q2,q3,q4,by rw[ao (cst s b a q5)];exact q5⟩,h.both,h.qZ,h.q_⟩
inductive Ur(A:aR)(vs:List V)(H:Hp)(Q:VK)(E:XK):Prop
 |mk:∀(n:NA) (r:LA) (l:aJ) (c:ae) (x:ee),vs=[.ref r.a,.ref n.a,.ref c]→bR A H n r l→bq A H r l→c9 A H c x→fw l x→(∀H' n' p as,bR A H' n' r l→dk n n'→ba H H'→H p=none→H' p=some (.lst (as.map V.ref))→Paired (TupAt H') as (if x.p=0 then[]else(gI l x.p x.s).flatMap (jo l x l.places.length))→Q (.ref p) H')→Ur A vs H Q E
inductive I21_(H:Hp)(n:NA)(r:LA)(l:Vbexab.Land)(c:ae)(x:Vbexab.At)(p1:ae)(σ:L2.St)(H':Hp):Prop|mk v4 v5 v6 n' as:σ=[some (.ref r.a),some (.ref n.a),some (.ref c),some (.ref p1),v4,v5,v6]→bR A H' n' r l→dk n n'→ba H H'→H' p1=some (.lst (as.map V.ref))→Paired (TupAt H') as ((gI l x.p x.s).flatMap (jo l x l.places.length))→I21_ H n r l c x p1 σ H'
theorem ajW(T:Txt K mg A):T.Ht.Ok P w mg base 10 (Ur A):=by
 refine T.Ht.go yH fun _ _ _ _ H _ Q E hr h=>?_;obtain⟨n,r,l,c,x,rfl,hN,hL,hP,ok,k⟩:=h;have h7:=hL.ok.places;have gJ:2^l.caches.length≤16:=jc (n:=2) (by decide) hL.ok.caches;have ap6:=ok.s;refine⟨_,(af (aE 3 yH (bi gA)) (af (aV (aL cO (aj 2) (a6 T.tQ)) (ak (ax (pv 3))) aW) (af (cJ<|eV d8 rfl (fL (aI (IV T) hr T.yV (aF (br qg (aj 2) (aI (IX T) hr T.yW (aX (pv 0) (aj 2))))))) (bY 4 yH) (ak (cJ<|eV d8 rfl (qe rfl T.mK (aF (cT T.cH (aj 0)))) (bY 5 yH) (af (aE 6 yH (aI (qU T) hr T.nP (cS (pv 0) (aj 2) (pv 5)))) (ak (aV (PW.pt (jW (aL xJ (pv 6) bp) (jV (aL de (aI (JE T) hr T.yY (gh (pv 0) (c8 (pv 1) (pv 2) (pv 4) (pv 6)))) bp)))) (ak (dH (d4 PySem.F.plainAttrs_list PySem.F.slot_list_append PySem.F.type_list_append gQ (pv 3) (aF (jA (aX (pv 4) (pv 5))))))) aW)))))) (ak (ax (pv 3)))))),?_⟩
 try dsimp only[aO,Cx.aQ]
 refine⟨bu _,fun p1 n1=>?_⟩;have s1:aa H (upd H p1 (.lst [])):=aa.upd n1;have eG:(upd H p1 (.lst [])) p1=some (.lst []):=ah;generalize upd H p1 (.lst [])=H1 at*;have cu:=hL.same s1;have dC:=hN.same s1;obtain⟨dp,hp⟩:=hP.same s1;refine(ag hp T.fQ Z ⟨Z,_,Z,bK (fun h=>?_) (fun h=>?_)⟩)
 ·have e:x.p=0:=by injection h with h;lia
  rw[if_pos e]at k;exact(k H1 n p1 [] dC (dk.refl n) (ba.of s1) n1 eG .nil)
 have x0:x.p≠0:=fun z=>h (by rw[z];rfl);rw[if_neg x0]at k;refine⟨I21_ H n r l c x p1,?_,?_⟩
 ·refine(ag hp T.jJ Z (ag hp T.fQ Z ⟨r,l,x.p,Z,cu,fun H2 s2=>⟨_,_,Z,Z,x.s&&& setAt l x.p,?_,qB Je (by lia),fun H3 pp s3 k6 iD=>?_⟩⟩))
  ·show[V.int (oC (x.s:Int) (setAt l x.p:Int))]++[]=_;rw[t_];rfl
  rw[←Tu ok.s hL.ok.caches]at iD;have ajX:pp≠p1:=fun e=>by
   subst e;rw[s2 _ _ eG]at k6;cases k6
  have gK:=s2.trans s3;have ap7:H pp=none:=aa.free (s1.trans s2) k6;have tkl:(gI l x.p x.s).length≤16:=by
   unfold gI;have:=qS (fY l x.p x.s) (bP (2^l.caches.length));rw[ia]at this
   lia
  refine⟨pp,Z,⟨_,ai.of iD⟩,kL (K:=K) (a:=pp) (xs:=nats (gI l x.p x.s))
   (fun i σ H'=>∃v4 v5 v6 n' as,σ=[some (.ref r.a),some (.ref n.a),some (.ref c),some (.ref p1),v4,v5,v6]∧bR A H' n' r l∧dk n n'∧ba H H'∧H' pp=some (.lst (nats (gI l x.p x.s)))∧H' p1=some (.lst (as.map V.ref))∧Paired (TupAt H') as (((gI l x.p x.s).take i).flatMap (jo l x l.places.length)))
   ⟨none,none,none,n,[],Z,dC.same gK,dk.refl n,ba.of (s1.trans gK),iD,gK _ _ eG,.nil⟩ (fun i σ H' _ ⟨_,_,_,_,_,_,_,_,_,q,_⟩=>ai.of q) ?_ ?_⟩
  ·rintro i y σ H4 hi ⟨v4,v5,v6,n4,zF,rfl,jO,uj,mU,Us,zG,wW⟩;obtain⟨t,ht,rfl⟩:=cY hi;have tm:=dI ht;have wX:=M.aej tm;have wQ:=M.Gp tm;have dQ:=hL.ei mU;refine⟨fun σ' H'=>_,?_,fun σ' H' q=>q⟩;refine(ag dQ.ins T.jd Z ⟨_,_,Z,.inl (ai.of dQ.pl),(l.places.length:Int),?_,by lia,by lia,?_⟩)
   ·unfold cn;rw[aB]
   rw[ml];refine ve (lo:=0) (n:=l.places.length) (fun j σ H'=>∃v5 v6 n' as,σ=[some (.ref r.a),some (.ref n.a),some (.ref c),some (.ref p1),some (.int (t:Nat)),v5,v6]∧bR A H' n' r l∧dk n n'∧ba H H'∧H' pp=some (.lst (nats (gI l x.p x.s)))∧H' p1=some (.lst (as.map V.ref))∧
    Paired (TupAt H') as (((gI l x.p x.s).take i).flatMap (jo l x l.places.length)++jo l x j t))
    ⟨_,_,n4,zF,Z,jO,uj,mU,Us,zG,by rw[show jo l x 0 t=[]from Z,gi];exact wW⟩ ?_ ?_
   ·rintro j σ H5 hj ⟨v5,v6,n5,rk,rfl,De,pH,jQ,Df,Dg,zH⟩;rw[uc];have fZ:=hL.ei jQ;have Dh:=hP.ei jQ;obtain⟨dp5,rm⟩:=id Dh;have JI:rk.length<16777216:=by
     have e:=Paired.length zH;rw[bT]at e;have a1:=C_ (JG l x · l.places.length) ((gI l x.p x.s).take i);have a2:=JG l x t j;have a3:((gI l x.p x.s).take i).length≤16:=by rw[eW];lia
     have a4:((gI l x.p x.s).take i).length*l.places.length≤16*7:=Nat.mul_le_mul a3 h7
     lia
    rw[Uq,←mx];unfold wV;refine(ag rm T.fQ Z ⟨r,l,x.p,j,Z,fZ,fun e=>?_,fun g i' bb e fF mE hG=>?_⟩)
    ·rw[e];refine⟨Z,_,Z,cV (cV ?_)⟩;exact⟨_,_,n5,rk,Z,De,pH,jQ,Df,Dg,by simpa using zH⟩
    ·rw[e];refine⟨Z,_,Z,cP ?_⟩;have pG:n5.a=n.a:=pH.1;refine⟨n5,r,l,c,x,t,bb,g,by rw[pG];rfl,De,fZ,Dh,ok,wX,wQ,hG,dI fF,fun H6 n6 C2 Di nY=>⟨Z,_,Z,?_⟩⟩;have sn:=jQ.trans nY;have zI:=nY _ _ Df (by intro kv z;cases z);have wY:=nY _ _ Dg (by intro kv z;cases z);have Ut:Paired (TupAt H6) rk _:=cG (R:=TupAt) (fun a q z=>nY _ _ z (by intro kv z;cases z)) zH;rw[kg];refine bj (fun h=>?_) (fun h=>?_)
     ·have hn:fG l x t g=none:=zi.mp h;refine⟨.inl ⟨Z,_,ai.of wY⟩,be,fun tt JJ=>?_⟩;have uk:=aa.upd (o:=.tup [.int (t:Int),.int (j:Int)]) JJ;have pd:p1≠tt:=fun e=>by subst e;rw[wY]at JJ;cases JJ
      have hTt:Paired (TupAt (upd H6 tt (.tup [.int (t:Int),.int (j:Int)]))) rk _:=cG (R:=TupAt) (fun a q z=>uk _ _ z) Ut;refine⟨p1,_,_,Z,Z,uk _ _ wY,(by rw[aB];exact JI),?_⟩;refine⟨_,_,n6,rk++[tt],Z,?_,pH.trans Di,ba.bI (sn.trans (ba.of uk)) n1,by rw[ao ajX];exact uk _ _ zI,by rw[ah,b9];rfl,?_⟩
      ·exact(C2.same uk).grow (uk _ _ wY) (qB (bu _) ok.p) (fun z=>by rw[z]at fF;simp at fF)
      ·show Paired _ _ (_++(if fG l x t g=none then[(t,j)]else[]));rw[if_pos hn];refine nW ?_ (cG (R:=TupAt) (fun a q z=>?_) hTt)
       ·show(upd _ p1 _) tt=_;rw[ao pd.symm,ah]
       ·show(upd _ p1 _) a=_;rw[ao (cE z (uk _ _ wY) (by intro w;cases w))];exact z
     ·have hn:fG l x t g≠none:=fun z=>by rw[z]at h;cases h
      refine⟨_,_,n6,rk,Z,C2,pH.trans Di,sn,zI,wY,?_⟩;show Paired _ _ (_++(if fG l x t g=none then[(t,j)]else[]));rw[if_neg hn,gi];exact Ut
   ·rintro σ H5 ⟨v5,v6,n5,rk,rfl,De,pH,jQ,Df,Dg,zH⟩;refine⟨_,_,_,n5,rk,Z,De,pH,jQ,Df,Dg,?_⟩;rw[C7 ht];exact zH
  ·rintro σ H4 ⟨v4,v5,v6,n4,zF,rfl,jO,uj,mU,Us,zG,wW⟩;rw[show(nats (gI l x.p x.s)).length=(gI l x.p x.s).length by unfold nats;rw[aB],fD]at wW;exact⟨_,_,_,n4,zF,Z,jO,uj,mU,zG,wW⟩
 ·rintro σ H4 ⟨v4,v5,v6,n4,zF,rfl,jO,uj,mU,zG,wW⟩;exact(k H4 n4 p1 zF jO uj mU n1 zG wW)
def Uu:jR→List (Str×V)
 | .food ge n=>[("about",.str "food"),("sign",.str (if ge=true then ">=" else "<")),("number",.int (n:Nat))]
 | .storms ge n=>[("about",.str "storms"),("sign",.str (if ge=true then ">=" else "<")),("number",.int (n:Nat))]
 | .have_ c=>[("about",.str "have"),("sign",.str ""),("number",.int (c:Nat))]
 | .lack c=>[("about",.str "lack"),("sign",.str ""),("number",.int (c:Nat))]
def eL(A:aR)(H:Hp)(a:ae)(c:jR):Prop:=∃dx,H a=some (.ins A.jI dx (Uu c))
theorem Uv c:∀L:List Nat,gC (.int (c:Nat)) (nats L)=L.contains c
 |[]=>rfl
 |a::L=>by
  have ih:=Uv c L;unfold gC nats at ih ⊢;rw[dw,mv,ih,wA];congr 1;show((a:Int)==(c:Int))=(c==a);rw[iJ,beq_iff_eq,beq_iff_eq];lia
theorem ajZ l:(nats l).all i6=true:=by
 unfold nats;rw[sO,jC];intro x _;rfl
def zJ(l:aJ):jR→Prop
 | .have_ c=>c<l.caches.length
 | .lack c=>c<l.caches.length
 | .food _ n=>n≤60
 | .storms _ n=>n≤8
inductive Uw(A:aR)(vs:List V)(H:Hp)(Q:VK)(E:XK):Prop
 |mk:∀(a:ae) (l:aJ) (cd:jR) (c:ae) (x:ee),vs=[.ref a,.ref c]→eL A H a cd→zJ l cd→l.caches.length≤4→c9 A H c x→x.s<16→Q (.bl (Dj x.s x.b x.f cd)) H→Uw A vs H Q E
theorem Ux{s i:Nat}(hs:s<16)(hi:i<4):decide (V.int (oC (s:Int) ((2^i:Nat):Int))=V.int 0)= !Vbexab.has s i:=by
 rw[t_,←Tc s hs i hi,←decide_not];exact decide_eq_decide.mpr ⟨fun z=>by injection z with z;intro q;exact q (by lia),fun z=>by rw[show s&&& 2^i=0 from aj0.mp z];rfl⟩
theorem Uy(n f:Nat):decide ((n:Int)≤(f:Int))=(decide (n≤f)==true):=by
 by_cases h:n≤f
 ·rw[decide_eq_true h,decide_eq_true (show(n:Int)≤f by lia)];rfl
 ·rw[decide_eq_false h,decide_eq_false (show ¬(n:Int)≤f by lia)];rfl
theorem lt_eq(n f:Nat):decide ((f:Int)<(n:Int))=(decide (n≤f)==false):=by
 by_cases h:n≤f
 ·rw[decide_eq_true h,decide_eq_false (show ¬(f:Int)<n by lia)];rfl
 ·rw[decide_eq_false h,decide_eq_true (show(f:Int)<n by lia)];rfl
theorem aj1(T:Txt K mg A):T.HG.Ok P w mg base 1 (Uw A):=by
 refine T.HG.go QA fun _ _ _ _ H _ Q E hr h=>?_;obtain⟨a,l,cd,c,x,rfl,⟨dc,hc⟩,pI,h4,⟨dp,hp⟩,gJ,kH⟩:=h;refine⟨_,(af (aV (aL cO (aj 0) bG) (ak (ax (nI kM (br qg (aj 1) (bM vw (a6 T.tP) (aj 0))) aH))) aW) (af (aV (aL cO (aj 0) bG) (ak (ax (nI cO (br qg (aj 1) (bM vw (a6 T.tP) (aj 0))) aH))) aW) (af (aE 2 QA (AE (aL cO (aj 0) bG) (aj 1) (aj 1))) (af (aV (aL cO (aj 0) bG) (ak (ax (nI jz (pv 2) (aj 0)))) aW) (ak (ax (nI xI (pv 2) (aj 0)))))))),?_⟩
 try dsimp only[aO,Cx.aQ]
 cases cd with
 |have_ i=>
  have i4:i<4:=dG pI h4;refine(ag hc T.kb Z ⟨Z,_,Z,?_⟩);refine bK (fun _=>?_) (fun z=>absurd Z z);refine(ag hp T.jJ Z (ag hc T.mM Z ⟨A.mJ,_,_,_,Z,Z,T.iA _,bX (pq i4),_,_,Z,Z,Z,?_⟩));show Q (.bl (!decide _)) H;rw[Ux gJ i4,Bool.not_not];exact kH
 |lack i=>
  have i4:i<4:=dG pI h4;refine(ag hc T.kb Z ⟨Z,_,Z,?_⟩);refine bK (fun z=>absurd z (by decide+kernel)) (fun _=>?_);refine(ag hc T.kb Z ⟨Z,_,Z,?_⟩);refine bK (fun _=>?_) (fun z=>absurd Z z);refine(ag hp T.jJ Z (ag hc T.mM Z ⟨A.mJ,_,_,_,Z,Z,T.iA _,bX (pq i4),_,_,Z,Z,Z,?_⟩));show Q (.bl (decide _)) H;rw[Ux gJ i4];exact kH
 |food ge m=>
  refine(ag hc T.kb Z ⟨Z,_,Z,bK (fun z=>absurd z (by decide+kernel)) (fun _=>?_)⟩);refine(ag hc T.kb Z ⟨Z,_,Z,bK (fun z=>absurd z (by decide+kernel)) (fun _=>?_)⟩);refine(ag hc T.kb Z ⟨Z,_,Z,bK (fun _=>?_) (fun z=>absurd Z z)⟩);refine(ag hp T.qL Z ?_);cases ge with
  |false=>
   refine(ag hc T.mL Z ⟨Z,_,Z,bK (fun _=>?_) (fun z=>absurd Z z)⟩);refine(ag hc T.mM Z ⟨_,_,Z,Z,?_⟩);show Q (.bl (decide _)) H;rw[lt_eq];exact kH
  |true=>
   refine(ag hc T.mL Z ⟨Z,_,Z,bK (fun z=>absurd z (by decide+kernel)) (fun _=>?_)⟩);refine(ag hc T.mM Z ⟨_,_,Z,Z,?_⟩);show Q (.bl (decide _)) H;rw[Uy];exact kH
 |storms ge m=>
  refine(ag hc T.kb Z ⟨Z,_,Z,bK (fun z=>absurd z (by decide+kernel)) (fun _=>?_)⟩);refine(ag hc T.kb Z ⟨Z,_,Z,bK (fun z=>absurd z (by decide+kernel)) (fun _=>?_)⟩);refine(ag hc T.kb Z ⟨Z,_,Z,bK (fun z=>absurd z (by decide+kernel)) (fun _=>?_)⟩);refine(ag hp T.jK Z ?_);cases ge with
  |false=>
   refine(ag hc T.mL Z ⟨Z,_,Z,bK (fun _=>?_) (fun z=>absurd Z z)⟩);refine(ag hc T.mM Z ⟨_,_,Z,Z,?_⟩);show Q (.bl (decide _)) H;rw[lt_eq];exact kH
  |true=>
   refine(ag hc T.mL Z ⟨Z,_,Z,bK (fun z=>absurd z (by decide+kernel)) (fun _=>?_)⟩);refine(ag hc T.mM Z ⟨_,_,Z,Z,?_⟩);show Q (.bl (decide _)) H;rw[Uy];exact kH
structure RA where
 a:ae
 dx:ae
 lc:ae
 lk:ae
 cs:List ae
def JK(u:RA)(rl:k9):List (Str×V):=[("place",.int (rl.place:Nat)),("conditions",.ref u.lc),("caches",.ref u.lk),("end",.int (rl.go:Nat))]
structure Dk(A:aR)(H:Hp)(u:RA)(rl:k9):Prop where
 ins:H u.a=some (.ins A.Rule u.dx (JK u rl))
 cl:H u.lc=some (.lst (u.cs.map V.ref))
 cs:Paired (eL A H) u.cs rl.conds
 kl:H u.lk=some (.lst (nats rl.take))
def gq(A:aR)(H:Hp)(a:ae)(rl:k9):Prop:=∃u:RA,u.a=a∧Dk A H u rl
structure zK(l:aJ)(rl:k9):Prop where
 place:rl.place<l.places.length
 go:rl.go<l.places.length
 take:∀c∈rl.take,c<l.caches.length
 conds:∀c∈rl.conds,zJ l c
 tl:rl.take.length≤3000
 cl:rl.conds.length≤3000
theorem eL.same(s:aa H H')(h:eL A H a x):eL A H' a x:=let ⟨d,e⟩:=h;⟨d,s _ _ e⟩
theorem gq.same(s:aa H H')(h:gq A H a x):gq A H' a x:=
 let ⟨u,e,q⟩:=h;⟨u,e,⟨s _ _ q.ins,s _ _ q.cl,cG (fun _ _ z=>z.same s) q.cs,s _ _ q.kl⟩⟩
def nZ(x:ee)(rl:k9):Bool:=rl.place==x.p&&rl.conds.all (Dj x.s x.b x.f)
inductive Uz(A:aR)(vs:List V)(H:Hp)(Q:VK)(E:XK):Prop
 |mk:∀(a:ae) (l:aJ) (rl:k9) (c:ae) (x:ee),vs=[.ref a,.ref c]→gq A H a rl→zK l rl→l.caches.length≤4→c9 A H c x→x.s<16→Q (.bl (nZ x rl)) H→Uz A vs H Q E
inductive I24_(H:Hp)(rl:Vbexab.Rule)(c:ae)(x:Vbexab.At)(u:RA)(i:Nat)(σ:L2.St)(H2:Hp):Prop|mk v2:σ=[some (.ref u.a),some (.ref c),v2]→H2=H→(rl.conds.take i).all (Dj x.s x.b x.f)=true→I24_ H rl c x u i σ H2
theorem aj2(T:Txt K mg A):T.HH.Ok P w mg base 2 (Uz A):=by
 refine T.HH.go QB fun _ _ _ _ H _ Q E hr h=>?_;obtain⟨a,l,rl,c,x,rfl,⟨u,rfl,hu⟩,ok,h4,hP,gJ,k⟩:=h;obtain⟨dp,hp⟩:=id hP;have cz:u.cs.length=rl.conds.length:=Paired.length hu.cs;refine⟨_,(af (aV (aL kM (aj 0) (aj 1)) (ak (ax dv)) aW) (af (cJ<|eV d8 rfl (fL (aj 0)) (bY 2 QB) (ak (aV (jX (gg (aI (aj1 T) hr T.HG (aX (pv 2) (pv 1))))) (ak (ax dv)) aW))) (ak (ax dv)))),?_⟩
 try dsimp only[aO,Cx.aQ]
 refine(ag hu.ins T.Ik Z (ag hp T.fQ Z ⟨Z,_,Z,jL (fun h=>?_) (fun h=>?_)⟩))
 ·have e:rl.place≠x.p:=fun z=>h (by rw[z]);unfold nZ at k;rw[show(rl.place==x.p)=false from beq_eq_false_iff_ne.mpr e]at k;exact k
 ·have e:rl.place=x.p:=by injection h with h;lia
  unfold nZ at k;rw[e,beq_self_eq_true,eE]at k;refine⟨fun σ H'=>H'=H∧rl.conds.all (Dj x.s x.b x.f)=true,?_,?_⟩
  ·refine(ag hu.ins T.Il Z ⟨u.lc,Z,⟨_,ai.of hu.cl⟩,kL (K:=K) (a:=u.lc) (xs:=u.cs.map V.ref)
    (I24_ H rl c x u) ⟨none,Z,Z,Z⟩ (fun i σ H2 _ ⟨_,_,q,_⟩=>q▸ai.of hu.cl) ?_ ?_⟩)
   ·rintro i y σ H2 hi ⟨v2,rfl,rfl,d7⟩;obtain⟨b,hb,rfl⟩:=cY hi;obtain⟨cd,gw,gf⟩:=fc hu.cs hb;have cm:=dI gw;refine⟨b,l,cd,c,x,Z,gf,ok.conds cd cm,h4,hP,gJ,_,Z,?_⟩;refine bj (fun h=>?_) (fun h=>?_)
    ·rw[h8]at h;have e2:rl.conds.all (Dj x.s x.b x.f)=false:=by
      rw[Bool.eq_false_iff];intro z;rw[jC.mp z cd cm]at h;cases h
     rw[e2]at k;exact k
    ·rw[gU]at h;refine⟨_,Z,Z,?_⟩;rw[gT gw,aj3,d7,eE,mr,h];rfl
   ·rintro σ H2 ⟨v2,rfl,rfl,d7⟩;rw[aB,cz,fD]at d7;exact⟨Z,d7⟩
  ·rintro σ H2 ⟨rfl,d7⟩;rw[d7]at k;exact k
def Off(O:List ae)(H:Hp):Hp:=fun b=>if b∈O then none else H b
theorem Off.at(h:b∉O):Off O H b=H b:=if_neg h
theorem Off.sub O H:aa (Off O H) H:=fun b o e=>by
 unfold Off at e;split at e
 ·cases e
 ·exact e
theorem Off.same(s:bJ O H H'):aa (Off O H) (Off O H'):=fun b o e=>by
 unfold Off at e ⊢;split at e
 ·cases e
 ·rename_i hb;rw[if_neg hb];exact s b o e hb
theorem Off.of(s:aa H H'):aa (Off O H) (Off O H'):=Off.same (bJ.of s)
theorem Off.new(s:aa H H')(h:∀b∈O,H b=none):aa H (Off O H'):=fun b o e=>by
 unfold Off;rw[if_neg (fun m=>by rw[h b m]at e;cases e)];exact s b o e
theorem bJ.upd(s:bJ O H H1)(m:p∈O):bJ O H (L2.upd H1 p o):=fun b u e n=>by
 rw[ao (fun z=>n (by rw[z];exact m))];exact s b u e n
theorem JL{α:Type}{R R':ae→α→Prop}:∀{as}{xs},Paired R as xs→(∀a,a∈as→∀x,R a x→R' a x)→Paired R' as xs
 |_,_,.nil,_=>.nil
 |_,_,.cons r t,k=>.cons (k _ cI _ r) (JL t fun a m=>k a (c_ _ m))
structure PA where
 a:ae
 dx:ae
 lr:ae
 rs:List ae
def aj4(r:LA)(u:PA):List (Str×V):=[("land",.ref r.a),("rules",.ref u.lr)]
structure eM(A:aR)(H:Hp)(u:PA)(r:LA)(l:aJ)(pl:iE):Prop where
 ins:H u.a=some (.ins A.Plan u.dx (aj4 r u))
 rl:H u.lr=some (.lst (u.rs.map V.ref))
 rs:Paired (gq A (Off [u.lr] H)) u.rs pl
 k_:pl.length≤30
 ok:∀rl∈pl,zK l rl
theorem eM.same(s:aa H H')(h:eM A H u r l pl):eM A H' u r l pl:=⟨s _ _ h.ins,s _ _ h.rl,cG (R:=fun H=>gq A (Off [u.lr] H)) (fun _ _ z=>z.same (Off.of s)) h.rs,h.k_,h.ok⟩
inductive UA(A:aR)(vs:List V)(H:Hp)(Q:VK)(E:XK):Prop
 |mk:∀(u:PA) (r:LA) (l:aJ) (pl:iE) (c:ae) (x:ee),vs=[.ref u.a,.ref c]→eM A H u r l pl→l.caches.length≤4→c9 A H c x→x.s<16→(∀H',aa H H'→Q (ov (pl.findIdx? (nZ x))) H')→UA A vs H Q E
theorem UB{α:Type}{f:α→Bool}:∀{l:List α}{i}{x},l[i]?=some x→f x=true→(∀m y,m<i→l[m]?=some y→f y=false)→l.findIdx? f=some i
 |[],i,x,h,_,_=>by simp at h
 |a::l,0,x,h,h1,_=>by simp at h;subst h;rw[aj5,if_pos h1]
 |a::l,i+1,x,h,h1,h2=>by
  rw[aj5,if_neg (by rw[h2 0 a (by lia) Z];exact cb),UB (by simpa using h) h1 fun m y hm hy=>h2 (m+1) y (by lia) (by simpa using hy)];rfl
theorem aj6{α:Type}{f:α→Bool}{l:List α}(h:∀m y,m<l.length→l[m]?=some y→f y=false):l.findIdx? f=none:=by
 rw[List.findIdx?_eq_none_iff];intro x hx;obtain⟨i,hi⟩:=wF hx;exact h i x (du.mp hi).1 hi
inductive I25_(H:Hp)(u:PA)(pl:Vbexab.Plan)(c:ae)(x:Vbexab.At)(i:Nat)(σ:L2.St)(H':Hp):Prop|mk v2 v3:σ=[some (.ref u.a),some (.ref c),v2,v3]→aa H H'→(∀m y,m<i→pl[m]?=some y→nZ x y=false)→I25_ H u pl c x i σ H'
theorem UC(T:Txt K mg A):T.BW.Ok P w mg base 3 (UA A):=by
 refine T.BW.go GU fun _ _ _ _ H _ Q E hr h=>?_;obtain⟨u,r,l,pl,c,x,rfl,hu,h4,hP,gJ,k⟩:=h;have l5:u.rs.length=pl.length:=Paired.length hu.rs;refine⟨_,(af (cJ<|eV d8 rfl (Be rfl T.wj (aF (aj 0))) (u7 (n:=2) rfl (ir (bY 2 GU) (ir (bY 3 GU) oB))) (ak (aV (gg (aI (aj2 T) hr T.HH (aX (pv 3) (pv 1)))) (ak (ax (pv 2))) aW))) (ak (ax bp))),?_⟩
 try dsimp only[aO,Cx.aQ]
 refine⟨fun σ H'=>aa H H'∧pl.findIdx? (nZ x)=none,?_,?_⟩
 ·refine(ag hu.ins T.qM Z ⟨u.lr,_,Z,ai.of hu.rl,qT (n:=pl.length)
   (I25_ H u pl c x) ⟨none,none,Z,aa.refl _,fun m y hm=>absurd hm (mH _)⟩ ?_ ?_ ?_ ?_⟩)
  ·rintro i σ H' hi ⟨v2,v3,rfl,sm,_⟩;obtain⟨a,ha⟩:∃a,u.rs[i]?=some a:=⟨_,di (by lia)⟩
   exact⟨_,V.ref a,ai.of (sm _ _ hu.rl),by rw[cR,ha];rfl⟩
  ·rintro σ H' ⟨v2,v3,rfl,sm,_⟩;exact⟨_,ai.of (sm _ _ hu.rl),by rw[aB];lia⟩
  ·rintro i σ H' y lT hi ⟨v2,v3,rfl,sm,dh⟩ ⟨t,z,rfl,nt,rfl,hz⟩;have hz:=hz _ (ai.of (sm _ _ hu.rl));obtain⟨a,ha,rfl⟩:=cY hz;obtain⟨rl,ul,um⟩:=fc hu.rs ha;have um:=um.same (Off.sub _ _);have cZ:aa H (upd H' t (.tup [.int (i:Nat),.ref a])):=aa.bI sm (aa.free sm nt);refine⟨t,_,Z,bV.of ah,Z,_,_,Z,_,_,Z,Z,?_⟩;refine⟨a,l,rl,c,x,Z,um.same cZ,hu.ok rl (dI ul),h4,hP.same cZ,gJ,_,Z,?_⟩;refine bj (fun h=>?_) (fun h=>?_)
   ·refine ?_;have:=k _ cZ;rw[UB ul h dh]at this;exact this
   ·refine⟨_,_,Z,cZ,fun m y hm hy=>?_⟩;by_cases zg:m<i
    ·exact dh m y zg hy
    ·have:m=i:=by lia
     subst this;rw[ul]at hy;rw[←bS hy];exact h
  ·rintro σ H' ⟨v2,v3,rfl,sm,dh⟩;exact⟨sm,aj6 dh⟩
 ·rintro σ H' ⟨sm,e⟩;have:=k H' sm;rw[e]at this;exact this
theorem aj7:∀n,n<16→∀a,a<4→jh n a=false→n+2^a<16∧∀i,i<4→ud (n+2^a) i=(ud n i||i==a):=by decide+kernel
theorem Dl:∀(L:List Nat) n,n<16→(∀c∈L,c<4)→(L.foldl (fun n i=>if jh n i=true then n else n+2^i) n)<16∧∀i,i<4→ud (L.foldl (fun n i=>if jh n i=true then n else n+2^i) n) i=(ud n i||L.contains i)
 |[],n,h,_=>⟨h,fun i _=>by simp⟩
 |a::L,n,h,hc=>by
  rw[nv];have ha:=hc a cI;have hr:∀c∈L,c<4:=fun c m=>hc c (c_ _ m);cases e:jh n a with
  |true=>
   rw[if_pos Z];obtain⟨q1,q2⟩:=Dl L n h hr;refine⟨q1,fun i hi=>?_⟩;rw[q2 i hi,wA];by_cases c:i=a
   ·subst c;have e:ud n i=true:=e;rw[e];simp
   ·rw[show(i==a)=false from beq_eq_false_iff_ne.mpr c,gE]
  |false=>
   rw[if_neg cb];obtain⟨s1,s2⟩:=aj7 n h a ha e;obtain⟨q1,q2⟩:=Dl L (n+2^a) s1 hr;refine⟨q1,fun i hi=>?_⟩;rw[q2 i hi,s2 i hi,wA,Bool.or_assoc]
theorem aj8(h:∀c∈L,c<4):(((bP 4).filter L.contains).map fun i=>2^i).sum=rp L:=by
 obtain⟨q1,q2⟩:=Dl L 0 (by decide) h;obtain⟨b1,b2⟩:=CP L.contains 4;apply Gq;intro i;rw[b2];unfold rp;by_cases hi:i<4
 ·rw[decide_eq_true hi,eE,q2 i hi];simp
 ·rw[decide_eq_false hi,i3];exact(Bw (dG q1 (show 2^4≤2^i from jc (by decide) (by lia)))).symm
inductive UD(A:aR)(vs:List V)(H:Hp)(Q:VK)(E:XK):Prop
 |mk:∀(a:ae) (rl:k9),vs=[.ref a]→gq A H a rl→(∀c∈rl.take,c<4)→(∀H',aa H H'→Q (.int (rp rl.take)) H')→UD A vs H Q E
theorem UE(T:Txt K mg A):T.BV.Ok P w mg base 1 (UD A):=by
 refine T.BV.go BD fun _ _ _ _ H _ Q E hr h=>?_;obtain⟨a,rl,rfl,⟨u,rfl,hu⟩,h4,k⟩:=h;refine⟨_,(ak (ax (gB (E6 Z) (by rfl) T.BL IY (aF (i8 Z BD.nd (NV Z T.wj (aF (a6 T.tP))) (hZ (N:=["rule","cache","bit"]) (sc:=aG GF) (own:=[("cache",1),("bit",2)]) (by decide+kernel)) (fun _ _ _ _ _=>(Cz (K0:=K) Z (n:=2) Z (ir (bY 1 BD) (ir (bY 2 BD) oB)))) (fun _ _ _ _ _=>(x9 (oE (aix (K0:=K) Z) (pv 1) (jg (K0:=K) Z (pv 0) Z) (by rfl)))) (fun _ _ _ _ _=>(pv 2))))))),?_⟩
 try dsimp only[aO,Cx.aQ]
 refine⟨A.mJ,_,Z,T.iA _,fun D nD=>wC (n:=4)
  (fun i H2=>aa H H2∧H2 D=some (.lst ((((bP i).filter rl.take.contains).map fun i=>2^i).map fun(n:Nat)=>V.int (n:Int)))) ⟨aa.upd nD,ah⟩ ?_ ?_ ?_ ?_⟩
 ·rintro i H2 hi _;exact⟨_,_,T.iA _,pq hi⟩
 ·rintro H2 _;exact⟨_,T.iA _,Z⟩
 ·rintro i H2 x H3 hi ⟨sm,h2⟩ ⟨t,y,rfl,nt,rfl,hy⟩;have hy:=hy _ (T.iA _);rw[pq hi]at hy;have hy:=bS hy;subst hy;have cZ:aa H (upd H2 t (.tup [.int (i:Nat),.int ((2^i:Nat):Int)])):=aa.bI sm (aa.free sm nt);have nX:D≠t:=fun e=>by subst e;rw[h2]at nt;cases nt
  refine⟨t,_,Z,bV.of ah,Z,_,_,Z,_,_,Z,Z,Z,?_⟩;refine(ag (cZ _ _ hu.ins) T.Cp Z ⟨u.lk,_,Z,.inl (ai.of (cZ _ _ hu.kl)),Z,ajZ _,_,Z,?_⟩);refine dR (d:=rl.take.contains i) (Uv i rl.take) ?_;refine bj (fun h=>?_) (fun h=>?_)
  ·refine⟨_,(by rw[ao nX];exact h2),?_,aa.bI cZ nD,?_⟩
   ·rw[aB,aB];have:=qS rl.take.contains (bP i);rw[ia]at this;show _<16777216;lia
   ·rw[ah,lY,if_pos h,b9,b9];rfl
  ·refine⟨cZ,?_⟩;rw[ao nX,h2,lY,if_neg (by rw[h];exact cb),gi]
 ·rintro H2 ⟨sm,h2⟩;refine⟨D,(((bP 4).filter rl.take.contains).map fun i=>2^i).map fun(n:Nat)=>((n:Nat):Int),Z,ai.of ?_,?_⟩
  ·rw[h2,IW]
  ·rw[CM,aj8 h4];exact k H2 sm
inductive UG(A:aR)(vs:List V)(H:Hp)(Q:VK)(E:XK):Prop
 |mk:∀(x dx:ae) (r:LA) (l:aJ),vs=[.ref x,.ref r.a]→H x=some (.ins A.iQ dx [])→(∀(H':Hp) (n:NA),n.a=x→bR A H' n r l→(∀b o,b≠x→H b=some o→H' b=some o)→Q .aC H')→UG A vs H Q E
theorem aj9(T:Txt K mg A):T.HS.Ok P w mg base 1 (UG A):=by
 refine T.HS.go aeL fun _ _ _ _ H _ Q E hr h=>?_;obtain⟨x,dx,r,l,rfl,hx,k⟩:=h;refine⟨_,(af (bC (pv 0) (pv 1) Z) (af (bC (pv 0) M3 Z) (ak (bC (pv 0) M3 Z)))),?_⟩
 try dsimp only[aO,Cx.aQ]
 refine(bD hx T.qP ?_);intro p1 n1;have a1:x≠p1:=cy ah n1;rw[ao a1.symm]at n1;refine(bD (by rw[ao a1];exact ah) T.tW ?_);intro p2 n2;have a2:x≠p2:=cy ah n2;rw[ao a2.symm]at n2;have b2:p2≠p1:=fun e=>by subst e;rw[ah]at n2;cases n2
 rw[ao b2,ao a2.symm]at n2;refine(bD (by rw[ao a2];exact ah) T.Iq ?_);refine k _ ⟨x,dx,p1,p2,[],[]⟩ Z ⟨ah,?_,?_,b2.symm,fun k v e=>(by cases e),fun k v e=>(by cases e),fun _=>rfl,M2,M2⟩ ?_
 ·show(upd _ x _) p1=_;simp only[ao a1.symm,ao b2.symm,ah]
 ·show(upd _ x _) p2=_;simp only[ao a2.symm,ah]
 ·intro b o hb e;simp only[ao hb,ao (cy e n1),ao (cy e n2)];exact e
inductive UH(A:aR)(vs:List V)(H:Hp)(Q:VK)(E:XK):Prop
 |mk:∀(x dx:ae) (r:LA) (l:aJ),vs=[.ref x,.ref r.a]→H x=some (.ins A.Plan dx [])→(∀(H':Hp) (u:PA),u.a=x→eM A H' u r l []→(∀b o,b≠x→H b=some o→H' b=some o)→H u.lr=none→Q .aC H')→UH A vs H Q E
theorem UI(T:Txt K mg A):T.BU.Ok P w mg base 1 (UH A):=by
 refine T.BU.go aeE fun _ _ _ _ H _ Q E hr h=>?_;obtain⟨x,dx,r,l,rfl,hx,k⟩:=h;refine⟨_,(af (bC (pv 0) (pv 1) Z) (ak (bC (pv 0) (bi gA) Z))),?_⟩
 try dsimp only[aO,Cx.aQ]
 refine(bD hx T.o7 ?_);refine⟨bu _,fun p1 n1=>?_⟩;have a1:x≠p1:=cy ah n1;rw[ao a1.symm]at n1;refine(bD (by rw[ao a1];exact ah) T.qM ?_);refine k _ ⟨x,dx,p1,[]⟩ Z ⟨ah,?_,.nil,bu _,fun _ m=>nomatch m⟩ ?_ n1
 ·show(upd _ x _) p1=_;simp only[ao a1.symm,ah];rfl
 ·intro b o hb e;simp only[ao hb,ao (cy e n1)];exact e
theorem aj_ n:(toString ((n:Nat):Int):String)=toString n:=Z
theorem uq n:V.str (aZ (toString ((n:Nat):Int)))=V.str (tx (pJ n)):=by
 rw[aj_,ig];rfl
theorem uu(h:n≤1000):((n:Nat):Int).natAbs.log2<1920:=by
 rw[Int.natAbs_natCast];by_cases e:n=0
 ·subst e;decide
 ·have:=(Nat.log2_lt (n:=n) (k:=1920) e).mpr (qB h (dG (show 1000<2^10 by decide) (jc (by decide) (by decide))));exact this
theorem zL(h:i<L.length):(cn L)[i]?=some (V.str (tx (L.getD i []))):=by
 unfold cn;rw[cR,di h,eS,di h];rfl
def Dm(l:aJ)(g:cK):List (List Nat):=[aw "leg",pK l g.a,pK l g.b,pJ g.least,pJ g.most]
inductive UJ(A:aR)(vs:List V)(H:Hp)(Q:VK)(E:XK):Prop
 |mk:∀(r:LA) (l:aJ) (c:ae) (g:cK),vs=[.ref r.a,.ref c]→bq A H r l→dO A H c g→g∈l.legs→(∀H' p,aa H H'→H p=none→H' p=some (.lst (cn (Dm l g)))→Q (.ref p) H')→UJ A vs H Q E
theorem aka(T:Txt K mg A):T.Ho.Ok P w mg base 1 (UJ A):=by
 refine T.Ho.go aeu fun _ _ _ _ H _ Q E hr h=>?_;obtain⟨r,l,c,g,rfl,hL,⟨dg,hg⟩,gm,k⟩:=h;have dj:=hL.ok.dJ g gm;refine⟨_,(ak (ax (bi (gh bG (c8 (bM cF (aj 0) (aj 1)) (bM cF (aj 0) (aj 1)) (oJ vh (by rfl) T.wm zM (aF (aj 1))) (oJ vh (by rfl) T.wm zM (aF (aj 1)))))))),?_⟩
 try dsimp only[aO,Cx.aQ]
 refine(ag hL.ins T.jd Z (ag hg T.oY Z ⟨r.lp,_,_,_,Z,Z,ai.of hL.pl,bX (j:=g.a) (zL dj.2.2.2.1),?_⟩));refine(ag hL.ins T.jd Z (ag hg T.nQ Z ⟨r.lp,_,_,_,Z,Z,ai.of hL.pl,bX (j:=g.b) (zL dj.2.2.2.2),?_⟩));refine(ag hg T.oZ Z ⟨_,Z,uu (by lia),?_⟩);refine(ag hg T.Cn Z ⟨_,Z,uu (by lia),?_⟩);refine⟨be,fun p np=>k _ p (aa.upd np) np ?_⟩;rw[ah];have e1:V.str (aZ "leg")=V.str (tx (aw "leg")):=by rw[ig]
 have e2:=uq g.least;have e3:=uq g.most;show some (HO.lst [V.str (aZ "leg"),_,_,V.str (aZ (toString ((g.least:Nat):Int))),V.str (aZ (toString ((g.most:Nat):Int)))])=_;rw[e1,e2,e3];rfl
structure kx(H:Hp)(D:ae)(as:List ae)(ls:List (List (List Nat))):Prop where
 lst:H D=some (.lst (as.map V.ref))
 ls:Ls H as (ls.map cn)
 no:D∉as
theorem kx.same(s:aa H H'){ls:List (List (List Nat))}(h:kx H D as ls):kx H' D as ls:=⟨s _ _ h.lst,Ls.same s h.ls,h.no⟩
theorem kx.add{ls:List (List (List Nat))}(h:kx H D as ls)(hp:H p=some (.lst (cn w0)))(ne:p≠D):kx (upd H D (.lst (as.map V.ref++[V.ref p]))) D (as++[p]) (ls++[w0]):=by
 refine⟨by rw[ah,b9];rfl,?_,fun m=>?_⟩
 ·rw[b9];refine Ls.snoc (by rw[ao ne];exact hp) (h.ls.keep fun c m=>ao (show c≠D from fun e=>h.no (e▸m)))
 ·rcases e_.mp m with m|m
  ·exact h.no m
  ·exact ne (cA.mp m).symm
theorem Ls.app:∀{as bs}{ls ms},Ls H as ls→Ls H bs ms→Ls H (as++bs) (ls++ms)
 |_,_,_,_,.nil,t=>t
 |_,_,_,_,.cons r s,t=>.cons r (Ls.app s t)
theorem kx.join{ls ms:List (List (List Nat))}(h:kx H D as ls)(q:kx H B bs ms)(nb:D∉bs):kx (upd H D (.lst (as.map V.ref++bs.map V.ref))) D (as++bs) (ls++ms):=by
 refine⟨by rw[ah,b9],?_,fun m=>(e_.mp m).elim h.no nb⟩;rw[b9];exact(Ls.app h.ls q.ls).keep fun c m=>ao (show c≠D from fun e=>(e_.mp m).elim (fun z=>h.no (e▸z)) fun z=>nb (e▸z))
inductive UK(A:aR)(vs:List V)(H:Hp)(Q:VK)(E:XK):Prop
 |mk:∀(r:LA) (l:aJ),vs=[.ref r.a]→bq A H r l→l.bad≤8→(zN l).length≤10000000→(∀H' p,aa H H'→H p=none→H' p=some (.lst (nats (zN l)))→Q (.ref p) H')→UK A vs H Q E
theorem akb(T:Txt K mg A):T.Hq.Ok P w mg base 2 (UK A):=by
 refine T.Hq.go tI fun _ _ _ _ H _ Q E hr h=>?_;obtain⟨r,l,rfl,hL,ap_,hlen,k⟩:=h;have h7:=hL.ok.places;have h24:=hL.ok.legs;have h4:=hL.ok.caches;have Jv:=hL.ok.most;have nU:r.gs.length=l.legs.length:=Paired.length hL.gs;have cz:r.cs.length=l.caches.length:=Paired.length hL.cs;have et:∀s:String,V.str (aZ s)=V.str (tx (aw s)):=fun s=>by rw[ig]
 refine⟨_,(af (Fv (i:=1) Z tI.nd Z Z (Fw Z Z Z (by decide+kernel)) (fL (aj 0)) (hZ (N:=["land","lines","name","leg","cache"]) (sc:=aG yD) (own:=[("name",2)]) (by decide+kernel)) (fun _ _ _ _ _=>(bY 2 tI)) (fun _ _ _ _ _=>j6) (fun _ _ _ _ _=>(bi (aX bG (pv 2))))) (af (dH (d4 PySem.F.plainAttrs_list PySem.F.slot_list_extend PySem.F.type_list_extend qm (pv 1) (aF (i8 Z tI.nd (fL (aj 0)) (hZ (N:=["land","lines","name","leg","cache"]) (sc:=aG yD) (own:=[("leg",3)]) (by decide+kernel)) (fun _ _ _ _ _=>(bY 3 tI)) (fun _ _ _ _ _=>j6) (fun _ _ _ _ _=>(aI (aka T) hr T.Ho (aX (pv 0) (pv 3)))))))) (af (dH (d4 PySem.F.plainAttrs_list PySem.F.slot_list_extend PySem.F.type_list_extend qm (pv 1) (aF (i8 Z tI.nd (fL (aj 0)) (hZ (N:=["land","lines","name","leg","cache"]) (sc:=aG yD) (own:=[("cache",4)]) (by decide+kernel)) (fun _ _ _ _ _=>(bY 4 tI)) (fun _ _ _ _ _=>j6) (fun _ _ _ _ _=>(bi (c8 bG (jg (K0:=K) Z (pv 4) Z) (bM (zd (K0:=K) Z) (jg (K0:=K) Z (pv 0) Z) (jg (K0:=K) Z (pv 4) Z)) (oJ vh (by rfl) T.wm zM (aF (jg (K0:=K) Z (pv 4) Z)))))))))) (af (dH (d4 PySem.F.plainAttrs_list PySem.F.slot_list_append PySem.F.type_list_append gQ (pv 1) (aF (bi (aX bG (oJ vh (by rfl) T.wm zM (aF (aj 0)))))))) (af (dH (d4 PySem.F.plainAttrs_list PySem.F.slot_list_append PySem.F.type_list_append gQ (pv 1) (aF (bi (aX bG (oJ vh (by rfl) T.wm zM (aF (aj 0)))))))) (ak (ax (aI (Sz T) hr T.BO (aF (pv 1)))))))))),?_⟩
 try dsimp only[aO,Cx.aQ]
 refine(ag hL.ins T.jd Z ⟨r.lp,Z,⟨_,ai.of hL.pl⟩,fun D nD=>ny (K:=K) (a:=r.lp) (xs:=cn l.places)
  (fun i H2=>aa H H2∧∃as,(∀c,c∈as→H c=none)∧kx H2 D as ((l.places.take i).map fun n=>[aw "place",n])) ⟨aa.upd nD,[],by simp,⟨ah,.nil,by simp⟩⟩ (fun i H2 _ q=>ai.of (q.1 _ _ hL.pl)) ?_ ?_⟩)
 ·rintro i y H2 hi ⟨sm,as,fr,hR⟩;obtain⟨nm,CS,rfl⟩:=cY hi;refine⟨Z,be,fun p np=>?_⟩;have sp:=aa.upd (o:=.lst [V.str (aZ "place"),V.str (tx nm)]) np;have ie:p≠D:=fun e=>by subst e;rw[hR.lst]at np;cases np
  have UL:=hR.same sp;have al:as.length=i:=by
   have:=hR.ls.len;rw[aB,aB,eW]at this;have:=(du.mp CS).1
   lia
  have il:=(du.mp CS).1;refine⟨_,UL.lst,(by rw[aB];show _<16777216;lia),aa.bI (sm.trans sp) nD,as++[p],?_,?_⟩
  ·intro c m;rcases e_.mp m with m|m
   ·exact fr c m
   ·rw[cA.mp m];exact aa.free sm np
  ·rw[gT CS,b9];refine UL.add (w0:=[aw "place",nm]) ?_ ie;rw[ah,et];rfl
 rintro H2 ⟨s2,as,fr,hR⟩;rw[show(cn l.places).length=l.places.length by unfold cn;rw[aB],fD]at hR;have al:as.length=l.places.length:=by
  have:=hR.ls.len;rw[aB,aB]at this;exact this
 have dn:=hL.same s2;refine⟨.inl ⟨Z,_,ai.of hR.lst⟩,?_⟩;refine(ag dn.ins T.qK Z ⟨r.ll,Z,⟨_,ai.of dn.lg⟩,fun D2 pk=>ny (K:=K) (a:=r.ll) (xs:=r.gs.map V.ref)
  (fun i H3=>aa H2 H3∧∃bs,(∀c,c∈bs→H2 c=none)∧kx H3 D2 bs ((l.legs.take i).map (Dm l))) ⟨aa.upd pk,[],by simp,⟨ah,.nil,by simp⟩⟩ (fun i H3 _ q=>ai.of (q.1 _ _ dn.lg)) ?_ ?_⟩)
 ·rintro i y H3 hi ⟨sm,bs,sj,ki⟩;obtain⟨a,ha,rfl⟩:=cY hi;obtain⟨g,hg,ii⟩:=fc (dn.same sm).gs ha;have il:=(du.mp hg).1;refine⟨Z,r,l,a,g,Z,dn.same sm,ii,dI hg,fun H4 p s4 np hp=>?_⟩;have ie:p≠D2:=fun e=>by subst e;rw[ki.lst]at np;cases np
  have CO:=ki.same s4;have bl:bs.length=i:=by
   have:=ki.ls.len;rw[aB,aB,eW]at this
   lia
  refine⟨_,CO.lst,(by rw[aB];show _<16777216;lia),aa.bI (sm.trans s4) pk,bs++[p],?_,?_⟩
  ·intro c m;rcases e_.mp m with m|m
   ·exact sj c m
   ·rw[cA.mp m];exact aa.free sm np
  ·rw[gT hg,b9];exact CO.add hp ie
 rintro H3 ⟨s3,bs,sj,ki⟩;rw[aB,nU,fD]at ki;have bl:bs.length=l.legs.length:=by
  have:=ki.ls.len;rw[aB,aB]at this;exact this
 have UM:=hR.same s3;have nDb:D∉bs:=fun m=>by have:=sj D m;rw[hR.lst]at this;cases this
 refine⟨D,D2,_,_,Z,Z,UM.lst,ki.lst,(by rw[aB,aB];show _≤16777216;lia),?_⟩;have JM:=UM.join ki nDb;have s4:aa H (upd H3 D (.lst (as.map V.ref++bs.map V.ref))):=aa.bI (s2.trans s3) nD;have frb:∀c,c∈as++bs→H c=none:=fun c m=>(e_.mp m).elim (fr c) fun m=>aa.free s2 (sj c m);generalize upd H3 D (.lst (as.map V.ref++bs.map V.ref))=H4 at*;have dQ:=hL.same s4;refine⟨.inl ⟨Z,_,ai.of JM.lst⟩,?_⟩;refine(ag dQ.ins T.lP Z ⟨r.lc,Z,⟨_,ai.of dQ.ch⟩,fun D5 UN=>ny (K:=K) (a:=r.lc) (xs:=r.cs.map V.ref)
  (fun i H5=>aa H4 H5∧∃es,(∀c,c∈es→H4 c=none)∧kx H5 D5 es ((l.caches.take i).map fun c=>[aw "cache",c.name,pK l c.place,pJ c.food])) ⟨aa.upd UN,[],by simp,⟨ah,.nil,by simp⟩⟩ (fun i H5 _ q=>ai.of (q.1 _ _ dQ.ch)) ?_ ?_⟩)
 ·rintro i y H5 hi ⟨sm,es,xH,rq⟩;obtain⟨a,ha,rfl⟩:=cY hi;have fZ:=dQ.same sm;obtain⟨c,hc,dc,gf⟩:=fc fZ.cs ha;have pI:=hL.ok.cache c (dI hc);have il:=(du.mp hc).1;refine⟨Z,?_⟩;refine(ag gf T.ww Z ?_);refine(ag fZ.ins T.jd Z (ag gf T.Ig Z ⟨r.lp,_,_,_,Z,Z,ai.of fZ.pl,bX (j:=c.place) (zL pI.1),?_⟩));refine(ag gf T.Ih Z ⟨_,Z,uu (by lia),be,fun p np=>?_⟩);have sp:=aa.upd (o:=.lst [V.str (aZ "cache"),V.str (tx c.name),V.str (tx (l.places.getD c.place [])),V.str (aZ (toString ((c.food:Nat):Int)))]) np;have ie:p≠D5:=fun e=>by subst e;rw[rq.lst]at np;cases np
  have UO:=rq.same sp;have bl5:es.length=i:=by
   have:=rq.ls.len;rw[aB,aB,eW]at this
   lia
  refine⟨_,UO.lst,(by rw[aB];show _<16777216;lia),aa.bI (sm.trans sp) UN,es++[p],?_,?_⟩
  ·intro c m;rcases e_.mp m with m|m
   ·exact xH c m
   ·rw[cA.mp m];exact aa.free sm np
  ·rw[gT hc,b9];refine UO.add (w0:=[aw "cache",c.name,pK l c.place,pJ c.food]) ?_ ie;rw[ah,et,uq];rfl
 rintro H5 ⟨s5,es,xH,rq⟩;rw[aB,cz,fD]at rq;have el:es.length=l.caches.length:=by
  have:=rq.ls.len;rw[aB,aB]at this;exact this
 have UP:=JM.same s5;have nDe:D∉es:=fun m=>by have:=xH D m;rw[JM.lst]at this;cases this
 refine⟨D,D5,_,_,Z,Z,UP.lst,rq.lst,(by rw[aB,aB,bT];show _≤16777216;lia),?_⟩;have JN:=UP.join rq nDe;have s6:aa H (upd H5 D (.lst ((as++bs).map V.ref++es.map V.ref))):=aa.bI (s4.trans s5) nD;generalize upd H5 D (.lst ((as++bs).map V.ref++es.map V.ref))=H6 at*;have Jz:=hL.same s6;refine⟨.inl ⟨Z,_,ai.of JN.lst⟩,?_⟩;refine(ag Jz.ins T.o6 Z ⟨_,Z,uu (by lia),be,fun p7 n7=>?_⟩);have UQ:=aa.upd (o:=.lst [V.str (aZ "limit"),V.str (aZ (toString ((l.most:Nat):Int)))]) n7;have nD7:p7≠D:=fun e=>by subst e;rw[JN.lst]at n7;cases n7
 have UR:=JN.same UQ;refine⟨D,_,_,Z,Z,UR.lst,(by rw[aB,bT,bT];show _<16777216;lia),?_⟩;have JO:=UR.add (w0:=[aw "limit",pJ l.most]) (p:=p7) (by rw[ah,et,uq];rfl) nD7;have s8:aa H _:=aa.bI (o:=.lst ((as++bs++es).map V.ref++[V.ref p7])) (s6.trans UQ) nD;generalize upd (upd H6 p7 (.lst [V.str (aZ "limit"),V.str (aZ (toString ((l.most:Nat):Int)))])) D (.lst ((as++bs++es).map V.ref++[V.ref p7]))=H8 at*;have hL8:=hL.same s8;refine⟨.inl ⟨Z,_,ai.of JO.lst⟩,?_⟩;refine(ag hL8.ins T.Co Z ⟨_,Z,uu (by lia),be,fun p9 n9=>?_⟩);have US:=aa.upd (o:=.lst [V.str (aZ "storms"),V.str (aZ (toString ((l.bad:Nat):Int)))]) n9;have nD9:p9≠D:=fun e=>by subst e;rw[JO.lst]at n9;cases n9
 have UT:=JO.same US;refine⟨D,_,_,Z,Z,UT.lst,(by rw[aB,bT,bT,bT];show _+1<16777216;lia),?_⟩;have UU:=UT.add (w0:=[aw "storms",pJ l.bad]) (p:=p9) (by rw[ah,et,uq];rfl) nD9;have sx:aa H _:=aa.bI (o:=.lst ((as++bs++es++[p7]).map V.ref++[V.ref p9])) (s8.trans US) nD;generalize upd (upd H8 p9 (.lst [V.str (aZ "storms"),V.str (aZ (toString ((l.bad:Nat):Int)))])) D (.lst ((as++bs++es++[p7]).map V.ref++[V.ref p9]))=Hx at*;have ef:jM (l.places.map (fun n=>[aw "place",n])++l.legs.map (Dm l)++l.caches.map (fun c=>[aw "cache",c.name,pK l c.place,pJ c.food])++[[aw "limit",pJ l.most]]++[[aw "storms",pJ l.bad]])=zN l:=by
  unfold zN Dm;simp only[mx];rfl
 refine⟨D,_,_,Z,UU.lst,UU.ls,by rw[ef];exact hlen,fun H' p q1 q2 q3=>?_⟩;rw[ef]at q3;exact k H' p (sx.trans q1) (aa.free sx q2) q3
theorem akh:∀n:Nat,n<4→∃ns:List Int,iM [.int 1,.int 2,.int 4,.int 8] none (some (n:Int))=ns.map V.int∧ns.sum=((2^n-1:Nat):Int)∧¬(HT.bH 4 0 none=0∧HT.bH 4 4 (some (n:Int))=4):=fun n h=>by
 have:n=0∨n=1∨n=2∨n=3:=by lia
 rcases this with e|e|e|e <;>subst e
 ·exact⟨[],Z,Z,by decide⟩
 ·exact⟨[1],Z,Z,by decide⟩
 ·exact⟨[1,2],Z,Z,by decide⟩
 ·exact⟨[1,2,4],Z,Z,by decide⟩
inductive UW(A:aR)(vs:List V)(H:Hp)(Q:VK)(E:XK):Prop
 |mk:∀(r:LA) (l:aJ),vs=[.ref r.a]→bq A H r l→(∀H',aa H H'→Q (.int ((2^l.caches.length-1:Nat):Int)) H')→UW A vs H Q E
theorem aki(T:Txt K mg A):T.Hr.Ok P w mg base 1 (UW A):=by
 refine T.Hr.go aev fun _ _ _ _ H _ Q E hr h=>?_;obtain⟨r,l,rfl,hL,k⟩:=h;have cz:(r.cs.map V.ref).length=l.caches.length:=by rw[aB];exact Paired.length hL.cs
 have h4:=hL.ok.caches;refine⟨_,(ak (ax (gB (adw Z) (by rfl) T.BL IY (aF (sG (oP.or Z8 adF) (a6 T.tP) vq (qk (cT T.cH (aj 0)))))))),?_⟩
 try dsimp only[aO,Cx.aQ]
 refine(ag hL.ins T.lP Z ⟨_,_,Z,.inl (ai.of hL.ch),(l.caches.length:Int),by rw[cz],?_⟩);by_cases c:l.caches.length<4
 ·obtain⟨ns,e1,e2,e3⟩:=akh _ c;refine .inl ⟨A.mJ,_,Z,T.iA _,e3,fun p np=>⟨p,ns,Z,bV.of (by rw[ah,e1]),?_⟩⟩;rw[e2];exact k _ (aa.upd np)
 ·have e:l.caches.length=4:=by lia
  rw[e]at k ⊢;exact .inr ⟨A.mJ,_,Z,T.iA _,by decide,⟨A.mJ,[1,2,4,8],Z,T.iA _,k _ (aa.refl _)⟩⟩
def jp(l:aJ)(x:ee)(t:Nat)(g:cK):Option Nat:=(bP (a_ g x.b+1)).find? fun k=>decide (dS l x.f t<g.least+k)
inductive UX(A:aR)(vs:List V)(H:Hp)(Q:VK)(E:XK):Prop
 |mk:∀(r:LA) (l:aJ) (c:ae) (x:ee) (t:Nat) (cg:ae) (g:cK),vs=[.ref r.a,.ref c,.int t,.ref cg]→bq A H r l→c9 A H c x→x.b≤8→t<2^l.caches.length→t≤x.s→dO A H cg g→g∈l.legs→(∀H',aa H H'→Q (ov (jp l x t g)) H')→UX A vs H Q E
theorem akj(T:Txt K mg A):T.Hs.Ok P w mg base 5 (UX A):=by
 refine T.Hs.go Qx fun _ _ _ _ H _ Q E hr h=>?_;obtain⟨r,l,c,x,t,cg,g,rfl,hL,hP,jk,ht,CV,hG,gm,k⟩:=h;have dj:=hL.ok.dJ g gm;have wR:a_ g x.b≤x.b:=by unfold a_;lia
 refine⟨_,(af (cJ<|eV d8 rfl (qe rfl T.mK (aF (br dX (aI (ue T) hr T.oW (aX (pv 3) (aj 1))) aH))) (bY 4 Qx) (ak (aV (aL de (aI (wK T) hr T.qI (gh (pv 0) (c8 (pv 1) (pv 2) (pv 3) (pv 4)))) bp) (ak (ax (pv 4))) aW))) (ak (ax bp))),?_⟩
 try dsimp only[aO,Cx.aQ]
 refine⟨fun σ H'=>aa H H'∧jp l x t g=none,?_,?_⟩
 ·obtain⟨dp,hp⟩:=id hP;refine(ag hp T.jK Z ⟨cg,g,x.b,Z,hG,dj.2.1,_,_,Z,Z,(a_ g x.b:Int)+1,Z,by lia,by lia,?_⟩);rw[show((a_ g x.b:Int)+1).toNat=a_ g x.b+1 by lia];refine ve (lo:=0) (n:=a_ g x.b+1) (fun i σ H'=>∃v4,σ=[some (.ref r.a),some (.ref c),some (.int t),some (.ref cg),v4]∧aa H H'∧
   ∀j,j<i→decide (dS l x.f t<g.least+j)=false)
   ⟨none,Z,aa.refl _,fun j hj=>absurd hj (mH _)⟩ ?_ ?_
  ·rintro i σ H1 hi ⟨v4,rfl,s1,dh⟩;rw[uc];refine⟨r,l,c,x,t,cg,g,i,Z,hL.same s1,hP.same s1,ht,hG.same s1,CV,by lia,fun lost H2 s2=>?_,fun rj H2 c2 s2 nc2 l4=>?_⟩
   ·refine⟨Z,_,Z,cP ?_⟩;have:=k H2 (s1.trans s2);rw[show jp l x t g=some i from by
     refine find_here (i:=i) (j_ hi) (decide_eq_true (by lia)) fun m y hm hy=>?_;have A5:m<a_ g x.b+1:=by lia
     rw[j_ A5]at hy;rw[←bS hy];exact dh m hm]at this
    exact this
   ·refine⟨Z,_,Z,cV ⟨_,Z,s1.trans s2,fun j hj=>?_⟩⟩;by_cases cj:j<i
    ·exact dh j cj
    ·exact decide_eq_false (by lia)
  ·rintro σ H1 ⟨v4,rfl,s1,dh⟩;refine⟨s1,find_none fun m y hm hy=>?_⟩;rw[ia]at hm;rw[j_ hm]at hy;rw[←bS hy];exact dh m hm
 ·rintro σ H1 ⟨s1,e⟩;have:=k H1 s1;rw[e]at this;exact this
structure gr(l:aJ):Prop where
 bad:l.bad≤8
 zO:∀c∈l.caches,nT c.name=true
 pname:∀n∈l.places,nT n=true
theorem zP{v:List Nat}(h:cB m v=some n):n≤m:=by
 unfold cB at h;split at h
 ·simp only at h;split at h
  ·cases h;assumption
  ·cases h
 ·cases h
theorem JP(h:lU l a b x y=some m):m.caches=l.caches∧m.storms=l.storms∧m.places=l.places:=by
 unfold lU at h;split at h
 ·cases h
 ·cases h;exact⟨Z,Z,Z⟩
theorem gr.of(h:gr l)(e:m.caches=l.caches∧m.storms=l.storms∧m.places=l.places):gr m:=⟨by have:=h.bad;unfold aqc at this ⊢;rw[e.2.1];exact this,by rw[e.1];exact h.zO,by rw[e.2.2];exact h.pname⟩
theorem UY{n:List Nat}(h:nV l n=true):nT n=true:=by
 unfold nV at h;rw[dA]at h;exact h.1
theorem akk{ws:List (List Nat)}(h:gr l)(e:gH l ws=some m):gr m:=by
 unfold gH at e;split at e
 ·cases e;exact h
 ·split at e
  ·split at e
   ·rename_i hf;cases e;refine⟨h.bad,h.zO,fun n hn=>?_⟩;rcases e_.mp hn with hn|hn
    ·exact h.pname n hn
    ·rw[cA.mp hn];exact UY hf.1
   ·cases e
  ·split at e
   ·split at e
    ·split at e
     ·cases e;exact h.of ⟨Z,Z,Z⟩
     ·cases e
    ·cases e
   ·split at e
    ·split at e
     ·rename_i n' hn;split at e
      ·cases e;exact⟨zP hn,h.zO,h.pname⟩
      ·cases e
     ·cases e
    ·cases e
 ·split at e
  ·split at e
   ·split at e
    ·rename_i hf;cases e;refine⟨h.bad,fun c hc=>?_,h.pname⟩;rcases e_.mp hc with hc|hc
     ·exact h.zO c hc
     ·rw[cA.mp hc];exact UY hf.1
    ·cases e
   ·cases e
  ·cases e
 ·split at e
  ·split at e
   ·exact h.of (JP e)
   ·split at e
    ·cases h1:lU l _ _ _ _ with
     |none=>rw[h1]at e;cases e
     |some m1=>
      rw[h1]at e;exact(h.of (JP h1)).of (JP e)
    ·cases e
  ·cases e
 ·cases e
theorem UZ:∀(ls:List (List (List Nat))) n {l m},gr l→zQ n l ls=.ok m→gr m
 |[],_,_,_,h,e=>by cases e;exact h
 |ws::r,n,l,m,h,e=>by
  unfold zQ at e;cases h1:gH l ws with
  |none=>rw[h1]at e;cases e
  |some l1=>rw[h1]at e;exact UZ r (n+1) (akk h h1) e
theorem Dn:∀ls n l,ji gH n l ls=zQ n l ls
 |[],_,_=>rfl
 |ws::r,n,l=>by
  unfold ji zQ;by_cases c:ws=[]
  ·subst c;rw[if_pos Z,Dn r];rfl
  ·rw[if_neg c];cases gH l ws with
   |none=>rfl
   |some m=>exact Dn r (n+1) m
theorem uv{α:Type}{xs:List α}{j:Nat}{v:α}(h:xs[j+1]?=some v):j4 xs ((j:Int)+1)=some v:=by
 have:=bX h;rwa[show((j+1:Nat):Int)=(j:Int)+1 by lia]at this
theorem U0{α:Type}{xs:List α}{j:Nat}{v:α}(h:xs[j+2]?=some v):j4 xs ((j:Int)+2)=some v:=by
 have:=bX h;rwa[show((j+2:Nat):Int)=(j:Int)+2 by lia]at this
theorem eZ ws:(bA ws).length=ws.length:=by unfold bA;rw[aB]
theorem gu{i:Nat}(h:ws[i]?=some v):(bA ws)[i]?=some (V.str (wd v)):=by unfold bA;rw[cR,h];rfl
theorem Dq(hs:(aw s).all good=true)(ht:(aw t).all good=true):gC (.str (wd v)) [.str (aZ s),.str (aZ t)]=(v==aw s||v==aw t):=by
 have:=in_words (v:=v) [aw s,aw t] (fun k m=>by
  rcases b_.mp m with rfl|m
  ·exact hs
  ·rw[cA.mp m];exact ht)
 rw[ig,ig];show gC (.str (wd v)) ([aw s,aw t].map fun k=>V.str (tx k))=_;rw[this,wA,wA];simp
theorem U3 v m:dN v 0 m=cB m v:=by
 unfold dN;cases cB m v with
 |none=>rfl
 |some n=>
  show(if 0≤n then some n else none)=some n;exact if_pos (bu n)
theorem zR(l:aJ)(D:List (List Nat)):ek l (aw "food"::D)=(match D with
  |o::n::r2=>if o=aw ">=" then(cB 60 n).map (fun m=>(.food true m,r2))else if o=aw "<" then(cB 60 n).map (fun m=>(.food false m,r2))else none
  |_=>none):=by
 have n1:¬aw "food"=aw "have":=by decide
 have n2:¬aw "food"=aw "lack":=by decide
 have n3:¬aw "storms"=aw "food":=by decide
 match D with
 |[]=>rfl
 |[o]=>rfl
 |o::n::r2=>
  unfold ek;simp only[n1,n2,n3, ↓reduceIte];by_cases c1:o=aw ">="
  ·simp only[c1, ↓reduceIte];show(match some true,cB 60 n with|some g,some m=>_|_,_=>none)=_;cases cB 60 n <;>rfl
  ·by_cases c2:o=aw "<"
   ·simp only[c1,c2, ↓reduceIte];show(match (if aw "<"=aw ">=" then some true else some false),cB 60 n with|some g,some m=>_|_,_=>none)=_;cases cB 60 n <;>rfl
   ·simp only[c1,c2, ↓reduceIte]
theorem zS(l:aJ)(D:List (List Nat)):ek l (aw "storms"::D)=(match D with
  |o::n::r2=>if o=aw ">=" then(cB 8 n).map (fun m=>(.storms true m,r2))else if o=aw "<" then(cB 8 n).map (fun m=>(.storms false m,r2))else none
  |_=>none):=by
 have n1:¬aw "storms"=aw "have":=by decide
 have n2:¬aw "storms"=aw "lack":=by decide
 have n3:¬aw "storms"=aw "food":=by decide
 match D with
 |[]=>rfl
 |[o]=>rfl
 |o::n::r2=>
  unfold ek;simp only[n1,n2,n3, ↓reduceIte];by_cases c1:o=aw ">="
  ·simp only[c1, ↓reduceIte];show(match some true,cB 8 n with|some g,some m=>_|_,_=>none)=_;cases cB 8 n <;>rfl
  ·by_cases c2:o=aw "<"
   ·simp only[c1,c2, ↓reduceIte];show(match (if aw "<"=aw ">=" then some true else some false),cB 8 n with|some g,some m=>_|_,_=>none)=_;cases cB 8 n <;>rfl
   ·simp only[c1,c2, ↓reduceIte]
theorem zT(l:aJ)(D:List (List Nat)):ek l (aw "have"::D)=(match D with
  |o::r2=>(fE l o).map (fun m=>(.have_ m,r2))
  |_=>none):=by
 have n1:¬aw "lack"=aw "have":=by decide
 match D with
 |[]=>rfl
 |o::r2=>
  unfold ek;simp only[n1, ↓reduceIte]
theorem zU(l:aJ)(D:List (List Nat)):ek l (aw "lack"::D)=(match D with
  |o::r2=>(fE l o).map (fun m=>(.lack m,r2))
  |_=>none):=by
 have n1:¬aw "lack"=aw "have":=by decide
 match D with
 |[]=>rfl
 |o::r2=>
  unfold ek;simp only[n1, ↓reduceIte]
def U5(A:aR)(H:Hp)(Q:VK):Option (jR×List (List Nat))→Prop
 |none=>∀H',aa H H'→Q .aC H'
 |some x=>∀H' p,aa H H'→H p=none→eL A H' p x.1→Q (.ref p) H'
inductive U7(A:aR)(vs:List V)(H:Hp)(Q:VK)(E:XK):Prop
 |mk:∀(a:ae) (ws:List (List Nat)) (j:Nat) (l:aJ) (k:List Nat),vs=[.ref a,.int j]→H a=some (.lst (bA ws))→Words ws→ws[j]?=some k→(k=aw "food"∨k=aw "storms")→U5 A H Q (ek l (ws.drop j))→U7 A vs H Q E
theorem akl(T:Txt K mg A):T.Hv.Ok P w mg base 3 (U7 A):=by
 refine T.Hv.go GQ fun _ _ _ _ H _ Q E hr h=>?_;obtain⟨a,ws,j,l,k0,rfl,hw,hW,hk,JQ,k⟩:=h;refine⟨_,(af (aV (fk (PW.pt (eO (aL xI (br dX (pv 1) aH) (cT T.cH (pv 0))) (gz (oE EZ (bM cF (pv 0) (br dX (pv 1) aH)) (jA (aX bG bG)) (by rfl)))))) (ak (ax bp)) aW) (af (aE 2 GQ (AE (aL cO (bM cF (pv 0) (pv 1)) bG) (a6 T.RX) (a6 T.G7))) (af (aE 3 GQ (aI (wB T) hr T.qF (cS (bM cF (pv 0) (br dX (pv 1) aH)) aH (pv 2)))) (af (aV (aL de (pv 3) bp) (ak (ax bp)) aW) (ak (ax (gk (SX T) hr T.R3 T.BS (cS (bM cF (pv 0) (pv 1)) (bM cF (pv 0) (br dX (pv 1) aH)) (pv 3))))))))),?_⟩
 try dsimp only[aO,Cx.aQ]
 obtain⟨D',hD⟩:∃D',ws.drop j=k0::D':=⟨_,o_ hk⟩
 rcases JQ with rfl|rfl
 ·
  rw[hD,zR]at k
  match D',hD,k with
  |[],hD,k=>
   have len:ws.length=j+1:=by have:=congrArg i5 hD;rw[gj]at this;simp at this;lia
   refine⟨true,fun Q' q=>?_,fun H1 s1=>cP (k H1 s1)⟩;refine⟨_,_,Z,Z,_,_,Z,.inl (ai.of hw),_,_,Z,Z,_,Z,?_⟩;refine dR (d:=true) (decide_eq_true (by rw[eZ];lia)) (q H (aa.refl _))
  |[o],hD,k=>
   have len:ws.length=j+2:=by have:=congrArg i5 hD;rw[gj]at this;simp at this;lia
   refine⟨true,fun Q' q=>?_,fun H1 s1=>cP (k H1 s1)⟩;refine⟨_,_,Z,Z,_,_,Z,.inl (ai.of hw),_,_,Z,Z,_,Z,?_⟩;refine dR (d:=true) (decide_eq_true (by rw[eZ];lia)) (q H (aa.refl _))
  |o::n::r2,hD,k=>
   have len:j+2<ws.length:=by have:=congrArg i5 hD;rw[gj]at this;simp at this;lia
   have ho:ws[j+1]?=some o:=by
    have:=congrArg (fun z=>z[1]?) hD;simpa[uw]using this
   have hn:ws[j+2]?=some n:=by
    have:=congrArg (fun z=>z[2]?) hD;simpa[uw]using this
   have zV:=hW n (dI hn);refine⟨!(o==aw ">="||o==aw "<"),fun Q' q=>?_,fun H1 s1=>?_⟩
   ·refine⟨_,_,Z,Z,_,_,Z,.inl (ai.of hw),_,_,Z,Z,_,Z,?_⟩;refine dR (d:=false) (decide_eq_false (by rw[eZ];lia)) (cV ?_);refine⟨_,_,Z,Z,a,_,_,_,Z,Z,ai.of hw,uv (gu ho),be,fun t nt=>?_⟩;refine⟨t,_,Z,.inr (bV.of ah),Z,Z,_,Z,?_⟩;have e:(if true=true then !gC (V.str (wd o)) [.str ">=",.str "<"]else gC (V.str (wd o)) [.str ">=",.str "<"])= !(o==aw ">="||o==aw "<"):=by rw[if_pos Z,Dq (by decide) (by decide)]
    exact e▸q _ (aa.upd nt)
   ·refine bj (fun h=>?_) (fun h=>?_)
    ·rw[h8,lV,beq_eq_false_iff_ne,beq_eq_false_iff_ne]at h;simp only[if_neg h.1,if_neg h.2]at k;exact k H1 s1
    ·have fT:=s1 _ _ hw;refine⟨a,_,_,_,Z,Z,ai.of fT,bX (gu hk),Z,_,Z,?_⟩;refine dR (mP (s:="food") (by decide)) ?_;refine bK (fun _=>?_) (fun z=>absurd Z z);refine⟨_,_,Z,Z,a,_,_,_,Z,Z,ai.of fT,U0 (gu hn),n,0,60,Z,zV.1,zV.2,?_⟩;rw[U3];rw[gU,mC,beq_iff_eq,beq_iff_eq]at h;cases hm:cB 60 n with
     |none=>
      simp only[hm,zW,ite_self]at k;refine⟨Z,_,Z,cP (k H1 s1)⟩
     |some m=>
      refine⟨Z,_,Z,cV ?_⟩;refine⟨a,_,_,_,Z,Z,ai.of fT,bX (gu hk),_,_,Z,Z,a,_,_,_,Z,Z,ai.of fT,uv (gu ho),fun z dz nz dP iC=>?_⟩;refine⟨z,dz,_,_,_,Z,ah,fun H4 hz lh=>⟨Z,?_⟩⟩;have fo:aa H1 H4:=aa.make (C:=A.jI) (fs:=[]) nz dP lh;have kz:∀g,o=(if g=true then aw ">=" else aw "<")→eL A H4 z (.food g m):=fun g hg=>⟨dz,by
       rw[hz,hg,lR (show(aw "food").all good=true by decide)];cases g
       ·rw[if_neg cb,lR (show(aw "<").all good=true by decide),←ig,←ig];rfl
       ·rw[if_pos Z,lR (show(aw ">=").all good=true by decide),←ig,←ig];rfl⟩
      rcases h with h|h
      ·simp only[if_pos h,hm,i_]at k;exact k H4 z (s1.trans fo) (aa.free s1 nz) (kz true h)
      ·have h':o≠aw ">=":=by rw[h];decide
       simp only[if_neg h',if_pos h,hm,i_]at k;exact k H4 z (s1.trans fo) (aa.free s1 nz) (kz false h)
 ·
  rw[hD,zS]at k
  match D',hD,k with
  |[],hD,k=>
   have len:ws.length=j+1:=by have:=congrArg i5 hD;rw[gj]at this;simp at this;lia
   refine⟨true,fun Q' q=>?_,fun H1 s1=>cP (k H1 s1)⟩;refine⟨_,_,Z,Z,_,_,Z,.inl (ai.of hw),_,_,Z,Z,_,Z,?_⟩;refine dR (d:=true) (decide_eq_true (by rw[eZ];lia)) (q H (aa.refl _))
  |[o],hD,k=>
   have len:ws.length=j+2:=by have:=congrArg i5 hD;rw[gj]at this;simp at this;lia
   refine⟨true,fun Q' q=>?_,fun H1 s1=>cP (k H1 s1)⟩;refine⟨_,_,Z,Z,_,_,Z,.inl (ai.of hw),_,_,Z,Z,_,Z,?_⟩;refine dR (d:=true) (decide_eq_true (by rw[eZ];lia)) (q H (aa.refl _))
  |o::n::r2,hD,k=>
   have len:j+2<ws.length:=by have:=congrArg i5 hD;rw[gj]at this;simp at this;lia
   have ho:ws[j+1]?=some o:=by
    have:=congrArg (fun z=>z[1]?) hD;simpa[uw]using this
   have hn:ws[j+2]?=some n:=by
    have:=congrArg (fun z=>z[2]?) hD;simpa[uw]using this
   have zV:=hW n (dI hn);refine⟨!(o==aw ">="||o==aw "<"),fun Q' q=>?_,fun H1 s1=>?_⟩
   ·refine⟨_,_,Z,Z,_,_,Z,.inl (ai.of hw),_,_,Z,Z,_,Z,?_⟩;refine dR (d:=false) (decide_eq_false (by rw[eZ];lia)) (cV ?_);refine⟨_,_,Z,Z,a,_,_,_,Z,Z,ai.of hw,uv (gu ho),be,fun t nt=>?_⟩;refine⟨t,_,Z,.inr (bV.of ah),Z,Z,_,Z,?_⟩;have e:(if true=true then !gC (V.str (wd o)) [.str ">=",.str "<"]else gC (V.str (wd o)) [.str ">=",.str "<"])= !(o==aw ">="||o==aw "<"):=by rw[if_pos Z,Dq (by decide) (by decide)]
    exact e▸q _ (aa.upd nt)
   ·refine bj (fun h=>?_) (fun h=>?_)
    ·rw[h8,lV,beq_eq_false_iff_ne,beq_eq_false_iff_ne]at h;simp only[if_neg h.1,if_neg h.2]at k;exact k H1 s1
    ·have fT:=s1 _ _ hw;refine⟨a,_,_,_,Z,Z,ai.of fT,bX (gu hk),Z,_,Z,?_⟩;refine dR (mP (s:="food") (by decide)) ?_;refine bK (fun z=>absurd z (by decide)) (fun _=>?_);refine⟨_,_,Z,Z,a,_,_,_,Z,Z,ai.of fT,U0 (gu hn),n,0,8,Z,zV.1,zV.2,?_⟩;rw[U3];rw[gU,mC,beq_iff_eq,beq_iff_eq]at h;cases hm:cB 8 n with
     |none=>
      simp only[hm,zW,ite_self]at k;refine⟨Z,_,Z,cP (k H1 s1)⟩
     |some m=>
      refine⟨Z,_,Z,cV ?_⟩;refine⟨a,_,_,_,Z,Z,ai.of fT,bX (gu hk),_,_,Z,Z,a,_,_,_,Z,Z,ai.of fT,uv (gu ho),fun z dz nz dP iC=>?_⟩;refine⟨z,dz,_,_,_,Z,ah,fun H4 hz lh=>⟨Z,?_⟩⟩;have fo:aa H1 H4:=aa.make (C:=A.jI) (fs:=[]) nz dP lh;have kz:∀g,o=(if g=true then aw ">=" else aw "<")→eL A H4 z (.storms g m):=fun g hg=>⟨dz,by
       rw[hz,hg,lR (show(aw "storms").all good=true by decide)];cases g
       ·rw[if_neg cb,lR (show(aw "<").all good=true by decide),←ig,←ig];rfl
       ·rw[if_pos Z,lR (show(aw ">=").all good=true by decide),←ig,←ig];rfl⟩
      rcases h with h|h
      ·simp only[if_pos h,hm,i_]at k;exact k H4 z (s1.trans fo) (aa.free s1 nz) (kz true h)
      ·have h':o≠aw ">=":=by rw[h];decide
       simp only[if_neg h',if_pos h,hm,i_]at k;exact k H4 z (s1.trans fo) (aa.free s1 nz) (kz false h)
inductive U8(A:aR)(vs:List V)(H:Hp)(Q:VK)(E:XK):Prop
 |mk:∀(r:LA) (l:aJ) (a:ae) (ws:List (List Nat)) (j:Nat) (k:List Nat),vs=[.ref r.a,.ref a,.int j]→bq A H r l→H a=some (.lst (bA ws))→ws[j]?=some k→(k=aw "have"∨k=aw "lack")→U5 A H Q (ek l (ws.drop j))→U8 A vs H Q E
theorem akm(T:Txt K mg A):T.Hw.Ok P w mg base 3 (U8 A):=by
 refine T.Hw.go Qy fun _ _ _ _ H _ Q E hr h=>?_;obtain⟨r,l,a,ws,j,k0,rfl,hL,hw,hk,JQ,k⟩:=h;refine⟨_,(af (aV (aL xI (br dX (pv 2) aH) (cT T.cH (pv 1))) (ak (ax bp)) aW) (af (aE 3 Qy (aI (IK T) hr T.yS (aX (pv 0) (bM cF (pv 1) (br dX (pv 2) aH))))) (af (aV (aL de (pv 3) bp) (ak (ax bp)) aW) (ak (ax (gk (SX T) hr T.R3 T.BS (cS (bM cF (pv 1) (pv 2)) bG (pv 3)))))))),?_⟩
 try dsimp only[aO,Cx.aQ]
 obtain⟨D',hD⟩:∃D',ws.drop j=k0::D':=⟨_,o_ hk⟩
 rcases JQ with rfl|rfl
 ·rw[hD,zT]at k
  match D',hD,k with
  |[],hD,k=>
   have len:ws.length=j+1:=by have:=congrArg i5 hD;rw[gj]at this;simp at this;lia
   refine⟨_,_,Z,Z,_,_,Z,.inl (ai.of hw),_,_,Z,Z,_,Z,?_⟩;refine dR (d:=true) (decide_eq_true (by rw[eZ];lia)) (cP (k H (aa.refl _)))
  |o::r2,hD,k=>
   have len:j+1<ws.length:=by have:=congrArg i5 hD;rw[gj]at this;simp at this;lia
   have ho:ws[j+1]?=some o:=by
    have:=congrArg (fun z=>z[1]?) hD;simpa[uw]using this
   refine⟨_,_,Z,Z,_,_,Z,.inl (ai.of hw),_,_,Z,Z,_,Z,?_⟩;refine dR (d:=false) (decide_eq_false (by rw[eZ];lia)) (cV ?_);refine⟨_,_,Z,Z,a,_,_,_,Z,Z,ai.of hw,uv (gu ho),r,l,o,Z,hL,fun H1 s1=>?_⟩;have fT:=s1 _ _ hw;cases hm:fE l o with
   |none=>
    simp only[hm,zW]at k;refine⟨Z,_,Z,cP (k H1 s1)⟩
   |some m=>
    refine⟨Z,_,Z,cV ?_⟩;refine⟨a,_,_,_,Z,Z,ai.of fT,bX (gu hk),fun z dz nz dP iC=>?_⟩;refine⟨z,dz,_,_,_,Z,ah,fun H4 hz lh=>⟨Z,?_⟩⟩;have fo:aa H1 H4:=aa.make (C:=A.jI) (fs:=[]) nz dP lh;simp only[hm,i_]at k;refine k H4 z (s1.trans fo) (aa.free s1 nz) ⟨dz,?_⟩;rw[hz,lR (show(aw "have").all good=true by decide),←ig];rfl
 ·rw[hD,zU]at k
  match D',hD,k with
  |[],hD,k=>
   have len:ws.length=j+1:=by have:=congrArg i5 hD;rw[gj]at this;simp at this;lia
   refine⟨_,_,Z,Z,_,_,Z,.inl (ai.of hw),_,_,Z,Z,_,Z,?_⟩;refine dR (d:=true) (decide_eq_true (by rw[eZ];lia)) (cP (k H (aa.refl _)))
  |o::r2,hD,k=>
   have len:j+1<ws.length:=by have:=congrArg i5 hD;rw[gj]at this;simp at this;lia
   have ho:ws[j+1]?=some o:=by
    have:=congrArg (fun z=>z[1]?) hD;simpa[uw]using this
   refine⟨_,_,Z,Z,_,_,Z,.inl (ai.of hw),_,_,Z,Z,_,Z,?_⟩;refine dR (d:=false) (decide_eq_false (by rw[eZ];lia)) (cV ?_);refine⟨_,_,Z,Z,a,_,_,_,Z,Z,ai.of hw,uv (gu ho),r,l,o,Z,hL,fun H1 s1=>?_⟩;have fT:=s1 _ _ hw;cases hm:fE l o with
   |none=>
    simp only[hm,zW]at k;refine⟨Z,_,Z,cP (k H1 s1)⟩
   |some m=>
    refine⟨Z,_,Z,cV ?_⟩;refine⟨a,_,_,_,Z,Z,ai.of fT,bX (gu hk),fun z dz nz dP iC=>?_⟩;refine⟨z,dz,_,_,_,Z,ah,fun H4 hz lh=>⟨Z,?_⟩⟩;have fo:aa H1 H4:=aa.make (C:=A.jI) (fs:=[]) nz dP lh;simp only[hm,i_]at k;refine k H4 z (s1.trans fo) (aa.free s1 nz) ⟨dz,?_⟩;rw[hz,lR (show(aw "lack").all good=true by decide),←ig];rfl
theorem JR{k:List Nat}(h1:k≠aw "food")(h2:k≠aw "storms")(h3:k≠aw "have")(h4:k≠aw "lack")(D:List (List Nat)):ek l (k::D)=none:=by
 match D with
 |[]=>rfl
 |[o]=>
  show(if k=aw "have" then _ else if k=aw "lack" then _ else _)=_;rw[if_neg h3,if_neg h4]
 |o::n::r2=>
  show(if k=aw "have" then _ else if k=aw "lack" then _ else _)=_;rw[if_neg h3,if_neg h4];simp only[if_neg h1,if_neg h2]
theorem uA{D:List (List Nat)}{x:jR×List (List Nat)}(h:ek l D=some x):
  ∃k,D.head?=some k∧(((k=aw "food"∨k=aw "storms")∧x.2=D.drop 3∧3≤D.length)∨((k=aw "have"∨k=aw "lack")∧x.2=D.drop 2∧2≤D.length)):=by
 match D,h with
 |[],h=>cases h
 |k::D,h=>
  refine⟨k,Z,?_⟩;by_cases c1:k=aw "food"
  ·subst c1;rw[zR]at h
   match D,h with
   |o::n::r2,h=>
    refine .inl ⟨.inl Z,?_,by simp⟩;simp only at h;split at h
    ·obtain⟨m,_,e⟩:=fP.mp h;rw[←e];rfl
    ·split at h
     ·obtain⟨m,_,e⟩:=fP.mp h;rw[←e];rfl
     ·cases h
  ·by_cases c2:k=aw "storms"
   ·subst c2;rw[zS]at h
    match D,h with
    |o::n::r2,h=>
     refine .inl ⟨.inr Z,?_,by simp⟩;simp only at h;split at h
     ·obtain⟨m,_,e⟩:=fP.mp h;rw[←e];rfl
     ·split at h
      ·obtain⟨m,_,e⟩:=fP.mp h;rw[←e];rfl
      ·cases h
   ·by_cases c3:k=aw "have"
    ·subst c3;rw[zT]at h
     match D,h with
     |o::r2,h=>
      obtain⟨m,_,e⟩:=fP.mp h;exact .inr ⟨.inl Z,by rw[←e];rfl,by simp⟩
    ·by_cases c4:k=aw "lack"
     ·subst c4;rw[zU]at h
      match D,h with
      |o::r2,h=>
       obtain⟨m,_,e⟩:=fP.mp h;exact .inr ⟨.inr Z,by rw[←e];rfl,by simp⟩
     ·rw[JR c1 c2 c3 c4]at h;cases h
theorem Dr{D:List (List Nat)}{x:jR×List (List Nat)}(h:ek l D=some x):x.2.length<D.length:=by
 obtain⟨k,_,⟨_,e,hl⟩|⟨_,e,hl⟩⟩:=uA h <;>rw[e,gj]<;>lia
def rc(l:aJ):Nat→List (List Nat)→Option (List jR)
 |0,_=>none
 |_+1,[]=>some []
 |f+1,w::r=>match ek l (w::r)with
  |none=>none
  |some x=>(rc l f x.2).map fun y=>x.1::y
theorem U_ l:∀n m ws,ws.length<n→ws.length<m→rc l n ws=rc l m ws
 |0,_,_,h,_=>absurd h (mH _)
 |_,0,_,_,h=>absurd h (mH _)
 |n+1,m+1,[],_,_=>rfl
 |n+1,m+1,w::r,h1,h2=>by
  unfold rc;cases e:ek l (w::r)with
  |none=>rfl
  |some x=>
   have:=Dr e;show(rc l n x.2).map _=(rc l m x.2).map _;rw[U_ l n m x.2 (by lia) (by lia)]
def gX(l:aJ)(ws:List (List Nat)):Option (List jR):=rc l (ws.length+1) ws
theorem Va{ws:List (List Nat)}(h0:ws≠[])(h:ek l ws=none):gX l ws=none:=by
 match ws,h0,h with
 |w::r,_,h=>
  unfold gX;show(match ek l (w::r)with|none=>none|some x=>(rc l _ x.2).map fun y=>x.1::y)=none;rw[h]
theorem Vb{ws:List (List Nat)}{x:jR×List (List Nat)}(h:ek l ws=some x):gX l ws=(gX l x.2).map fun y=>x.1::y:=by
 have hs:=Dr h
 match ws,h with
 |w::r,h=>
  show(match ek l (w::r)with|none=>none|some x=>(rc l _ x.2).map fun y=>x.1::y)=_;rw[h];show(rc l _ x.2).map _=(rc l _ x.2).map _;rw[U_ l _ (x.2.length+1) x.2 hs (by lia)]
inductive Vc(A:aR)(vs:List V)(H:Hp)(Q:VK)(E:XK):Prop
 |mk:∀(r:LA) (l:aJ) (a:ae) (ws:List (List Nat)),vs=[.ref r.a,.ref a]→bq A H r l→H a=some (.lst (bA ws))→Words ws→ws.length≤3000→(gX l ws=none→∀H',aa H H'→Q .aC H')→(∀cs,gX l ws=some cs→∀H' p as,aa H H'→H p=none→(∀c,c∈as→H c=none)→H' p=some (.lst (as.map V.ref))→Paired (eL A H') as cs→cs.length≤ws.length→Q (.ref p) H')→Vc A vs H Q E
inductive I27_(H:Hp)(r:LA)(l:Vbexab.Land)(a:ae)(ws:List (List Nat))(p1:ae)(σ:L2.St)(H':Hp):Prop|mk v3 v4 v5 as cs:σ=[some (.ref r.a),some (.ref a),some (.ref p1),v3,v4,v5]→aa H H'→(∀c,c∈as→H c=none)→H' p1=some (.lst (as.map V.ref))→Paired (eL A H') as cs→cs.length≤ws.length→gX l ws=some cs→I27_ H r l a ws p1 σ H'
theorem akn(T:Txt K mg A):T.Hy.Ok P w mg base 4 (Vc A):=by
 refine T.Hy.go nJ fun _ _ _ _ H _ Q E hr h=>?_;obtain⟨r,l,a,ws,rfl,hL,hw,hW,hlen,k0,k1⟩:=h;refine⟨_,(af (aE 2 nJ (bi gA)) (af (aE 3 nJ aH) (af (cJ<|AH d8 (aL jz (pv 3) (cT T.cH (pv 1))) (af (aE 4 nJ bp) (af (aE 5 nJ aH) (af (cJ<|aV (oE vD (bM cF (pv 1) (pv 3)) (jA (aX bG bG)) (by rfl)) (af (aE 4 nJ (aI (akl T) hr T.Hv (aX (pv 1) (pv 3)))) (ak (aE 5 nJ aH))) (ak (aV (oE vD (bM cF (pv 1) (pv 3)) (jA (aX bG bG)) (by rfl)) (af (aE 4 nJ (aI (akm T) hr T.Hw (cS (pv 0) (pv 1) (pv 3)))) (ak (aE 5 nJ aH))) aW))) (af (aV (aL de (pv 4) bp) (ak (ax bp)) aW) (af (dH (d4 PySem.F.plainAttrs_list PySem.F.slot_list_append PySem.F.type_list_append gQ (pv 2) (aF (pv 4)))) (ak (tD 3 nJ (pv 5) u9)))))))) (ak (ax (pv 2)))))),?_⟩
 try dsimp only[aO,Cx.aQ]
 refine⟨bu _,fun p1 n1=>?_⟩;have s1:aa H (upd H p1 (.lst [])):=aa.upd n1;have eG:(upd H p1 (.lst [])) p1=some (.lst []):=ah;generalize upd H p1 (.lst [])=H1 at*;refine⟨I27_ H r l a ws p1,?_,?_⟩
 ·refine⟨fun m σ H'=>∃v4 v5 j as cs,σ=[some (.ref r.a),some (.ref a),some (.ref p1),some (.int (j:Nat)),v4,v5]∧m=ws.length-j∧j≤ws.length∧aa H H'∧(∀c,c∈as→H c=none)∧H' p1=some (.lst (as.map V.ref))∧Paired (eL A H') as cs∧cs.length≤j∧gX l ws=(gX l (ws.drop j)).map fun y=>cs++y,
   ⟨_,none,none,0,[],[],Z,Z,bu _,s1,(by simp),eG,.nil,bu _,(by rw[vT];cases gX l ws <;>rfl)⟩,?_⟩
  rintro m σ H2 ⟨v4,v5,j,as,cs,rfl,rfl,hj,s2,fr,cX,hC,cz,bO⟩;have n0:=s2 _ _ hw;refine⟨_,_,Z,.inl (ai.of n0),_,_,Z,Z,_,Z,?_⟩;refine bK (fun h=>?_) (fun h=>?_)
  ·rw[eZ]at h;have hj:j<ws.length:=by lia
   obtain⟨k,hk⟩:∃k,ws[j]?=some k:=⟨_,di hj⟩
   refine⟨fun σ' H'=>∃m',m'<ws.length-j∧_,fun _ _ z=>z,?_⟩;have hd:=o_ hk;refine⟨fun σ' H'=>∃v4 n,σ'=[some (.ref r.a),some (.ref a),some (.ref p1),some (.int (j:Nat)),some v4,some (.int (n:Nat))]∧aa H2 H'∧(match ek l (ws.drop j)with
    |none=>v4=.aC
    |some x=>∃p,v4=.ref p∧H2 p=none∧eL A H' p x.1∧x.2=(ws.drop j).drop n∧n≤(ws.drop j).length∧0<n),?_,?_⟩
   ·refine⟨a,_,_,_,Z,Z,ai.of n0,bX (gu hk),be,fun t nt=>?_⟩;have st:=aa.upd (o:=.tup [.str "food",.str "storms"]) nt;refine⟨t,_,Z,.inr (bV.of ah),Z,Z,_,Z,?_⟩;refine dR (d:=k==aw "food"||k==aw "storms") (Dq (by decide) (by decide)) ?_;generalize upd H2 t (.tup [.str "food",.str "storms"])=H3 at*;have iU:=st _ _ n0;refine bj (fun h=>?_) (fun h=>?_)
    ·rw[mC,beq_iff_eq,beq_iff_eq]at h;refine⟨a,ws,j,l,k,Z,iU,hW,hk,h,?_⟩;cases e:ek l (ws.drop j)with
     |none=>exact fun H4 s4=>⟨_,3,Z,st.trans s4,Z⟩
     |some x=>
      refine fun H4 p s4 np hp=>⟨_,3,Z,st.trans s4,p,Z,aa.free st np,hp,?_⟩
      obtain⟨k',kO,⟨_,e2,l2⟩|⟨q,_⟩⟩:=uA e
      ·exact⟨e2,l2,by lia⟩
      ·exfalso;rw[hd]at kO;have kO:=bS kO;subst kO;rcases h with h|h <;>rw[h]at q <;>exact absurd q (by decide)
    ·rw[lV,beq_eq_false_iff_ne,beq_eq_false_iff_ne]at h;refine⟨a,_,_,_,Z,Z,ai.of iU,bX (gu hk),be,fun t2 mT=>?_⟩;have fM:=aa.upd (o:=.tup [.str "have",.str "lack"]) mT;refine⟨t2,_,Z,.inr (bV.of ah),Z,Z,_,Z,?_⟩;refine dR (d:=k==aw "have"||k==aw "lack") (Dq (by decide) (by decide)) ?_;generalize upd H3 t2 (.tup [.str "have",.str "lack"])=H4 at*;have zX:=fM _ _ iU;have l6:=st.trans fM;refine bj (fun h'=>?_) (fun h'=>?_)
     ·rw[mC,beq_iff_eq,beq_iff_eq]at h';refine⟨r,l,a,ws,j,k,Z,hL.same (s2.trans l6),zX,hk,h',?_⟩;cases e:ek l (ws.drop j)with
      |none=>exact fun H5 s5=>⟨_,2,Z,l6.trans s5,Z⟩
      |some x=>
       refine fun H5 p s5 np hp=>⟨_,2,Z,l6.trans s5,p,Z,aa.free l6 np,hp,?_⟩
       obtain⟨k',kO,⟨q,_⟩|⟨_,e2,l2⟩⟩:=uA e
       ·exfalso;rw[hd]at kO;have kO:=bS kO;subst kO;exact q.elim h.1 h.2
       ·exact⟨e2,l2,by lia⟩
     ·rw[lV,beq_eq_false_iff_ne,beq_eq_false_iff_ne]at h';refine⟨_,0,Z,l6,?_⟩;rw[hd,JR h.1 h.2 h'.1 h'.2]
   ·rintro σ' H3 ⟨v4,n,rfl,s3,hc⟩;have pA:=s2.trans s3;cases e:ek l (ws.drop j)with
    |none=>
     rw[e]at hc;have hc:v4=.aC:=hc;subst hc;refine⟨Z,_,Z,cP (k0 ?_ H3 pA)⟩;rw[bO,Va (by rw[hd];simp) e];rfl
    |some x=>
     rw[e]at hc;obtain⟨p,rfl,np,hp,ex,hn,Vd⟩:=hc;rw[gj]at hn;have iD:=s3 _ _ cX;have al:=Paired.length hC;refine⟨Z,_,Z,cV ?_⟩;refine⟨.inl ⟨Z,_,ai.of iD⟩,p1,_,_,Z,Z,iD,(by rw[aB];show _<16777216;lia),?_⟩;refine⟨_,Z,_,_,Z,Z,ws.length-(j+n),by lia,_,_,j+n,as++[p],cs++[x.1],Z,Z,by lia,aa.bI pA n1,?_,by rw[ah,b9];rfl,?_,?_,?_⟩
     ·intro c m;rcases e_.mp m with m|m
      ·exact fr c m
      ·rw[cA.mp m];exact aa.free s2 np
     ·have up:∀b cd,eL A H3 b cd→eL A (upd H3 p1 (.lst (as.map V.ref++[V.ref p]))) b cd:=fun b cd ⟨d,q⟩=>⟨d,by rw[ao (cE q iD (by intro z;cases z))];exact q⟩
      exact nW (up _ _ hp) (cG (R:=eL A) (fun b cd q=>up b cd (q.same s3)) hC)
     ·rw[bT,jB];lia
     ·rw[bO,Vb e,ex,yl];cases gX l (ws.drop (j+n))with
      |none=>rfl
      |some y=>simp
  ·rw[eZ]at h;have e:j=ws.length:=by lia
   subst e;refine⟨_,_,_,as,cs,Z,s2,fr,cX,hC,cz,?_⟩;rw[bO,qw];show(some []).map _=_;simp
 ·rintro σ H2 ⟨v3,v4,v5,as,cs,rfl,s2,fr,cX,hC,cz,e⟩;exact(k1 cs e H2 p1 as s2 n1 fr cX hC cz)
abbrev eA:List Nat:=aw "go"
abbrev pL:List Nat:=aw "take"
def mp(l:aJ):List (List Nat)→Option (List Nat)
 |[]=>some []
 |w::r=>match fE l w,mp l r with
  |some c,some y=>some (c::y)
  |_,_=>none
def l7(l:aJ)(ws:List (List Nat)):Option (List Nat):=match ws with
 |[]=>some []
 |k::r=>if r=[]∨k≠pL then none else mp l r
theorem Ve:∀{ws}{t},mp l ws=some t→t.length=ws.length∧∀c∈t,c<l.caches.length
 |[],t,h=>by cases h;exact⟨Z,fun c m=>by cases m⟩
 |w::r,t,h=>by
  unfold mp at h;cases h1:fE l w with
  |none=>rw[h1]at h;cases h
  |some c=>
   cases h2:mp l r with
   |none=>rw[h1,h2]at h;cases h
   |some y=>
    rw[h1,h2]at h;cases h;have ih:=Ve h2;refine⟨by simp[ih.1],fun d m=>?_⟩;rcases b_.mp m with e|m
    ·subst e;unfold fE at h1;simp only at h1;split at h1
     ·cases h1;assumption
     ·cases h1
    ·exact ih.2 d m
theorem ako(h:l7 l ws=some t):t.length≤ws.length∧∀c∈t,c<l.caches.length:=by
 match ws,h with
 |[],h=>cases h;exact⟨a9 _,fun c m=>by cases m⟩
 |k::r,h=>
  unfold l7 at h;simp only at h;split at h
  ·cases h
  ·have:=Ve h;exact⟨by rw[this.1];simp,this.2⟩
theorem Vf(X:gr l){w:List Nat}(h:nT w=false):fE l w=none:=by
 unfold fE;simp only;split
 ·rename_i hi;exfalso;have hm:w∈l.caches.map fun c=>c.name:=IJ.mp (by rw[aB];exact hi);obtain⟨c,hc,e⟩:=mB.mp hm;rw[←e,X.zO c hc]at h;cases h
 ·rfl
theorem akp(X:gr l){w:List Nat}(h:nT w=false):bW l w=none:=by
 unfold bW;simp only;split
 ·rename_i hi;exfalso;rw[X.pname w (IJ.mp hi)]at h;cases h
 ·rfl
theorem Vg(X:gr l):fE l eA=none:=Vf X (by decide)
theorem Vh(X:gr l):fE l [58]=none:=Vf X (by decide)
theorem Vi(X:gr l)rest:∀{ns}{t},mp l ns=some t→rz l (ns++eA::rest)=some (t,rest)
 |[],t,h=>by
  cases h;show(if eA=eA then _ else _)=_;rw[if_pos Z]
 |w::r,t,h=>by
  unfold mp at h;cases h1:fE l w with
  |none=>rw[h1]at h;cases h
  |some c=>
   cases h2:mp l r with
   |none=>rw[h1,h2]at h;cases h
   |some y=>
    rw[h1,h2]at h;cases h;have hw:w≠eA:=fun e=>by rw[e,Vg X]at h1;cases h1
    show(if w=eA then _ else match fE l w with|none=>none|some c=>(rz l (r++eA::rest)).map fun(y:List Nat×List (List Nat))=>(c::y.1,y.2))=_;rw[if_neg hw,h1,Vi X rest h2];rfl
theorem Vj:∀{Y:List (List Nat)}{t}{rest:List (List Nat)},rz l Y=some (t,rest)→∃ns,Y=ns++eA::rest∧mp l ns=some t
 |[],t,rest,h=>by cases h
 |w::r,t,rest,h=>by
  change (if w=eA then some ([],r)else match fE l w with|none=>none|some c=>(rz l r).map fun(y:List Nat×List (List Nat))=>(c::y.1,y.2))=_ at h;by_cases hw:w=eA
  ·rw[if_pos hw]at h;cases h;exact⟨[],by rw[hw];rfl,Z⟩
  ·rw[if_neg hw]at h;cases h1:fE l w with
   |none=>rw[h1]at h;cases h
   |some c=>
    rw[h1]at h;obtain⟨y,h2,e⟩:=fP.mp h;obtain⟨ns,e1,e2⟩:=Vj (l:=l) (Y:=r) (t:=y.1) (rest:=y.2) h2;cases e;refine⟨w::ns,by rw[e1];rfl,?_⟩;unfold mp;rw[h1,e2]
def wZ(l:aJ)(B:List (List Nat)):Option (List Nat×Nat):=match B with
 |w::r2=>(match (if w=pL then(match r2 with|[]=>none|v::_=>if v=eA then none else rz l r2)else if w=eA then some ([],r2)else none)with
  |some (t,[q])=>(bW l q).map fun g=>(t,g)
  |_=>none)
 |[]=>none
def Vk(l:aJ)(B:List (List Nat))(x:List Nat×Nat):Prop:=∃tw q,B=tw++[eA,q]∧l7 l tw=some x.1∧bW l q=some x.2
theorem akq(X:gr l)B x:wZ l B=some x↔Vk l B x:=by
 constructor
 ·intro h
  match B,h with
  |w::r2,h=>
   unfold wZ at h;simp only at h;by_cases c1:w=pL
   ·rw[if_pos c1]at h
    match r2,h with
    |[],h=>cases h
    |v::r3,h=>
     simp only at h;by_cases c2:v=eA
     ·rw[if_pos c2]at h;cases h
     ·rw[if_neg c2]at h;cases h1:rz l (v::r3)with
      |none=>rw[h1]at h;cases h
      |some y=>
       obtain⟨t,rest⟩:=y;rw[h1]at h
       match rest,h,h1 with
       |[q],h,h1=>
        obtain⟨z,hz,e⟩:=fP.mp h;obtain⟨ns,e1,e2⟩:=Vj h1;cases e;have cU:ns≠[]:=fun z=>by rw[z]at e1;injection e1 with e1 _;exact c2 e1
        refine⟨w::ns,q,by rw[e1];rfl,?_,hz⟩;unfold l7;simp only;rw[if_neg (by
         rintro(q|q)
         ·exact cU q
         ·exact q c1)]
        exact e2
       |[],h,h1=>cases h
       |_::_::_,h,h1=>cases h
   ·rw[if_neg c1]at h;by_cases c2:w=eA
    ·rw[if_pos c2]at h
     match r2,h with
     |[q],h=>
      obtain⟨z,hz,e⟩:=fP.mp h;cases e;exact⟨[],q,by rw[c2];rfl,Z,hz⟩
     |[],h=>cases h
     |_::_::_,h=>cases h
    ·rw[if_neg c2]at h;cases h
 ·obtain⟨xt,xg⟩:=x;rintro⟨tw,q,rfl,h1,h2⟩
  match tw,h1 with
  |[],h1=>
   cases h1;have n1:¬eA=pL:=by decide
   unfold wZ;simp only[xX,n1, ↓reduceIte];rw[h2];rfl
  |k::r,h1=>
   unfold l7 at h1;simp only at h1;split at h1
   ·cases h1
   ·rename_i hn;have hr:r≠[]:=fun z=>hn (.inl z);have hk:k=pL:=aj0.mp fun z=>hn (.inr z)
    match r,hr,h1 with
    |v::r',_,h1=>
     have hv:v≠eA:=fun e=>by
      unfold mp at h1;rw[e,Vg X]at h1;cases h1
     have h3:=Vi X [q] h1;have h3:rz l (v::(r'++[eA,q]))=some (xt,[q]):=h3;unfold wZ;simp only[mD,hk,hv, ↓reduceIte,h3];rw[h2];rfl
def n_(l:aJ)(B:List (List Nat)):Option (List Nat×Nat):=if 2≤B.length∧B.getD (B.length-2) []=eA then(match l7 l (B.take (B.length-2)),bW l (B.getD (B.length-1) [])with
  |some t,some g=>some (t,g)
  |_,_=>none)else none
theorem akr{B:List (List Nat)}(h:2≤B.length):B=B.take (B.length-2)++[B.getD (B.length-2) [],B.getD (B.length-1) []]:=by
 have h1:B.length-2<B.length:=by lia
 have h2:B.length-1<B.length:=by lia
 have e1:=FZ h1;have e2:B.drop (B.length-2+1)=[B[B.length-1]]:=by
  rw[show B.length-2+1=B.length-1 by lia,FZ h2,show B.length-1+1=B.length by lia,qw]
 conv=>lhs;rw[←zY (B.length-2) B,e1,e2]
 rw[eS,eS,di h1,di h2];rfl
theorem Vl l B x:n_ l B=some x↔Vk l B x:=by
 unfold n_;constructor
 ·intro h;split at h
  ·rename_i hc;cases h1:l7 l (B.take (B.length-2))with
   |none=>rw[h1]at h;cases h
   |some t=>
    cases h2:bW l (B.getD (B.length-1) [])with
    |none=>rw[h1,h2]at h;cases h
    |some g=>
     rw[h1,h2]at h;cases h;refine⟨_,_,?_,h1,h2⟩
     conv=>lhs;rw[akr hc.1]
     rw[hc.2]
  ·cases h
 ·rintro⟨tw,q,rfl,h1,h2⟩;have e1:(tw++[eA,q]).length-2=tw.length:=by simp
  have e2:(tw++[eA,q]).length-1=tw.length+1:=by simp
  rw[e1,e2,show(tw++[eA,q]).getD tw.length []=eA by simp[eS],show(tw++[eA,q]).getD (tw.length+1) []=q by simp[eS],aks,if_pos ⟨by simp,Z⟩,h1,h2]
theorem back_eq(X:gr l)B:wZ l B=n_ l B:=Option.ext fun x=>(akq X B x).trans (Vl l B x).symm
theorem akt{D:List (List Nat)}{x:jR×List (List Nat)}(h:ek l D=some x)(Y:List (List Nat)):ek l (D++Y)=some (x.1,x.2++Y):=by
 obtain⟨k,hk,q⟩:=uA h
 match D,h,hk with
 |k'::D,h,hk=>
  cases hk;rw[mD];rcases q with⟨q|q,e,hl⟩|⟨q|q,e,hl⟩
  ·subst q;rw[zR]at h ⊢
   match D,h with
   |o::n::r2,h=>
    simp only[mD]at h ⊢;split at h
    ·rename_i c;rw[if_pos c];obtain⟨m,e1,e2⟩:=fP.mp h;rw[e1,←e2];rfl
    ·rename_i c;rw[if_neg c];split at h
     ·rename_i c2;rw[if_pos c2];obtain⟨m,e1,e2⟩:=fP.mp h;rw[e1,←e2];rfl
     ·cases h
  ·subst q;rw[zS]at h ⊢
   match D,h with
   |o::n::r2,h=>
    simp only[mD]at h ⊢;split at h
    ·rename_i c;rw[if_pos c];obtain⟨m,e1,e2⟩:=fP.mp h;rw[e1,←e2];rfl
    ·rename_i c;rw[if_neg c];split at h
     ·rename_i c2;rw[if_pos c2];obtain⟨m,e1,e2⟩:=fP.mp h;rw[e1,←e2];rfl
     ·cases h
  ·subst q;rw[zT]at h ⊢
   match D,h with
   |o::r2,h=>
    obtain⟨m,e1,e2⟩:=fP.mp h;simp only[mD];rw[e1,←e2];rfl
  ·subst q;rw[zU]at h ⊢
   match D,h with
   |o::r2,h=>
    obtain⟨m,e1,e2⟩:=fP.mp h;simp only[mD];rw[e1,←e2];rfl
theorem Vm m:cB m [58]=none:=by
 unfold cB;rw[if_neg (by decide)]
theorem aku(X:gr l){D:List (List Nat)}(h0:D≠[])(h:ek l D=none)(B:List (List Nat)):ek l (D++[58]::B)=none:=by
 match D,h0,h with
 |k::D,_,h=>
  rw[mD];by_cases c1:k=aw "food"
  ·subst c1;rw[zR]at h ⊢
   match D,h with
   |[],h=>
    match B with
    |[]=>rfl
    |n::r=>
     show(if[58]=aw ">=" then _ else if[58]=aw "<" then _ else none)=none;rw[if_neg (by decide),if_neg (by decide)]
   |[o],h=>
    show(if o=aw ">=" then(cB 60 [58]).map _ else if o=aw "<" then(cB 60 [58]).map _ else none)=none;rw[Vm];simp
   |o::n::r2,h=>
    simp only[mD]at h ⊢;split at h
    ·rename_i c;rw[if_pos c];rw[zZ]at h ⊢;exact h
    ·rename_i c;rw[if_neg c];split at h
     ·rename_i c2;rw[if_pos c2];rw[zZ]at h ⊢;exact h
     ·rename_i c2;rw[if_neg c2]
  ·by_cases c2:k=aw "storms"
   ·subst c2;rw[zS]at h ⊢
    match D,h with
    |[],h=>
     match B with
     |[]=>rfl
     |n::r=>
      show(if[58]=aw ">=" then _ else if[58]=aw "<" then _ else none)=none;rw[if_neg (by decide),if_neg (by decide)]
    |[o],h=>
     show(if o=aw ">=" then(cB 8 [58]).map _ else if o=aw "<" then(cB 8 [58]).map _ else none)=none;rw[Vm];simp
    |o::n::r2,h=>
     simp only[mD]at h ⊢;split at h
     ·rename_i c;rw[if_pos c];rw[zZ]at h ⊢;exact h
     ·rename_i c;rw[if_neg c];split at h
      ·rename_i c2;rw[if_pos c2];rw[zZ]at h ⊢;exact h
      ·rename_i c2;rw[if_neg c2]
   ·by_cases c3:k=aw "have"
    ·subst c3;rw[zT]at h ⊢
     match D,h with
     |[],h=>
      show(fE l [58]).map _=none;rw[Vh X];rfl
     |o::r2,h=>
      simp only[mD]at h ⊢;rw[zZ]at h ⊢;exact h
    ·by_cases c4:k=aw "lack"
     ·subst c4;rw[zU]at h ⊢
      match D,h with
      |[],h=>
       show(fE l [58]).map _=none;rw[Vh X];rfl
      |o::r2,h=>
       simp only[mD]at h ⊢;rw[zZ]at h ⊢;exact h
     ·exact JR c1 c2 c3 c4 _
theorem Vn(X:gr l)(B:List (List Nat)):∀f (cw:List (List Nat)),cw.length<f→[58]∉cw→rA l f (cw++[58]::B)=(gX l cw).map fun y=>(y,B)
 |0,_,h,_=>absurd h (mH _)
 |f+1,[],_,_=>by
  unfold rA;simp only[xX, ↓reduceIte];rfl
 |f+1,w::r,hl,hn=>by
  have hw:w≠[58]:=fun e=>hn (by rw[e];exact cI);show(if w=[58]then _ else match ek l ((w::r)++[58]::B)with|none=>none|some x=>(rA l f x.2).map fun(y:List jR×List (List Nat))=>(x.1::y.1,y.2))=_;rw[if_neg hw];cases e:ek l (w::r)with
  |none=>rw[aku X (by simp) e,Va (by simp) e];rfl
  |some x=>
   have hs:=Dr e;rw[akt e,Vb e];show(rA l f (x.2++[58]::B)).map _=_;rw[Vn X B f x.2 (by simp only[b6]at hl hs;lia) (fun m=>by
    obtain⟨k,_,⟨_,e2,_⟩|⟨_,e2,_⟩⟩:=uA e <;>(rw[e2]at m;exact hn (Vo m)))]
   cases gX l x.2 <;>rfl
theorem Vp:∀f (ws:List (List Nat)),[58]∉ws→rA l f ws=none
 |0,_,_=>rfl
 |f+1,[],_=>rfl
 |f+1,w::r,hn=>by
  have hw:w≠[58]:=fun e=>hn (by rw[e];exact cI);show(if w=[58]then _ else match ek l (w::r)with|none=>none|some x=>(rA l f x.2).map fun(y:List jR×List (List Nat))=>(x.1::y.1,y.2))=_;rw[if_neg hw];cases e:ek l (w::r)with
  |none=>rfl
  |some x=>
   show(rA l f x.2).map _=_;rw[Vp f x.2 (fun m=>by
    obtain⟨k,_,⟨_,e2,_⟩|⟨_,e2,_⟩⟩:=uA e <;>(rw[e2]at m;exact hn (Vo m)))];rfl
def JS(l:aJ)(F B:List (List Nat)):Option k9:=match F with
 |k::n::cw=>if k=aw "at" then(match bW l n,gX l cw,n_ l B with
  |some p,some c,some x=>some {place:=p,conds:=c,take:=x.1,go:=x.2}
  |_,_,_=>none)else none
 |_=>none
def oe(l:aJ)(ws:List (List Nat)):Option k9:=if ws.contains [58]=true then JS l (ws.take (ws.idxOf [58])) (ws.drop (ws.idxOf [58]+1))else none
theorem akv(h:ws.contains [58]=true):ws=ws.take (ws.idxOf [58])++[58]::ws.drop (ws.idxOf [58]+1)∧[58]∉ws.take (ws.idxOf [58]):=by
 have hm:=zf.mp h;have hi:=SG hm;refine⟨?_,fun m=>?_⟩
 ·conv=>lhs;rw[←zY (ws.idxOf [58]) ws,FZ hi,SH hi]
 ·obtain⟨i,tY⟩:=wF m;have hl:=(du.mp tY).1;rw[eW]at hl;rw[ZN (by lia)]at tY;exact CF (by lia) tY Z
theorem akw(X:gr l){ws:List (List Nat)}(h0:ws≠[]):akx l ws=(oe l ws).map some:=by
 unfold oe;cases hc:ws.contains [58]with
 |false=>
  rw[if_neg cb];have hn:[58]∉ws:=fun m=>by rw[zf.mpr m]at hc;cases hc
  match ws,h0 with
  |[k],_=>rfl
  |k::n::r,_=>
   show(if k=aw "at" then _ else none)=none;split
   ·rw[Vp _ r (fun m=>hn (c_ _ (c_ _ m)))];cases bW l n <;>rfl
   ·rfl
 |true=>
  rw[if_pos Z];obtain⟨e,hn⟩:=akv hc;generalize ws.take (ws.idxOf [58])=F at*;generalize ws.drop (ws.idxOf [58]+1)=B at*;subst e
  match F,hn with
  |[],_=>
   match B with
   |[]=>rfl
   |n::r=>
    unfold akx;simp only[xX];rw[if_neg (by decide)];rfl
  |[k],_=>
   show(if k=aw "at" then(match bW l [58],rA l (B.length+1) B with|some p,some c=>_|_,_=>none)else none)=none;rw[akp X (show nT [58]=false by decide)];simp
  |k::n::cw,hn=>
   have Ed:[58]∉cw:=fun m=>hn (c_ _ (c_ _ m));show(if k=aw "at" then(match bW l n,rA l ((cw++[58]::B).length+1) (cw++[58]::B)with
    |some p,some c=>(match c.2 with
     |w::r2=>(match (if w=pL then(match r2 with|[]=>none|v::_=>if v=eA then none else rz l r2)else if w=eA then some ([],r2)else none)with
      |some (t,[q])=>(bW l q).map fun g=>some ({place:=p,conds:=c.1,take:=t,go:=g}:k9)
      |_=>none)
     |[]=>none)
    |_,_=>none)else none)=_
   rw[Vn X B _ cw (by rw[bT];lia) Ed];show _=(if k=aw "at" then(match bW l n,gX l cw,n_ l B with
    |some p,some c,some x=>some ({place:=p,conds:=c,take:=x.1,go:=x.2}:k9)
    |_,_,_=>none)else none).map some
   by_cases ck:k=aw "at"
   ·rw[if_pos ck,if_pos ck,←back_eq X];cases bW l n with
    |none=>rfl
    |some p=>
     cases gX l cw with
     |none=>rfl
     |some c=>
      unfold wZ
      match B with
      |[]=>rfl
      |w::r2=>
       simp only[i_];generalize (if w=pL then(match r2 with|[]=>none|v::_=>if v=eA then none else rz l r2)else if w=eA then some ([],r2)else none)=more
       match more with
       |none=>rfl
       |some (t,[])=>rfl
       |some (t,[q])=>
        cases hq:bW l q with
        |none=>simp[hq]
        |some z=>simp[hq]
       |some (t,_::_::_)=>rfl
   ·rw[if_neg ck,if_neg ck];rfl
theorem JT{i:Nat}(h:i≤xs.length):iM xs (some (i:Int)) none=xs.drop i:=by
 unfold iM;rw[HT.AS,HT.EQ,Ds h];exact A2 (by rw[gj];exact a9 _)
theorem aky{i:Nat}(h:i≤xs.length):iM xs none (some (i:Int))=xs.take i:=by
 unfold iM;rw[HT.EQ,HT.AS,Ds h,vT,JU]
theorem akz(h:2≤xs.length):iM xs none (some (-2))=xs.take (xs.length-2):=by
 unfold iM;rw[HT.EQ,vT];have e:HT.bH xs.length xs.length (some (-2))=xs.length-2:=by
  unfold HT.bH;simp only;rw[if_pos (by decide)]
  lia
 rw[e,JU]
theorem Vq{α:Type}{xs:List α}{v:α}(h0:0<k)(hk:k≤xs.length)(h:xs[xs.length-k]?=some v):j4 xs (-(k:Int))=some v:=by
 have e:lI xs.length (-(k:Int))=some (xs.length-k):=by
  unfold lI;rw[if_neg (by lia),if_pos (by lia)];congr 1
  lia
 unfold j4;rw[e];exact h
theorem JW ws i:(bA ws).drop i=bA (ws.drop i):=by unfold bA;rw[akA]
theorem Vr ws i:(bA ws).take i=bA (ws.take i):=by unfold bA;rw[akB]
theorem akC(L:List (Option Nat)):(L.map ov).all i6=true:=by
 rw[sO,jC];intro x _;cases x <;>rfl
theorem Vs l:∀ws:List (List Nat),gC .aC ((ws.map (fE l)).map ov)=(mp l ws).isNone∧∀t,mp l ws=some t→(ws.map (fE l)).map ov=nats t
 |[]=>⟨Z,fun t h=>by cases h;rfl⟩
 |w::r=>by
  have ih:=Vs l r;unfold gC at ih ⊢;unfold mp;rw[dw,dw,mv,ih.1];cases h1:fE l w with
  |none=>exact⟨Z,fun t h=>by cases h⟩
  |some c=>
   cases h2:mp l r with
   |none=>exact⟨Z,fun t h=>by cases h⟩
   |some y=>
    refine⟨Z,fun t h=>?_⟩;cases h;rw[ih.2 y h2];rfl
inductive Vt(A:aR)(vs:List V)(H:Hp)(Q:VK)(E:XK):Prop
 |mk:∀(r:LA) (l:aJ) (a:ae) (ws:List (List Nat)),vs=[.ref r.a,.ref a]→bq A H r l→H a=some (.lst (bA ws))→ws.length≤3000→(l7 l ws=none→∀H',aa H H'→Q .aC H')→(∀t,l7 l ws=some t→∀H' p,aa H H'→H p=none→H' p=some (.lst (nats t))→Q (.ref p) H')→Vt A vs H Q E
theorem akD(T:Txt K mg A):T.Hz.Ok P w mg base 2 (Vt A):=by
 refine T.Hz.go GR fun _ _ _ _ H _ Q E hr h=>?_;obtain⟨r,l,a,ws,rfl,hL,hw,hlen,k0,k1⟩:=h;refine⟨_,(af (aV (aL cO (cT T.cH (pv 1)) aH) (ak (ax (bi gA))) aW) (af (aV (fk (PW.pt (eO (aL cO (cT T.cH (pv 1)) aH) (gz (aL kM (bM cF (pv 1) aH) bG))))) (ak (ax bp)) aW) (af (Fv (i:=2) Z GR.nd Z Z (Fw Z Z Z (by decide+kernel)) (fL (sG vB (pv 1) (qk aH) vq)) (hZ (N:=["land","words","caches","word"]) (sc:=aG GB) (own:=[("word",3)]) (by decide+kernel)) (fun _ _ _ _ _=>(bY 3 GR)) (fun _ _ _ _ _=>j6) (fun _ _ _ _ _=>(aI (IK T) hr T.yS (aX (pv 0) (pv 3))))) (af (aV (oE vD bp (pv 2) (by rfl)) (ak (ax bp)) aW) (ak (ax (pv 2))))))),?_⟩
 try dsimp only[aO,Cx.aQ]
 match ws,hw,hlen,k0,k1 with
 |[],hw,hlen,k0,k1=>
  refine⟨_,_,Z,.inl (ai.of hw),Z,_,Z,cP ?_⟩;exact⟨bu _,fun p np=>k1 [] rfl _ p (aa.upd np) np ah⟩
 |k::ws,hw,hlen,k0,k1=>
  have hk:(k::ws)[0]?=some k:=Z;refine⟨_,_,Z,.inl (ai.of hw),Z,_,Z,?_⟩;refine dR (d:=false) (decide_eq_false (by rw[eZ];intro z;injection z with z;simp at z;lia)) (cV ?_);refine⟨decide (ws=[]∨k≠pL),fun Q' q=>?_,fun H1 s1=>?_⟩
  ·refine⟨_,_,Z,.inl (ai.of hw),Z,_,Z,?_⟩;refine bK (fun h=>?_) (fun h=>?_)
   ·rw[eZ]at h;have e:ws=[]:=by injection h with h;exact akE.mp (by simp at h;lia)
    rw[decide_eq_true (j7 e)]at q;exact q H (aa.refl _)
   ·have cU:ws≠[]:=fun e=>h (by rw[e];rfl);refine⟨a,_,_,_,Z,Z,ai.of hw,bX (j:=0) (gu hk),Z,_,Z,?_⟩;have e:(!decide (V.str (wd k)=V.str (aZ "take")))=decide (ws=[]∨k≠pL):=by
     rw[mP (by decide),←decide_not];exact decide_eq_decide.mpr ⟨.inr,fun z=>z.elim (fun e=>absurd e cU) id⟩
    exact e▸q H (aa.refl _)
  ·have fT:=s1 _ _ hw;refine bK (fun h=>?_) (fun h=>?_)
   ·refine k0 ?_ H1 s1;unfold l7;exact if_pos h
   ·have et:l7 l (k::ws)=mp l ws:=if_neg h;rw[et]at k0 k1;refine⟨_,Z,a,_,Z,ai.of fT,fun p np=>⟨p,Z,⟨_,ai.of ah⟩,fun D nD=>?_⟩⟩;have ec:iM (bA (k::ws)) (some 1) none=bA ws:=by
     have:=JT (xs:=bA (k::ws)) (i:=1) (by rw[eZ];simp);rw[JW]at this;exact this
    rw[ec]at nD ⊢;have s2:aa H (upd H1 p (.lst (bA ws))):=aa.bI s1 (aa.free s1 np);have cX:(upd H1 p (.lst (bA ws))) p=some (.lst (bA ws)):=ah;generalize upd H1 p (.lst (bA ws))=H2 at*;have km:=aa.free s2 nD;have ie:D≠p:=fun e=>by subst e;rw[cX]at nD;cases nD
    refine ny (K:=K) (a:=p) (xs:=bA ws) (fun i H3=>aa H H3∧H3 p=some (.lst (bA ws))∧H3 D=some (.lst (((ws.take i).map (fE l)).map ov)))
     ⟨aa.bI s2 km,by rw[ao ie.symm];exact cX,ah⟩ (fun i H3 _ q=>ai.of q.2.1) ?_ ?_
    ·rintro i y H3 hi ⟨s3,li,h3⟩;obtain⟨v,hv,rfl⟩:=cY hi;have oR:=(du.mp hv).1;simp only[b6]at hlen;refine⟨Z,r,l,v,Z,hL.same s3,fun H4 s4=>?_⟩;refine⟨_,s4 _ _ h3,?_,aa.bI (s3.trans s4) km,by rw[ao ie.symm];exact s4 _ _ li,?_⟩
     ·rw[aB,aB,eW];show _<16777216;lia
     ·rw[ah,gT hv,b9,b9];rfl
    ·rintro H3 ⟨s3,li,h3⟩;rw[eZ,fD]at h3;have hm:=Vs l ws;refine⟨D,_,Z,.inl (ai.of h3),Z,akC _,_,Z,?_⟩;refine dR (d:=(mp l ws).isNone) hm.1 ?_;refine bj (fun h=>?_) (fun h=>?_)
     ·exact k0 (zi.mp h) H3 s3
     ·cases e:mp l ws with
      |none=>rw[e]at h;cases h
      |some t=>
       rw[hm.2 t e]at h3;exact(k1 t e H3 D s3 km h3)
theorem Vu ws:(bA ws).all i6=true:=by
 unfold bA;rw[sO,jC];intro x _;rfl
theorem JX v:(wd v==aZ ":")=(v==[58]):=by
 rw[iJ,beq_iff_eq,beq_iff_eq,ig];exact tX (k:=[58]) (by decide)
theorem akF ws:gC (.str (aZ ":")) (bA ws)=ws.contains [58]:=by
 induction ws with
 |nil=>rfl
 |cons w r ih=>
  unfold gC bA at ih ⊢;rw[dw,mv,ih,wA];congr 1;show(wd w==aZ ":")=_;rw[JX,iJ,beq_iff_eq,beq_iff_eq,eq_comm]
theorem Words.sub(h:Words ws)(k:∀v,v∈vs→v∈ws):Words vs:=fun v m=>h v (k v m)
theorem Vv(a b:List Nat):decide (a=b)=(a==b):=by rw[iJ,decide_eq_true_eq,beq_iff_eq]
def good2(F B:List (List Nat)):Bool:=decide (2≤F.length)&&(F.getD 0 []==aw "at"&&(decide (2≤B.length)&&B.getD (B.length-2) []==eA))
def Vw(A:aR)(H:Hp)(Q:VK):Option k9→Prop
 |none=>∀H',aa H H'→Q .aC H'
 |some x=>∀H' u,aa H H'→H u.a=none→H u.lc=none→H u.lk=none→(∀c,c∈u.cs→H c=none)→Dk A H' u x→Q (.ref u.a) H'
inductive Vx(A:aR)(vs:List V)(H:Hp)(Q:VK)(E:XK):Prop
 |mk:∀(r:LA) (l:aJ) (a:ae) (ws:List (List Nat)),vs=[.ref r.a,.ref a]→bq A H r l→H a=some (.lst (bA ws))→Words ws→ws.length≤3000→Vw A H Q (oe l ws)→Vx A vs H Q E
theorem akG(T:Txt K mg A):T.HC.Ok P w mg base 5 (Vx A):=by
 refine T.HC.go qE fun _ _ _ _ H _ Q E hr h=>?_;obtain⟨r,l,a,ws,rfl,hL,hw,hW,hlen,k⟩:=h;refine⟨_,(af (aV (oE EZ bG (pv 1) (by rfl)) (ak (ax bp)) aW) (af (aE 2 qE (d4 PySem.F.plainAttrs_list PySem.F.slot_list_index PySem.F.type_list_index MC (pv 1) (aF bG))) (af (aE 3 qE (sG vB (pv 1) vq (qk (pv 2)))) (af (aE 4 qE (sG vB (pv 1) (qk (br dX (pv 2) aH)) vq)) (af (aV (fk (PW.pt (eO (aL jz (cT T.cH (pv 3)) aH) (eO (aL kM (bM cF (pv 3) aH) bG) (eO (aL jz (cT T.cH (pv 4)) aH) (gz (aL kM (bM cF (pv 4) (jZ j0 aH)) bG))))))) (ak (ax bp)) aW) (af (aE 5 qE (aI (wD T) hr T.qG (aX (pv 0) (bM cF (pv 3) aH)))) (af (cJ<|aE 6 qE (aI (akn T) hr T.Hy (aX (pv 0) (sG vB (pv 3) (qk aH) vq)))) (af (cJ<|aE 7 qE (aI (akD T) hr T.Hz (aX (pv 0) (sG vB (pv 4) vq (qk (jZ j0 aH)))))) (af (aE 8 qE (aI (wD T) hr T.qG (aX (pv 0) (bM cF (pv 4) (jZ j0 aH))))) (af (aV (fk (PW.pt (eO (aL de (pv 5) bp) (eO (aL de (pv 6) bp) (eO (aL de (pv 7) bp) (gz (aL de (pv 8) bp))))))) (ak (ax bp)) aW) (ak (ax (gk (aiI T) hr T.ahT T.Hu (c8 (pv 5) (pv 6) (pv 7) (pv 8))))))))))))))),?_⟩
 try dsimp only[aO,Cx.aQ]
 refine⟨a,_,Z,.inl (ai.of hw),Z,Vu _,_,Z,?_⟩;refine dR (d:= !ws.contains [58]) (by show(!gC _ _)=_;rw[akF]) ?_;unfold oe at k;cases hc:ws.contains [58]with
 |false=>
  rw[hc,if_neg cb]at k;exact cP (k H (aa.refl _))
 |true=>
  rw[hc,if_pos Z]at k;have hm:=zf.mp hc;have hi:=SG hm;have hg:ws[ws.idxOf [58]]?=some [58]:=by rw[di hi,SH hi]
  refine cV ?_;refine⟨.inl ⟨Z,_,ai.of hw⟩,a,_,_,ws.idxOf [58],_,Z,Z,ai.of hw,Z,Vu _,gu hg,?_,?_,?_⟩
  ·show(wd [58]==aZ ":")=true;rw[JX];rfl
  ·intro m z' II vJ;obtain⟨y,hy,rfl⟩:=cY vJ;have ne:=CF II hy;show(wd y==aZ ":")=false;rw[JX,beq_eq_false_iff_ne];exact fun q=>ne q
  generalize ws.idxOf [58]=j at*;refine⟨_,Z,a,_,Z,ai.of hw,fun pf nf=>?_⟩;rw[aky (by rw[eZ];lia),Vr];have sf:aa H (upd H pf (.lst (bA (ws.take j)))):=aa.upd nf;have hf:(upd H pf (.lst (bA (ws.take j)))) pf=some (.lst (bA (ws.take j))):=ah;generalize upd H pf (.lst (bA (ws.take j)))=H1 at*;refine⟨_,_,Z,Z,(((j+1:Nat)):Int),by rw[show((j+1:Nat):Int)=(j:Int)+1 by lia],a,_,Z,ai.of (sf _ _ hw),fun pb nb=>?_⟩;rw[JT (by rw[eZ];lia),JW];have sb:aa H1 (upd H1 pb (.lst (bA (ws.drop (j+1))))):=aa.upd nb;have hb:(upd H1 pb (.lst (bA (ws.drop (j+1))))) pb=some (.lst (bA (ws.drop (j+1)))):=ah;generalize upd H1 pb (.lst (bA (ws.drop (j+1))))=H2 at*;have s2:=sf.trans sb;have z4:=sb _ _ hf;have WF:Words (ws.take j):=hW.sub fun v m=>List.mem_of_mem_take m;have WB:Words (ws.drop (j+1)):=hW.sub fun v m=>Vo m;have lF:(ws.take j).length≤3000:=by rw[eW];lia
  have lB:(ws.drop (j+1)).length≤3000:=by rw[gj];lia
  generalize ws.take j=F at*;generalize ws.drop (j+1)=B at*;refine⟨!good2 F B,fun Q' q=>?_,fun H3 s3=>?_⟩
  ·have q0:good2 F B=false→Q' true H2:=fun e=>by have:=q H2 (aa.refl _);rw[e]at this;exact this
   refine⟨_,_,Z,.inl (ai.of z4),_,_,Z,Z,_,Z,?_⟩;refine bK (fun h=>?_) (fun h=>?_)
   ·rw[eZ]at h;exact q0 (by show(decide (2≤F.length)&&_)=false;rw[decide_eq_false (by lia)];rfl)
   ·rw[eZ]at h;have h2:2≤F.length:=by lia
    obtain⟨f0,Vy⟩:∃v,F[0]?=some v:=⟨_,di (by lia)⟩
    have e0:F.getD 0 []=f0:=by rw[eS,Vy];rfl
    refine⟨pf,_,_,_,Z,Z,ai.of z4,bX (j:=0) (gu Vy),Z,_,Z,?_⟩;refine dR (d:= !(F.getD 0 []==aw "at")) (by rw[mP (by decide),e0,Vv]) ?_;refine bj (fun h=>?_) (fun h=>?_)
    ·rw[h8]at h;exact q0 (by show(decide (2≤F.length)&&(F.getD 0 []==aw "at"&&_))=false;rw[h];simp)
    ·rw[gU]at h;refine⟨_,_,Z,.inl (ai.of hb),_,_,Z,Z,_,Z,?_⟩;refine bK (fun h=>?_) (fun hB=>?_)
     ·rw[eZ]at h;exact q0 (by show(decide (2≤F.length)&&(_&&(decide (2≤B.length)&&_)))=false;rw[decide_eq_false (show ¬2≤B.length by lia)];simp)
     ·rw[eZ]at hB;have z5:2≤B.length:=by lia
      obtain⟨b2,Vz⟩:∃v,B[B.length-2]?=some v:=⟨_,di (by lia)⟩
      have e2:B.getD (B.length-2) []=b2:=by rw[eS,Vz];rfl
      refine⟨_,Z,pb,_,_,_,Z,Z,ai.of hb,Vq (k:=2) (by decide) (by rw[eZ];exact z5) (by rw[eZ];exact gu Vz),Z,_,Z,?_⟩;have eg:(!decide (V.str (wd b2)=V.str (aZ "go")))= !good2 F B:=by
       congr 1;rw[mP (by decide)];show _=(decide (2≤F.length)&&(F.getD 0 []==aw "at"&&(decide (2≤B.length)&&B.getD (B.length-2) []==eA)));rw[h,e2,decide_eq_true h2,decide_eq_true z5,Vv];rfl
      exact eg▸q H2 (aa.refl _)
  ·have gK:=s2.trans s3;refine bj (fun h=>?_) (fun h=>?_)
   ·have e:JS l F B=none:=by
     have h:good2 F B=false:=by rw[h8]at h;exact h
     match F,h with
     |[],_=>rfl
     |[_],_=>rfl
     |kk::n::cw,h=>
      show(if kk=aw "at" then _ else none)=none;split
      ·rename_i ck;have hp:n_ l B=none:=by
        unfold n_;rw[if_neg];rintro⟨c1,c2⟩;have:good2 (kk::n::cw) B=true:=by
         show(decide (2≤(kk::n::cw).length)&&((kk::n::cw).getD 0 []==aw "at"&&(decide (2≤B.length)&&B.getD (B.length-2) []==eA)))=true;rw[c2,decide_eq_true c1,ck];simp
        rw[this]at h;cases h
       rw[hp];cases bW l n <;>cases gX l cw <;>rfl
      ·rfl
    rw[e]at k;exact k H3 gK
   ·have h:good2 F B=true:=by rw[gU]at h;exact h
    have h':=h;change (decide (2≤F.length)&&(F.getD 0 []==aw "at"&&(decide (2≤B.length)&&B.getD (B.length-2) []==eA)))=true at h';rw[dA,dA,dA,decide_eq_true_eq,decide_eq_true_eq,beq_iff_eq,beq_iff_eq]at h';obtain⟨VA,z6,z5,ze⟩:=h'
    match F,VA,z6,z4,WF,lF,k with
    |kk::n::cw,VA,z6,z4,WF,lF,k=>
     have z6:kk=aw "at":=z6;have VB:=s3 _ _ z4;have hb3:=s3 _ _ hb;change Vw A H Q (if kk=aw "at" then(match bW l n,gX l cw,n_ l B with
      |some p,some c,some x=>some {place:=p,conds:=c,take:=x.1,go:=x.2}
      |_,_,_=>none)else none)at k
     rw[if_pos z6]at k;unfold n_ at k;rw[if_pos ⟨z5,ze⟩]at k;obtain⟨b1,VC⟩:∃v,B[B.length-1]?=some v:=⟨_,di (by lia)⟩
     have e1:B.getD (B.length-1) []=b1:=by rw[eS,VC];rfl
     rw[e1]at k;refine⟨pf,_,_,_,Z,Z,ai.of VB,bX (j:=1) (gu (i:=1) Z),r,l,n,Z,hL.same gK,?_⟩;refine⟨fun(σ:L2.St) H5=>∃(oc:Option (List jR)) (vc:V),σ=[some (.ref r.a),some (.ref a),some (.int (j:Nat)),some (.ref pf),some (.ref pb),some (ov (bW l n)),some vc,none,none]∧gX l cw=oc∧aa H3 H5∧(match oc with|none=>vc=.aC|some c=>∃p as,vc=.ref p∧H p=none∧(∀x,x∈as→H x=none)∧H5 p=some (.lst (as.map V.ref))∧Paired (eL A H5) as c),?_,?_⟩
     ·refine⟨_,Z,pf,_,Z,ai.of VB,fun pc nc=>?_⟩;have ec:iM (bA (kk::n::cw)) (some 2) none=bA cw:=by
       have:=JT (xs:=bA (kk::n::cw)) (i:=2) (by rw[eZ];simp);rw[JW]at this;exact this
      rw[ec];have s4:aa H3 (upd H3 pc (.lst (bA cw))):=aa.upd nc;have hpc:(upd H3 pc (.lst (bA cw))) pc=some (.lst (bA cw)):=ah;generalize upd H3 pc (.lst (bA cw))=H4 at*;have rB:=gK.trans s4;have Wc:Words cw:=WF.sub fun v m=>c_ _ (c_ _ m);exact⟨r,l,pc,cw,Z,hL.same rB,hpc,Wc,by simp only[b6]at lF;lia,fun e H5 s5=>⟨none,.aC,Z,e,s4.trans s5,Z⟩,fun c e H5 p as s5 np zo hp hC _=>⟨some c,.ref p,Z,e,s4.trans s5,p,as,Z,aa.free rB np,fun x m=>aa.free rB (zo x m),hp,hC⟩⟩
     rintro σ H5 ⟨oc,vc,rfl,eoc,pM,uX⟩;have z7:=gK.trans pM;have VD:=pM _ _ hb3;refine⟨fun(σ:L2.St) H7=>∃(ot:Option (List Nat)) (vt:V),σ=[some (.ref r.a),some (.ref a),some (.int (j:Nat)),some (.ref pf),some (.ref pb),some (ov (bW l n)),some vc,some vt,none]∧l7 l (B.take (B.length-2))=ot∧aa H5 H7∧(match ot with|none=>vt=.aC|some t=>∃p,vt=.ref p∧H p=none∧H7 p=some (.lst (nats t))),?_,?_⟩
     ·refine⟨_,Z,_,Z,pb,_,Z,ai.of VD,fun pt nt=>?_⟩;rw[akz (by rw[eZ];exact z5),eZ,Vr];have s6:aa H5 (upd H5 pt (.lst (bA (B.take (B.length-2))))):=aa.upd nt;have JY:(upd H5 pt (.lst (bA (B.take (B.length-2))))) pt=some (.lst (bA (B.take (B.length-2)))):=ah;generalize upd H5 pt (.lst (bA (B.take (B.length-2))))=H6 at*;have w6:=z7.trans s6;exact⟨r,l,pt,_,Z,hL.same w6,JY,by rw[eW];lia,fun e H7 s7=>⟨none,.aC,Z,e,s6.trans s7,Z⟩,fun t e H7 p s7 np hp=>⟨some t,.ref p,Z,e,s6.trans s7,p,Z,aa.free w6 np,hp⟩⟩
     rintro σ H7 ⟨ot,vt,rfl,eot,l3,JZ⟩;have VE:=z7.trans l3;have hb7:=l3 _ _ VD;refine⟨_,Z,pb,_,_,_,Z,Z,ai.of hb7,Vq (k:=1) (by decide) (by rw[eZ];lia) (by rw[eZ];exact gu VC),r,l,b1,Z,hL.same VE,?_⟩;rw[eoc,eot]at k;refine⟨(bW l n).isNone||(oc.isNone||(ot.isNone||(bW l b1).isNone)),fun Q' q=>?_,fun H8 s8=>?_⟩
     ·have q:=q H7 (aa.refl _);refine⟨Z,_,Z,?_⟩;rw[kg];refine bj (fun h=>?_) (fun h=>?_)
      ·rw[h]at q;exact q
      ·rw[h,gE]at q;refine⟨Z,_,Z,?_⟩;have ec:decide (vc=V.aC)=oc.isNone:=by
        cases oc with
        |none=>rw[show vc=.aC from uX];rfl
        |some c=>obtain⟨p,as,e,_⟩:=uX;rw[e];rfl
       rw[ec];refine bj (fun h=>?_) (fun h=>?_)
       ·rw[h]at q;exact q
       ·rw[h,gE]at q;refine⟨Z,_,Z,?_⟩;have et:decide (vt=V.aC)=ot.isNone:=by
         cases ot with
         |none=>rw[show vt=.aC from JZ];rfl
         |some c=>obtain⟨p,e,_⟩:=JZ;rw[e];rfl
        rw[et];refine bj (fun h=>?_) (fun h=>?_)
        ·rw[h]at q;exact q
        ·rw[h,gE]at q;refine⟨Z,_,Z,?_⟩;rw[kg];exact q
     ·have w8:=VE.trans s8;cases h1:bW l n with
      |none=>
       rw[h1]at k;exact cP (k H8 w8)
      |some pl=>
       cases oc with
       |none=>
        rw[h1]at k;exact cP (k H8 w8)
       |some c=>
        cases ot with
        |none=>
         rw[h1]at k;exact cP (k H8 w8)
        |some t=>
         cases h2:bW l b1 with
         |none=>
          rw[h1,h2]at k;exact cP (k H8 w8)
         |some g=>
          rw[h1,h2]at k;obtain⟨p,as,rfl,np,zo,hp,hC⟩:=uX;obtain⟨p2,rfl,rC,cX⟩:=JZ;refine cV ?_;refine(fun z dz nz dP iC=>⟨z,dz,_,_,_,_,Z,ah,fun H9 hz hk9=>⟨Z,?_⟩⟩);have s9:aa H8 H9:=aa.make (C:=A.Rule) (fs:=[]) nz dP hk9;have VF:=s8.trans s9;have VG:=l3.trans VF;exact k H9 ⟨z,dz,p,p2,as⟩ (w8.trans s9) (aa.free w8 nz) np rC zo ⟨hz,VG _ _ hp,cG (R:=eL A) (fun b cd q=>q.same VG) hC,VF _ _ cX⟩
def og(l:aJ)(pl:iE)(ws:List (List Nat)):Option iE:=(oe l ws).bind fun x=>if pl.length=30 then none else some (pl++[x])
theorem akN{D:List (List Nat)}{x:jR×List (List Nat)}(h:ek l D=some x):zJ l x.1:=by
 have cl:∀{w:List Nat}{m:Nat},fE l w=some m→m<l.caches.length:=fun{w m} h1=>by
  unfold fE at h1;simp only at h1;split at h1
  ·cases h1;assumption
  ·cases h1
 obtain⟨k,hk,q⟩:=uA h
 match D,h,hk with
 |k'::D,h,hk=>
  cases hk;rcases q with⟨q|q,e,hl⟩|⟨q|q,e,hl⟩
  ·subst q;rw[zR]at h
   match D,h with
   |o::n::r2,h=>
    simp only at h;split at h
    ·obtain⟨m,e1,e2⟩:=fP.mp h;rw[←e2];exact zP e1
    ·split at h
     ·obtain⟨m,e1,e2⟩:=fP.mp h;rw[←e2];exact zP e1
     ·cases h
  ·subst q;rw[zS]at h
   match D,h with
   |o::n::r2,h=>
    simp only at h;split at h
    ·obtain⟨m,e1,e2⟩:=fP.mp h;rw[←e2];exact zP e1
    ·split at h
     ·obtain⟨m,e1,e2⟩:=fP.mp h;rw[←e2];exact zP e1
     ·cases h
  ·subst q;rw[zT]at h
   match D,h with
   |o::r2,h=>
    obtain⟨m,e1,e2⟩:=fP.mp h;rw[←e2];exact cl e1
  ·subst q;rw[zU]at h
   match D,h with
   |o::r2,h=>
    obtain⟨m,e1,e2⟩:=fP.mp h;rw[←e2];exact cl e1
theorem VH:∀f {ws}{cs},rc l f ws=some cs→cs.length≤ws.length∧∀c∈cs,zJ l c
 |0,_,_,h=>by cases h
 |f+1,[],cs,h=>by cases h;exact⟨a9 _,fun c m=>by cases m⟩
 |f+1,w::r,cs,h=>by
  unfold rc at h;cases e:ek l (w::r)with
  |none=>rw[e]at h;cases h
  |some x=>
   rw[e]at h;obtain⟨y,e1,e2⟩:=fP.mp h;have ih:=VH f e1;have hs:=Dr e;subst e2;refine⟨by rw[b6];lia,fun c m=>?_⟩;rcases b_.mp m with rfl|m
   ·exact akN e
   ·exact ih.2 c m
theorem akO(h:oe l ws=some x)(hl:ws.length≤3000):zK l x:=by
 unfold oe at h;split at h
 ·have hF:(ws.take (ws.idxOf [58])).length≤3000:=by rw[eW];lia
  have hB:(ws.drop (ws.idxOf [58]+1)).length≤3000:=by rw[gj];lia
  generalize ws.take (ws.idxOf [58])=F at*;generalize ws.drop (ws.idxOf [58]+1)=B at*
  match F,h,hF with
  |k::n::cw,h,hF=>
   unfold JS at h;simp only at h;split at h
   ·cases h1:bW l n with
    |none=>rw[h1]at h;cases h
    |some p=>
     cases h2:gX l cw with
     |none=>rw[h1,h2]at h;cases h
     |some c=>
      cases h3:n_ l B with
      |none=>rw[h1,h2,h3]at h;cases h
      |some y=>
       rw[h1,h2,h3]at h;cases h;obtain⟨tw,q,e,h4,h5⟩:=(Vl l B y).mp h3;have o1:=VH _ h2;have o2:=ako h4;have e:=congrArg i5 e;rw[bT]at e;simp only[b6]at hF;exact⟨zh h1,zh h5,o2.2,o1.2,by show y.1.length≤3000;lia,by show c.length≤3000;lia⟩
   ·cases h
  |[],h,_=>cases h
  |[_],h,_=>cases h
 ·cases h
theorem Dt(X:gr l):∀ls n pl,pl.length≤30→ji (og l) n pl ls=J0 l n pl ls
 |[],_,_,_=>rfl
 |ws::r,n,pl,h=>by
  unfold ji J0;by_cases c:ws=[]
  ·subst c;rw[if_pos Z,Dt X r _ _ h];rfl
  ·rw[if_neg c,akw X c];cases e:oe l ws with
   |none=>
    have ep:og l pl ws=none:=by unfold og;rw[e];rfl
    rw[ep];rfl
   |some x=>
    have ep:og l pl ws=if pl.length=30 then none else some (pl++[x]):=by unfold og;rw[e];rfl
    rw[ep];by_cases c2:pl.length=30
    ·simp only[if_pos c2,i_];rw[if_pos (show akP≤pl.length by show 30≤pl.length;lia)]
    ·simp only[if_neg c2,i_];rw[if_neg (show ¬akP≤pl.length by show ¬30≤pl.length;lia)];exact Dt X r _ _ (by rw[bT,jB];lia)
def PA.with(u:PA)(rs:List ae):PA:=⟨u.a,u.dx,u.lr,rs⟩
inductive Du(A:aR)(vs:List V)(H:Hp)(Q:VK)(E:XK):Prop
 |mk:∀(O:List ae) (u:PA) (r:LA) (l:aJ) (pl:iE) (a:ae) (ws:List (List Nat)),vs=[.ref u.a,.ref a]→bq A (Off [u.lr] H) r l→eM A (Off O H) u r l pl→(∀b∈O,∃o,H b=some o)→H a=some (.lst (bA ws))→Words ws→ws.length≤3000→(og l pl ws=none→∀H',aa H H'→Q (.bl false) H')→(∀Dv,og l pl ws=some Dv→∀H' rs,bJ [u.lr] H H'→bq A (Off [u.lr] H') r l→eM A (Off O H') (u.with rs) r l Dv→Q (.bl true) H')→Du A vs H Q E
theorem akQ(T:Txt K mg A):T.yZ.Ok P w mg base 6 (Du A):=by
 refine T.yZ.go Qz fun _ _ _ _ H _ Q E hr h=>?_;obtain⟨O,u,r,l,pl,a,ws,rfl,lX,pO,hO,hw,hW,hlen,k0,k1⟩:=h;have hL:=lX.same (Off.sub _ _);have hu:=pO.same (Off.sub _ _);refine⟨_,(af (cJ<|aE 2 Qz (aI (akG T) hr T.HC (aX (aj 0) (pv 1)))) (af (aV (fk (PW.pt (eO (aL de (pv 2) bp) (gz (aL cO (cT T.cH (aj 0)) (a6 T.ahw)))))) (ak (ax dv)) aW) (af (dH (d4 PySem.F.plainAttrs_list PySem.F.slot_list_append PySem.F.type_list_append gQ (aj 0) (aF (pv 2)))) (ak (ax dv))))),?_⟩
 try dsimp only[aO,Cx.aQ]
 have l5:u.rs.length=pl.length:=Paired.length hu.rs;refine⟨fun(σ:L2.St) H1=>∃(o:Option k9) (v:V),σ=[some (.ref u.a),some (.ref a),some v]∧oe l ws=o∧aa H H1∧(match o with|none=>v=.aC|some x=>∃w:RA,v=.ref w.a∧H w.a=none∧H w.lc=none∧H w.lk=none∧(∀c,c∈w.cs→H c=none)∧Dk A H1 w x),?_,?_⟩
 ·refine(ag hu.ins T.o7 Z ⟨r,l,a,ws,Z,hL,hw,hW,hlen,?_⟩);cases e:oe l ws with
  |none=>exact fun H1 s1=>⟨none,.aC,Z,Z,s1,Z⟩
  |some x=>exact fun H1 w s1 n1 n2 n3 n4 hw=>⟨some x,.ref w.a,Z,Z,s1,w,Z,n1,n2,n3,n4,hw⟩
 rintro σ H1 ⟨o,v,rfl,eo,s1,ho⟩;unfold og at k0 k1;rw[eo]at k0 k1;have w9:=hu.same s1;refine⟨o.isNone||decide (pl.length=30),fun Q' q=>?_,fun H2 s2=>?_⟩
 ·have q:=q H1 (aa.refl _);refine⟨Z,_,Z,?_⟩;have ev:decide (v=V.aC)=o.isNone:=by
   cases o with
   |none=>rw[show v=.aC from ho];rfl
   |some x=>obtain⟨w,e,_⟩:=ho;rw[e];rfl
  rw[ev];refine bj (fun h=>?_) (fun h=>?_)
  ·rw[h]at q;exact q
  ·rw[h,gE]at q;refine(ag w9.ins T.qM Z ⟨_,_,Z,.inl (ai.of w9.rl),Z,_,Z,?_⟩);rw[aB,l5];rw[show decide (V.int (pl.length:Nat)=V.int 30)=decide (pl.length=30)from decide_eq_decide.mpr ⟨fun z=>by injection z with z;lia,fun z=>by rw[z];rfl⟩];exact q
 ·have eI:=s1.trans s2;refine bj (fun h=>?_) (fun h=>?_)
  ·refine k0 ?_ H2 eI;cases o with
   |none=>rfl
   |some x=>
    rw[Option.isNone_some,gE,decide_eq_true_eq]at h;exact if_pos h
  ·rw[lV,decide_eq_false_iff_not]at h;cases o with
   |none=>exact absurd h.1 (by decide)
   |some x=>
    obtain⟨w,rfl,n1,n2,n3,n4,fT⟩:=ho;have gR:=hu.same eI;refine(ag gR.ins T.qM Z ⟨.inl ⟨Z,_,ai.of gR.rl⟩,u.lr,_,_,Z,Z,gR.rl,(by rw[aB];have:=hu.k_;show _<16777216;lia),?_⟩);have pP:∀b,H b=none→b≠u.lr:=fun b hb e=>by subst e;rw[hu.rl]at hb;cases hb
    have nO:∀b,H b=none→b∉O:=fun b hb m=>by obtain⟨o,e⟩:=hO b m;rw[hb]at e;cases e
    have lrO:u.lr∉O:=fun m=>by
     have:=pO.rl;unfold Off at this;rw[if_pos m]at this;cases this
    refine k1 (pl++[x]) (if_neg h.2) _ (u.rs++[w.a]) (bJ.upd (bJ.of eI) cI) (lX.same (Off.same (bJ.upd (bJ.of eI) cI))) ?_;have hu3:=pO.same (Off.of (O:=O) eI);have sH:bJ [u.lr] H2 (upd H2 u.lr (.lst (u.rs.map V.ref++[V.ref w.a]))):=bJ.upd (bJ.of (aa.refl _)) cI;have n0:Dk A H2 w x:=⟨s2 _ _ fT.ins,s2 _ _ fT.cl,cG (R:=eL A) (fun b cd q=>q.same s2) fT.cs,s2 _ _ fT.kl⟩
    have fr:∀b o,H b=none→H2 b=some o→Off [u.lr] (Off O (upd H2 u.lr (.lst (u.rs.map V.ref++[V.ref w.a])))) b=some o:=fun b o hb e=>by
     have n1:=pP b hb;rw[Off.at (by simpa using n1),Off.at (nO b hb),ao n1];exact e
    have ua:u.a≠u.lr:=cE gR.ins gR.rl (by intro z;cases z);have uaO:u.a∉O:=fun m=>by
     have:=pO.ins;unfold Off at this;rw[if_pos m]at this;cases this
    refine⟨by show Off O _ u.a=_;rw[Off.at uaO,ao ua];exact gR.ins,by show Off O _ u.lr=_;rw[Off.at lrO,ah];show _=some (HO.lst ((u.rs++[w.a]).map V.ref));rw[b9];rfl,?_,by rw[bT,jB];have:=hu.k_;lia,?_⟩
    ·refine nW ⟨w,Z,fr _ _ n1 n0.ins,fr _ _ n2 n0.cl,JL n0.cs fun b m cd q=>?_,fr _ _ n3 n0.kl⟩ (cG (R:=fun H=>gq A (Off [u.lr] H)) (H:=Off O H2) (fun b rl q=>q.same ?_) hu3.rs)
     ·refine Off.same fun b o e n=>?_;unfold Off at e ⊢;split at e
      ·cases e
      ·rename_i hb;rw[if_neg hb];exact sH b o e n
     ·obtain⟨d,e⟩:=q;exact⟨d,fr b _ (n4 b m) e⟩
    ·intro rl m;rcases e_.mp m with m|m
     ·exact hu.ok rl m
     ·rw[cA.mp m];exact akO eo hlen
inductive VI(A:aR)(vs:List V)(H:Hp)(Q:VK)(E:XK):Prop
 |mk:∀(r:LA) (l:aJ) (c:ae) (cd:jR),vs=[.ref r.a,.ref c]→bq A H r l→eL A H c cd→zJ l cd→(∀H' p,aa H H'→H p=none→H' p=some (.lst (cn (uB l cd)))→Q (.ref p) H')→VI A vs H Q E
theorem akU(T:Txt K mg A):T.HD.Ok P w mg base 1 (VI A):=by
 refine T.HD.go aeF fun _ _ _ _ H _ Q E hr h=>?_;obtain⟨r,l,c,cd,rfl,hL,⟨dc,hc⟩,pI,k⟩:=h;have cz:r.cs.length=l.caches.length:=Paired.length hL.cs;have et:∀s:String,V.str (aZ s)=V.str (tx (aw s)):=fun s=>by rw[ig]
 refine⟨_,(af (aV (aL cO (aj 1) bG) (ak (ax (bi (aX (aj 1) (iw (bM cF (aj 0) (aj 1)) Z))))) aW) (ak (ax (bi (cS (aj 1) (aj 1) (oJ vh (by rfl) T.wm zM (aF (aj 1)))))))),?_⟩
 try dsimp only[aO,Cx.aQ]
 cases cd with
 |food ge n=>
  have hn:n≤1000:=dU pI (by decide);refine(ag hc T.mL Z ⟨Z,_,Z,?_⟩);refine dR (d:=false) (by cases ge <;>decide+kernel) (cV ?_);refine(ag hc T.kb Z (ag hc T.mL Z (ag hc T.mM Z ⟨_,Z,uu hn,be,fun p np=>k _ p (aa.upd np) np ?_⟩)));rw[ah,uq,et];unfold uB;cases ge
  ·show some (HO.lst [_,V.str (aZ "<"),_])=_;rw[et];rfl
  ·show some (HO.lst [_,V.str (aZ ">="),_])=_;rw[et];rfl
 |storms ge n=>
  have hn:n≤1000:=dU pI (by decide);refine(ag hc T.mL Z ⟨Z,_,Z,?_⟩);refine dR (d:=false) (by cases ge <;>decide+kernel) (cV ?_);refine(ag hc T.kb Z (ag hc T.mL Z (ag hc T.mM Z ⟨_,Z,uu hn,be,fun p np=>k _ p (aa.upd np) np ?_⟩)));rw[ah,uq,et];unfold uB;cases ge
  ·show some (HO.lst [_,V.str (aZ "<"),_])=_;rw[et];rfl
  ·show some (HO.lst [_,V.str (aZ ">="),_])=_;rw[et];rfl
 |have_ i=>
  obtain⟨b,hb⟩:∃b,r.cs[i]?=some b:=⟨_,di (by have:i<l.caches.length:=pI;lia)⟩
  obtain⟨cc,gf,VJ,oT⟩:=fc hL.cs hb;refine(ag hc T.mL Z ⟨Z,_,Z,cP ?_⟩);refine(ag hc T.kb Z (ag hL.ins T.lP Z (ag hc T.mM Z ⟨r.lc,_,_,_,Z,Z,ai.of hL.ch,bX (j:=i) (by rw[cR,hb];rfl),ag oT T.ww Z ⟨be,fun p np=>k _ p (aa.upd np) np ?_⟩⟩)));rw[ah,et];show _=some (HO.lst (cn [aw "have",(mQ l i).name]));rw[zk gf];rfl
 |lack i=>
  obtain⟨b,hb⟩:∃b,r.cs[i]?=some b:=⟨_,di (by have:i<l.caches.length:=pI;lia)⟩
  obtain⟨cc,gf,VJ,oT⟩:=fc hL.cs hb;refine(ag hc T.mL Z ⟨Z,_,Z,cP ?_⟩);refine(ag hc T.kb Z (ag hL.ins T.lP Z (ag hc T.mM Z ⟨r.lc,_,_,_,Z,Z,ai.of hL.ch,bX (j:=i) (by rw[cR,hb];rfl),ag oT T.ww Z ⟨be,fun p np=>k _ p (aa.upd np) np ?_⟩⟩)));rw[ah,et];show _=some (HO.lst (cn [aw "lack",(mQ l i).name]));rw[zk gf];rfl
theorem l8 L:(cn L).length=L.length:=by unfold cn;rw[aB]
theorem w_ L M:cn (L++M)=cn L++cn M:=by unfold cn;rw[b9]
theorem VL{α β:Type}{f:α→List β}(h:∀x,(f x).length≤c){L:List α}(hn:L.length≤n):(L.flatMap f).length≤n*c:=dU (C_ h L) (Nat.mul_le_mul_right c hn)
theorem J4 l c:(uB l c).length≤3:=by cases c <;>(unfold uB;simp)
inductive VM(A:aR)(vs:List V)(H:Hp)(Q:VK)(E:XK):Prop
 |mk:∀(r:LA) (l:aJ) (c:ae) (rl:k9),vs=[.ref r.a,.ref c]→bq A H r l→gq A H c rl→zK l rl→(∀H' p,aa H H'→H p=none→H' p=some (.lst (cn (J5 l rl)))→Q (.ref p) H')→VM A vs H Q E
inductive I33_(H:Hp)(r:LA)(l:Vbexab.Land)(rl:Vbexab.Rule)(u:RA)(D:ae)(σ:L2.St)(H':Hp):Prop|mk v3 v4:σ=[some (.ref r.a),some (.ref u.a),some (.ref D),v3,v4]→aa H H'→H' D=some (.lst (cn ([aw "at",pK l rl.place]++rl.conds.flatMap (uB l))))→I33_ H r l rl u D σ H'
inductive I34_(H:Hp)(r:LA)(l:Vbexab.Land)(rl:Vbexab.Rule)(u:RA)(D:ae)(i:Nat)(σ:L2.St)(H':Hp):Prop|mk v3 v4:σ=[some (.ref r.a),some (.ref u.a),some (.ref D),v3,v4]→aa H H'→H' D=some (.lst (cn ([aw "at",pK l rl.place]++(rl.conds.take i).flatMap (uB l))))→I34_ H r l rl u D i σ H'
theorem akV(T:Txt K mg A):T.HE.Ok P w mg base 2 (VM A):=by
 refine T.HE.go yI fun _ _ _ _ H _ Q E hr h=>?_;obtain⟨r,l,c,rl,rfl,hL,⟨u,rfl,hu⟩,ok,k⟩:=h;have cz:r.cs.length=l.caches.length:=Paired.length hL.cs;have hul:u.cs.length=rl.conds.length:=Paired.length hu.cs;have et:∀s:String,V.str (aZ s)=V.str (tx (aw s)):=fun s=>by rw[ig]
 have ct:=ok.cl;have tt:=ok.tl;refine⟨_,(af (aE 2 yI (bi (aX bG (bM cF (aj 0) (aj 1))))) (af (cJ<|eV d8 rfl (fL (aj 1)) (bY 3 yI) (ak (dH (d4 PySem.F.plainAttrs_list PySem.F.slot_list_extend PySem.F.type_list_extend qm (pv 2) (aF (aI (akU T) hr T.HD (aX (pv 0) (pv 3)))))))) (af (dH (d4 PySem.F.plainAttrs_list PySem.F.slot_list_append PySem.F.type_list_append gQ (pv 2) (aF bG))) (af (cJ<|aV (aL kN (cT T.cH (aj 1)) aH) (af (dH (d4 PySem.F.plainAttrs_list PySem.F.slot_list_append PySem.F.type_list_append gQ (pv 2) (aF bG))) (ak (dH (d4 PySem.F.plainAttrs_list PySem.F.slot_list_extend PySem.F.type_list_extend qm (pv 2) (aF (i8 rfl yI.nd (fL (aj 1)) (hZ (N:=["land","rule","words","condition","cache"]) (sc:=aG GC) (own:=[("cache",4)]) (by decide+kernel)) (fun _ _ _ _ _=>(bY 4 yI)) (fun _ _ _ _ _=>j6) (fun _ _ _ _ _=>(jg (K0:=K) rfl (bM (zd (K0:=K) rfl) (jg (K0:=K) rfl (pv 0) rfl) (pv 4)) rfl)))))))) aW) (af (dH (d4 PySem.F.plainAttrs_list PySem.F.slot_list_extend PySem.F.type_list_extend qm (pv 2) (aF (bi (aX bG (bM cF (aj 0) (aj 1))))))) (ak (ax (pv 2)))))))),?_⟩
 try dsimp only[aO,Cx.aQ]
 refine(ag hL.ins T.jd Z (ag hu.ins T.Ik Z ⟨r.lp,_,_,_,Z,Z,ai.of hL.pl,bX (j:=rl.place) (zL ok.place),be,fun D nD=>?_⟩));have s1:aa H (upd H D (.lst [V.str (aZ "at"),V.str (tx (l.places.getD rl.place []))])):=aa.upd nD;have h1:(upd H D (.lst [V.str (aZ "at"),V.str (tx (l.places.getD rl.place []))])) D=some (.lst (cn [aw "at",pK l rl.place])):=by rw[ah,et];rfl
 generalize upd H D (.lst [V.str (aZ "at"),V.str (tx (l.places.getD rl.place []))])=H1 at*;refine⟨I33_ H r l rl u D,?_,?_⟩
 ·have w9:=(show gq A H u.a rl from⟨u,Z,hu⟩).same s1;refine(ag (s1 _ _ hu.ins) T.Il Z ⟨u.lc,Z,⟨_,ai.of (s1 _ _ hu.cl)⟩,kL (K:=K) (a:=u.lc) (xs:=u.cs.map V.ref)
   (I34_ H r l rl u D)
   ⟨none,none,Z,s1,by simpa using h1⟩ (fun i σ H' _ ⟨_,_,_,q,_⟩=>ai.of (q _ _ hu.cl)) ?_ ?_⟩)
  ·rintro i y σ H2 hi ⟨v3,v4,rfl,s2,h2⟩;obtain⟨b,hb,rfl⟩:=cY hi;obtain⟨cd,gw,gf⟩:=fc hu.cs hb;have oR:=(du.mp gw).1;refine⟨.inl ⟨Z,_,ai.of h2⟩,r,l,b,cd,Z,hL.same s2,gf.same s2,ok.conds cd (dI gw),fun H3 p s3 np hp=>?_⟩;refine⟨D,p,_,_,Z,Z,s3 _ _ h2,hp,?_,?_⟩
   ·rw[l8,l8,bT];have:=VL (J4 l) (L:=rl.conds.take i) (n:=3000) (by rw[eW];lia);have:=J4 l cd;simp only[b6,ja];show _≤16777216
    lia
   ·refine⟨_,_,Z,aa.bI (s2.trans s3) nD,?_⟩;rw[ah,C7 gw,←mx,w_ (_++_)]
  ·rintro σ H2 ⟨v3,v4,rfl,s2,h2⟩;rw[aB,hul,fD]at h2;exact⟨_,_,Z,s2,h2⟩
 rintro σ H2 ⟨v3,v4,rfl,s2,h2⟩;have fl:=VL (J4 l) (L:=rl.conds) ct;generalize hW:[aw "at",pK l rl.place]++rl.conds.flatMap (uB l)=W at*;have wl:W.length≤9002:=by rw[←hW,bT];simp only[b6,ja];lia
 refine⟨.inl ⟨Z,_,ai.of h2⟩,D,_,_,Z,Z,h2,(by rw[l8];show _<16777216;lia),?_⟩;have s3:aa H (upd H2 D (.lst (cn W++[V.str (aZ ":")]))):=aa.bI s2 nD;have h3:(upd H2 D (.lst (cn W++[V.str (aZ ":")]))) D=some (.lst (cn (W++[[58]]))):=by rw[ah,et,w_];rfl
 generalize upd H2 D (.lst (cn W++[V.str (aZ ":")]))=H3 at*;refine⟨fun(σ:L2.St) H'=>∃v3 v4,σ=[some (.ref r.a),some (.ref u.a),some (.ref D),v3,v4]∧aa H H'∧H' D=some (.lst (cn (W++[[58]]++(if rl.take.isEmpty=true then[]else aw "take"::rl.take.map (Dx l))))),?_,?_⟩
 ·refine(ag (s3 _ _ hu.ins) T.Cp Z ⟨_,_,Z,.inl (ai.of (s3 _ _ hu.kl)),_,_,Z,Z,_,Z,bK (fun h=>?_) (fun h=>?_)⟩)
  ·have cU:rl.take.isEmpty=false:=by
    cases e:rl.take with
    |nil=>rw[e]at h;exact absurd h (by decide)
    |cons a b=>rfl
   rw[cU,if_neg cb];refine⟨.inl ⟨Z,_,ai.of h3⟩,D,_,_,Z,Z,h3,(by rw[l8,bT,jB];show _<16777216;lia),?_⟩;have s4:aa H (upd H3 D (.lst (cn (W++[[58]])++[V.str (aZ "take")]))):=aa.bI s3 nD;have h4:(upd H3 D (.lst (cn (W++[[58]])++[V.str (aZ "take")]))) D=some (.lst (cn (W++[[58]]++[aw "take"]))):=by rw[ah,et,w_ (W++[[58]])];rfl
   generalize upd H3 D (.lst (cn (W++[[58]])++[V.str (aZ "take")]))=H4 at*;refine⟨.inl ⟨Z,_,ai.of h4⟩,ag (s4 _ _ hu.ins) T.Cp Z ⟨u.lk,Z,⟨_,ai.of (s4 _ _ hu.kl)⟩,fun D2 pk=>ny (K:=K) (a:=u.lk) (xs:=nats rl.take)
    (fun i H'=>aa H4 H'∧H' D2=some (.lst (cn ((rl.take.take i).map (Dx l))))) ⟨aa.upd pk,ah⟩ (fun i H' _ q=>ai.of (q.1 _ _ (s4 _ _ hu.kl))) ?_ ?_⟩⟩
   ·rintro i y H5 hi ⟨s5,h5⟩;obtain⟨ix,pF,rfl⟩:=cY hi;have il:=(du.mp pF).1;have fZ:=hL.same (s4.trans s5);obtain⟨b,hb⟩:∃b,r.cs[ix]?=some b:=⟨_,di (by have:=ok.take ix (dI pF);lia)⟩
    obtain⟨cc,gf,VJ,oT⟩:=fc fZ.cs hb;refine⟨Z,ag fZ.ins T.lP Z ⟨r.lc,_,_,_,Z,Z,ai.of fZ.ch,bX (j:=ix) (by rw[cR,hb];rfl),ag oT T.ww Z ⟨_,h5,?_,aa.bI s5 pk,?_⟩⟩⟩
    ·rw[l8,aB,eW];show _<16777216;lia
    ·rw[ah,gT pF,b9,w_];show _=some (HO.lst (_++[V.str (tx (Dx l ix))]));unfold Dx;rw[zk gf]
   ·rintro H5 ⟨s5,h5⟩;rw[show(nats rl.take).length=rl.take.length by unfold nats;rw[aB],fD]at h5;refine⟨D,D2,_,_,Z,Z,s5 _ _ h4,h5,?_,?_⟩
    ·rw[l8,l8,bT,bT,aB];simp only[b6,ja];show _≤16777216
     lia
    ·refine⟨_,_,Z,aa.bI (s4.trans s5) nD,?_⟩;rw[ah,←w_];simp
  ·have cU:rl.take.isEmpty=true:=by
    cases e:rl.take with
    |nil=>rfl
    |cons a b=>
     exfalso;rw[e]at h;exact h (by unfold nats;simp)
   rw[cU,if_pos Z,gi];exact⟨_,_,Z,s3,h3⟩
 rintro σ H5 ⟨v3',v4',rfl,s5,h5⟩;have fZ:=hL.same s5;generalize hV:W++[[58]]++(if rl.take.isEmpty=true then[]else aw "take"::rl.take.map (Dx l))=V5 at*;have vl:V5.length≤20000:=by
  rw[←hV,bT,bT];split
  ·simp only[b6,ja];lia
  ·simp only[b6,ja,aB];lia
 refine⟨.inl ⟨Z,_,ai.of h5⟩,ag fZ.ins T.jd Z (ag (s5 _ _ hu.ins) T.Cq Z ⟨r.lp,_,_,_,Z,Z,ai.of fZ.pl,bX (j:=rl.go) (zL ok.go),be,fun p6 n6=>?_⟩)⟩;have s6:=aa.upd (o:=.lst [V.str (aZ "go"),V.str (tx (l.places.getD rl.go []))]) n6;refine⟨D,p6,_,_,Z,Z,s6 _ _ h5,ah,?_,?_⟩
 ·rw[l8];simp only[b6,ja];show _≤16777216;lia
 ·refine(k _ D (aa.bI (s5.trans s6) nD) nD ?_);rw[ah,et];show some (HO.lst (cn V5++cn [aw "go",pK l rl.go]))=_;rw[←w_,←hV,←hW];unfold J5;simp only[mx]
inductive VN(A:aR)(vs:List V)(H:Hp)(Q:VK)(E:XK):Prop
 |mk:∀(u:PA) (r:LA) (l:aJ) (pl:iE),vs=[.ref u.a]→bq A H r l→eM A H u r l pl→(J6 l pl).length≤10000000→(∀H' p,aa H H'→H p=none→H' p=some (.lst (nats (J6 l pl)))→Q (.ref p) H')→VN A vs H Q E
theorem akX(T:Txt K mg A):T.HF.Ok P w mg base 3 (VN A):=by
 refine T.HF.go GS fun _ _ _ _ H _ Q E hr h=>?_;obtain⟨u,r,l,pl,rfl,hL,hu,hlen,k⟩:=h;have l5:u.rs.length=pl.length:=Paired.length hu.rs;have k_:=hu.k_;refine⟨_,(ak (ax (aI (Sz T) hr T.BO (aF (i8 Z GS.nd (fL (aj 0)) (hZ (N:=["plan","rule"]) (sc:=aG GD) (own:=[("rule",1)]) (by decide+kernel)) (fun _ _ _ _ _=>(bY 1 GS)) (fun _ _ _ _ _=>j6) (fun _ _ _ _ _=>(aI (akV T) hr T.HE (aX (jg (K0:=K) Z (pv 0) Z) (pv 1))))))))),?_⟩
 try dsimp only[aO,Cx.aQ]
 refine(ag hu.ins T.qM Z ⟨u.lr,Z,⟨_,ai.of hu.rl⟩,fun D nD=>ny (K:=K) (a:=u.lr) (xs:=u.rs.map V.ref)
  (fun i H2=>aa H H2∧∃as,kx H2 D as ((pl.take i).map (J5 l))) ⟨aa.upd nD,[],⟨ah,.nil,by simp⟩⟩ (fun i H2 _ q=>ai.of (q.1 _ _ hu.rl)) ?_ ?_⟩)
 ·rintro i y H2 hi ⟨s2,as,hR⟩;obtain⟨b,hb,rfl⟩:=cY hi;obtain⟨rl,ul,um⟩:=fc hu.rs hb;have um:=(um.same (Off.sub _ _)).same s2;have gR:=hu.same s2;have il:=(du.mp ul).1;refine⟨Z,ag gR.ins T.o7 Z ⟨r,l,b,rl,Z,hL.same s2,um,hu.ok rl (dI ul),fun H3 p s3 np hp=>?_⟩⟩;have ki:=hR.same s3;have ie:p≠D:=fun e=>by subst e;rw[hR.lst]at np;cases np
  have al:as.length=i:=by
   have:=hR.ls.len;rw[aB,aB,eW]at this
   lia
  refine⟨_,ki.lst,(by rw[aB];show _<16777216;lia),aa.bI (s2.trans s3) nD,as++[p],?_⟩;rw[gT ul,b9];exact ki.add hp ie
 ·rintro H2 ⟨s2,as,hR⟩;rw[aB,l5,fD]at hR;refine⟨D,as,pl.map (J5 l),Z,hR.lst,hR.ls,hlen,fun H' p q1 q2 q3=>?_⟩;exact k H' p (s2.trans q1) (aa.free s2 q2) q3
def jq(l:aJ)(pl:iE)(x:ee):Except Nat (Nat×cK):=match uC pl x.p x.s x.b x.f with
 |none=>.error 2
 |some y=>if fY l x.p x.s y.2.1=false then .error 3 else match d9 l x.p y.2.2 with
  |none=>.error 3
  |some g=>.ok (y.2.1,g)
def rD(A:aR)(H:Hp)(c:ae):Except Nat (Nat×cK)→Prop
 | .error w=>∃dx,H c=some (.ins A.Step dx [("way",.int (w:Nat)),("taking",.int 0),("leg",.aC)])
 | .ok y=>∃dx b,dO A H b y.2∧H c=some (.ins A.Step dx [("way",.int 0),("taking",.int (y.1:Nat)),("leg",.ref b)])
theorem rD.same(s:aa H H'){st:Except Nat (Nat×cK)}(h:rD A H c st):rD A H' c st:=by
 cases st with
 |error w=>exact let ⟨d,e⟩:=h;⟨d,s _ _ e⟩
 |ok y=>exact let ⟨d,b,q,e⟩:=h;⟨d,b,q.same s,s _ _ e⟩
def Dy(l:aJ)(x:ee):Except Nat (Nat×cK)→Prop
 | .error w=>w=2∨w=3
 | .ok y=>y.2∈l.legs∧y.1<2^l.caches.length∧y.1≤x.s
theorem xa(ht:t<16)(h:fY l p s t=true):t≤s∧t<2^l.caches.length:=by
 rw[CQ ht,decide_eq_true_eq]at h;refine⟨?_,?_⟩
 ·rw[←h];exact dU Je tG
 ·rw[←h];exact qB tG (ajh l p)
theorem VO(h:∀c∈L,c<4):rp L<16:=(Dl L 0 (by decide) h).1
theorem J7{pl:iE}{x:ee}:uC pl x.p x.s x.b x.f=match pl.findIdx? (nZ x)with
  |none=>none
  |some i=>match pl[i]? with
   |none=>none
   |some y=>some (i,rp y.take,y.go):=Z
theorem J8{α:Type}{f:α→Bool}{l:List α}(h:l.findIdx? f=some i):∃y,l[i]?=some y:=by
 obtain⟨hi,_⟩:=List.findIdx?_eq_some_iff_getElem.mp h;exact⟨_,di hi⟩
theorem VP(h4:l.caches.length≤4)(ok:∀rl∈pl,zK l rl):Dy l x (jq l pl x):=by
 unfold jq;rw[J7];cases e:pl.findIdx? (nZ x)with
 |none=>exact .inl Z
 |some i=>
  obtain⟨y,hy⟩:=J8 e;have l9:=ok y (dI hy);have gW:=VO (L:=y.take) fun c m=>dG (l9.take c m) h4;simp only[hy];cases ht:fY l x.p x.s (rp y.take)with
  |false=>exact .inr Z
  |true=>
   rw[if_neg (by decide)];cases hg:d9 l x.p y.go with
   |none=>exact .inr Z
   |some g=>exact⟨Bt hg,(xa gW ht).2,(xa gW ht).1⟩
inductive VQ(A:aR)(vs:List V)(H:Hp)(Q:VK)(E:XK):Prop
 |mk:∀(u:PA) (r:LA) (l:aJ) (pl:iE) (c:ae) (x:ee),vs=[.ref u.a,.ref c]→bq A H r l→eM A H u r l pl→c9 A H c x→x.s<16→(∀H' z,aa H H'→H z=none→rD A H' z (jq l pl x)→Q (.ref z) H')→VQ A vs H Q E
theorem VR(T:Txt K mg A):T.BY.Ok P w mg base 4 (VQ A):=by
 refine T.BY.go yJ fun _ _ _ _ H _ Q E hr h=>?_;obtain⟨u,r,l,pl,c,x,rfl,hL,hu,hP,gJ,k⟩:=h;have h4:=hL.ok.caches;refine⟨_,(af (aE 2 yJ (aI (UC T) hr T.BW (aX (pv 0) (pv 1)))) (af (aV (aL de (pv 2) bp) (ak (ax (gk (IP T) hr T.Im T.y1 (cS (a6 T.ahx) aH bp)))) aW) (af (aE 3 yJ (bM cF (aj 0) (pv 2))) (af (aE 4 yJ (aI (UE T) hr T.BV (aF (pv 3)))) (af (cJ<|aE 5 yJ (aI (qU T) hr T.nP (cS (aj 0) (aj 1) (aj 3)))) (af (aV (fk (PW.pt (eO (aL de (pv 5) bp) (gz (jX (gg (aI (CT T) hr T.wq (c8 (aj 0) (aj 1) (aj 1) (pv 4))))))))) (ak (ax (gk (IP T) hr T.Im T.y1 (cS (a6 T.ahy) aH bp)))) aW) (ak (ax (gk (IP T) hr T.Im T.y1 (cS (a6 T.yR) (pv 4) (pv 5))))))))))),?_⟩
 try dsimp only[aO,Cx.aQ]
 refine⟨u,r,l,pl,c,x,Z,hu,h4,hP,gJ,fun H1 s1=>?_⟩;unfold jq at k;rw[J7]at k;have fails:∀(w:Nat) (H2:Hp),aa H H2→∀z dz,H2 z=none→H2 dz=none→dz≠z→(∀H',aa H H'→rD A H' z (.error w)→Q (.ref z) H')→IM A [.ref z,.int (w:Nat),.int 0,.aC] (upd (upd H2 dz (.own z)) z (.ins A.Step dz [])) (fun v H'=>v=.aC∧Q (.ref z) H') E0:=fun w H2 s2 z dz nz dP iC q=>
  ⟨z,dz,_,_,_,Z,ah,fun H4 hz lh=>⟨Z,q H4 (s2.trans (aa.make (C:=A.Step) (fs:=[]) nz dP lh)) ⟨dz,hz⟩⟩⟩
 cases e:pl.findIdx? (nZ x)with
 |none=>
  rw[e]at k;refine⟨Z,_,Z,cP ?_⟩;exact fun z dz nz dP iC=>fails 2 H1 s1 z dz nz dP iC fun H' s' q=>k H' z s' (aa.free s1 nz) q
 |some i=>
  obtain⟨y,hy⟩:=J8 e;have l9:=hu.ok y (dI hy);have gW:=VO (L:=y.take) fun c m=>dG (l9.take c m) h4;have oR:=(du.mp hy).1;rw[e]at k;simp only[hy]at k;have l5:u.rs.length=pl.length:=Paired.length hu.rs;obtain⟨b,hb⟩:∃b,u.rs[i]?=some b:=⟨_,di (by lia)⟩
  obtain⟨y',iy,pQ⟩:=fc hu.rs hb;rw[hy]at iy;have iy:=bS iy;subst iy;have pQ:=pQ.same (Off.sub _ _);have w9:=hu.same s1;refine⟨Z,_,Z,cV ?_⟩;refine(ag w9.ins T.qM Z ⟨u.lr,_,_,_,Z,Z,ai.of w9.rl,bX (j:=i) (by rw[cR,hb];rfl),?_⟩);refine⟨b,y,Z,pQ.same s1,fun c m=>dG (l9.take c m) h4,fun H2 s2=>?_⟩;have eI:=s1.trans s2;have gR:=hu.same eI;have dn:=hL.same eI;obtain⟨dp,cX⟩:=hP.same eI;obtain⟨w2,ew,n0⟩:=pQ.same eI;have tF:H2 b=some (.ins A.Rule w2.dx (JK w2 y)):=by rw[←ew];exact n0.ins
  refine⟨fun(σ:L2.St) H'=>∃(v:V) (o:Option cK),σ=[some (.ref u.a),some (.ref c),some (.int (i:Nat)),some (.ref b),some (.int (rp y.take:Nat)),some v]∧H'=H2∧d9 l x.p y.go=o∧(match o with|none=>v=.aC|some g=>∃bb,v=.ref bb∧dO A H2 bb g),?_,?_⟩
  ·exact(ag gR.ins T.o7 Z (ag cX T.fQ Z (ag tF T.Cq Z ⟨r,l,x.p,y.go,Z,dn,fun e2=>⟨.aC,none,Z,Z,e2,Z⟩,fun g i' bb e2 fF mE hG=>⟨.ref bb,some g,Z,Z,e2,bb,Z,hG⟩⟩)))
  rintro σ H2 ⟨v,o,rfl,rfl,eo,hv⟩;rw[eo]at k;refine⟨o.isNone|| !Vbexab.takes l x.p x.s (rp y.take),fun Q' q=>?_,fun H3 s3=>?_⟩
  ·refine⟨Z,_,Z,?_⟩;have ev:decide (v=V.aC)=o.isNone:=by
    cases o with
    |none=>rw[show v=.aC from hv];rfl
    |some x=>obtain⟨w,e,_⟩:=hv;rw[e];rfl
   rw[ev];refine bj (fun h=>?_) (fun h=>?_)
   ·have q:=q H2 (aa.refl _);rw[h]at q;exact q
   ·rw[h,gE]at q;refine(ag gR.ins T.o7 Z (ag cX T.fQ Z (ag cX T.jJ Z ⟨r,l,x.p,x.s,_,Z,dn,gW,fun H3 s3=>⟨_,Z,?_⟩⟩)));exact q H3 s3
  ·have gK:=eI.trans s3;refine bj (fun h=>?_) (fun h=>?_)
   ·refine fun z dz nz dP iC=>fails 3 H3 gK z dz nz dP iC fun H' s' q=>k H' z s' (aa.free gK nz) ?_;cases ht:fY l x.p x.s (rp y.take)with
    |false=>rw[if_pos Z];exact q
    |true=>
     rw[if_neg (by decide)];cases o with
     |none=>exact q
     |some g=>rw[ht]at h;cases h
   ·rw[lV,gU]at h;cases o with
    |none=>exact absurd h.1 (by decide)
    |some g=>
     obtain⟨bb,rfl,hG⟩:=hv;rw[h.2,if_neg (by decide)]at k;refine(fun z dz nz dP iC=>⟨z,dz,_,_,_,Z,ah,fun H4 hz lh=>⟨Z,?_⟩⟩);have s4:aa H3 H4:=aa.make (C:=A.Step) (fs:=[]) nz dP lh;exact k H4 z (gK.trans s4) (aa.free gK nz) ⟨dz,bb,hG.same (s3.trans s4),hz⟩
def fg(A:aR)(H:Hp)(a:ae)(y:mV):Prop:=∃dx pa le,H a=some (.ins A.mI dx [("party",.ref pa),("extras",.ref le)])∧c9 A H pa y.at_∧H le=some (.lst (nats y.way.reverse))
theorem fg.same(s:aa H H')(h:fg A H a y):fg A H' a y:=let ⟨d,pa,le,q1,q2,q3⟩:=h;⟨d,pa,le,s _ _ q1,q2.same s,s _ _ q3⟩
theorem lj L:(nats L).length=L.length:=by unfold nats;rw[aB]
theorem uD L M:nats (L++M)=nats L++nats M:=by unfold nats;rw[b9]
def J9(l:aJ)(y:mV):Except Nat (Nat×cK)→Option (Nat×List Nat)
 | .error w=>some (w,y.way.reverse)
 | .ok st=>(jp l y.at_ st.1 st.2).map fun k=>(1,y.way.reverse++[k])
def akY(H:Hp)(Q:VK):Option (Nat×List Nat)→Prop
 |none=>∀H',aa H H'→Q .aC H'
 |some x=>∀H' p,aa H H'→H p=none→H' p=some (.lst (nats (0::x.1::x.2.length::x.2)))→Q (.ref p) H'
inductive VS(A:aR)(vs:List V)(H:Hp)(Q:VK)(E:XK):Prop
 |mk:∀(u:PA) (r:LA) (l:aJ) (pl:iE) (a:ae) (y:mV) (z:ae) (st:Except Nat (Nat×cK)),vs=[.ref u.a,.ref a,.ref z]→bq A H r l→eM A H u r l pl→fg A H a y→rD A H z st→Dy l y.at_ st→y.at_.b≤8→y.way.length≤1000→akY H Q (J9 l y st)→VS A vs H Q E
theorem akZ(T:Txt K mg A):T.HI.Ok P w mg base 6 (VS A):=by
 refine T.HI.go QC fun _ _ _ _ H _ Q E hr h=>?_;obtain⟨u,r,l,pl,a,y,z,st,rfl,hL,hu,⟨da,pa,le,ha,hP,hle⟩,hS,js,jk,tE,k⟩:=h;refine⟨_,(af (aV (aL kM (aj 2) (a6 T.yR)) (ak (ax (br my (bi (cS aH (aj 2) (cT T.cH (aj 1)))) (aj 1)))) aW) (af (aE 3 QC (aI (akj T) hr T.Hs (c8 (aj 0) (aj 1) (aj 2) (aj 2)))) (af (aV (aL de (pv 3) bp) (ak (ax bp)) aW) (ak (ax (br my (br my (bi (cS aH (a6 T.RY) (br dX (cT T.cH (aj 1)) aH))) (aj 1)) (bi (aF (pv 3))))))))),?_⟩
 try dsimp only[aO,Cx.aQ]
 have l5:(nats y.way.reverse).length=y.way.length:=by rw[lj,J_]
 cases st with
 |error w=>
  obtain⟨dz,hz⟩:=hS;have w0:w≠0:=by rcases(show w=2∨w=3 from js)with e|e <;>rw[e]<;>decide
  refine(ag hz T.tS Z ⟨Z,_,Z,jL (fun h=>?_) (fun h=>absurd (by injection h with h;lia) w0)⟩);refine(ag hz T.tS Z (ag ha T.wy Z ⟨_,_,Z,.inl (ai.of hle),be,fun p np=>?_⟩));have s1:=aa.upd (o:=.lst [.int 0,.int (w:Nat),.int ((nats y.way.reverse).length:Nat)]) np;refine(ag (s1 _ _ ha) T.wy Z ⟨p,le,_,_,Z,Z,ah,s1 _ _ hle,?_,fun p2 rC=>?_⟩)
  ·rw[l5];show 3+_≤16777216;lia
  ·refine k _ p2 (s1.trans (aa.upd rC)) (aa.free s1 rC) ?_;rw[ah,l5];show _=some (HO.lst (V.int 0::V.int (w:Nat)::V.int (y.way.reverse.length:Nat)::nats y.way.reverse));rw[J_];rfl
 |ok st=>
  obtain⟨dz,bb,hG,hz⟩:=hS;obtain⟨gm,t1,t2⟩:=js;refine(ag hz T.tS Z ⟨Z,_,Z,jL (fun h=>absurd Z h) (fun _=>?_)⟩);refine(ag hu.ins T.o7 Z (ag ha T.tU Z (ag hz T.y4 Z (ag hz T.tT Z ⟨r,l,pa,y.at_,st.1,bb,st.2,Z,hL,hP,jk,t1,t2,hG,gm,fun H1 s1=>?_⟩))));unfold J9 at k;have VT:=s1 _ _ ha;have VU:=s1 _ _ hle;cases e:jp l y.at_ st.1 st.2 with
  |none=>
   simp only[e,zW]at k;exact⟨Z,_,Z,cP (k H1 s1)⟩
  |some j=>
   simp only[e,i_]at k;refine⟨Z,_,Z,cV ?_⟩;refine(ag VT T.wy Z ⟨_,_,Z,.inl (ai.of VU),_,_,Z,Z,be,fun p np=>?_⟩);have s2:=aa.upd (o:=.lst [.int 0,.int 1,.int (((nats y.way.reverse).length:Nat)+1)]) np;refine(ag (s2 _ _ VT) T.wy Z ⟨p,le,_,_,Z,Z,ah,s2 _ _ VU,?_,fun p2 rC=>?_⟩)
   ·rw[l5];show 3+_≤16777216;lia
   have s3:=aa.upd (o:=.lst ([.int 0,.int 1,.int (((nats y.way.reverse).length:Nat)+1)]++nats y.way.reverse)) rC;refine⟨be,fun p3 np3=>?_⟩;have s4:=aa.upd (o:=.lst [V.int (j:Nat)]) np3;refine⟨p2,p3,_,_,Z,Z,s4 _ _ ah,ah,?_,fun p4 VV=>?_⟩
   ·rw[bT,l5];show 3+_+1≤16777216;lia
   ·refine k _ p4 (((s1.trans s2).trans (s3.trans s4)).trans (aa.upd VV)) (aa.free ((s1.trans s2).trans (s3.trans s4)) VV) ?_;rw[ah,l5];show _=some (HO.lst (V.int 0::V.int 1::V.int ((y.way.reverse++[j]).length:Nat)::nats (y.way.reverse++[j])));rw[uD,bT,J_];simp[nats];rfl
def jt(l:aJ)(y:mV)(t:Nat)(g:cK)(n:Nat):List mV:=(bP n).map fun k=>{at_:=iS l y.at_ t g k,way:=k::y.way}
theorem VW(h:jp l x t g=none):∀k,k<a_ g x.b+1→g.least+k≤dS l x.f t:=fun k hk=>by
 unfold jp at h;rw[SK]at h;have:=h k (ip.mpr hk);simp only[decide_eq_true_eq]at this
 lia
theorem fg.grow(h:fg A H a y)(hp:H p=some (.lst (as.map V.ref)))(cU:as≠[]):fg A (upd H p (.lst ys)) a y:=by
 obtain⟨d,pa,le,q1,⟨dp,q2⟩,q3⟩:=h;refine⟨d,pa,le,by rw[ao (cE q1 hp (by intro z;cases z))];exact q1,⟨dp,by rw[ao (cE q2 hp (by intro z;cases z))];exact q2⟩,?_⟩;rw[ao]
 ·exact q3
 ·intro e;subst e;rw[hp]at q3;have q3:=bS q3;injection q3 with q3
  match as,cU,q3 with
  |b::r,_,q3=>
   cases hw:y.way.reverse with
   |nil=>rw[hw]at q3;cases q3
   |cons c w=>rw[hw]at q3;injection q3 with q3 _;cases q3
theorem fg.put(h:fg A H a y)(hp:H p=some (.dT kv)):fg A (upd H p (.dT gp)) a y:=by
 obtain⟨d,pa,le,q1,⟨dp,q2⟩,q3⟩:=h;exact⟨d,pa,le,by rw[ao (cE q1 hp (by intro z;cases z))];exact q1,⟨dp,by rw[ao (cE q2 hp (by intro z;cases z))];exact q2⟩,by rw[ao (cE q3 hp (by intro z;cases z))];exact q3⟩
inductive VX(A:aR)(vs:List V)(H:Hp)(Q:VK)(E:XK):Prop
 |mk:∀(u:PA) (r:LA) (l:aJ) (pl:iE) (a:ae) (y:mV) (z:ae) (t:Nat) (g:cK),vs=[.ref u.a,.ref a,.ref z]→bq A H r l→eM A H u r l pl→fg A H a y→rD A H z (.ok (t,g))→Dy l y.at_ (.ok (t,g))→y.at_.b≤8→y.way.length≤1000→jp l y.at_ t g=none→(∀H' p as,aa H H'→H p=none→H' p=some (.lst (as.map V.ref))→Paired (fg A H') as (jt l y t g (a_ g y.at_.b+1))→Q (.ref p) H')→VX A vs H Q E
inductive I37_(H:Hp)(u:PA)(l:Vbexab.Land)(a:ae)(y:Vbexab.Seen)(z:ae)(t:Nat)(g:Vbexab.Leg)(p1:ae)(σ:L2.St)(H':Hp):Prop|mk v4 v5 as:σ=[some (.ref u.a),some (.ref a),some (.ref z),some (.ref p1),v4,v5]→aa H H'→H' p1=some (.lst (as.map V.ref))→Paired (fg A H') as (jt l y t g (a_ g y.at_.b+1))→I37_ H u l a y z t g p1 σ H'
inductive I38_(H:Hp)(u:PA)(l:Vbexab.Land)(a:ae)(y:Vbexab.Seen)(z:ae)(t:Nat)(g:Vbexab.Leg)(p1:ae)(i:Nat)(σ:L2.St)(H':Hp):Prop|mk v4 v5 as:σ=[some (.ref u.a),some (.ref a),some (.ref z),some (.ref p1),v4,v5]→aa H H'→H' p1=some (.lst (as.map V.ref))→(∀b,b∈as→H b=none)→Paired (fg A (Off [p1] H')) as (jt l y t g i)→I38_ H u l a y z t g p1 i σ H'
theorem ak1(T:Txt K mg A):T.HJ.Ok P w mg base 5 (VX A):=by
 refine T.HJ.go BE fun _ _ _ _ H _ Q E hr h=>?_;obtain⟨u,r,l,pl,a,y,z,t,g,rfl,hL,hu,hA,⟨dz,bb,hG,hz⟩,⟨gm,t1,t2⟩,jk,tE,dh,k⟩:=h;have dj:=hL.ok.dJ g gm;have wR:a_ g y.at_.b≤y.at_.b:=by unfold a_;lia
 have rj:=VW dh;refine⟨_,(af (aE 3 BE (bi gA)) (af (cJ<|eV d8 rfl (qe rfl T.mK (aF (br dX (aI (ue T) hr T.oW (aX (aj 2) (iw (aj 1) rfl))) aH))) (bY 4 BE) (af (aE 5 BE (aI (wK T) hr T.qI (gh (aj 0) (c8 (aj 1) (aj 2) (aj 2) (pv 4))))) (ak (dH (d4 PySem.F.plainAttrs_list PySem.F.slot_list_append PySem.F.type_list_append gQ (pv 3) (aF (gk (S1 T) hr T.R5 T.BX (aX (pv 5) (br my (aj 1) (bi (aF (pv 4)))))))))))) (ak (ax (pv 3))))),?_⟩
 try dsimp only[aO,Cx.aQ]
 refine⟨bu _,fun p1 n1=>?_⟩;have s1:aa H (upd H p1 (.lst [])):=aa.upd n1;have eG:(upd H p1 (.lst [])) p1=some (.lst []):=ah;generalize upd H p1 (.lst [])=H1 at*;refine⟨I37_ H u l a y z t g p1,?_,?_⟩
 ·obtain⟨da,pa,le,ha,⟨dp,hp⟩,hle⟩:=hA.same s1;refine(ag (s1 _ _ hz) T.tT Z (ag ha T.tU Z (ag hp T.jK Z ⟨bb,g,y.at_.b,Z,hG.same s1,dj.2.1,_,_,Z,Z,(a_ g y.at_.b:Int)+1,Z,by lia,by lia,?_⟩)));rw[show((a_ g y.at_.b:Int)+1).toNat=a_ g y.at_.b+1 by lia];refine ve (lo:=0) (n:=a_ g y.at_.b+1) (I38_ H u l a y z t g p1)
   ⟨none,none,[],Z,s1,eG,by simp,.nil⟩ ?_ ?_
  ·rintro i σ H2 hi ⟨v4,v5,as,rfl,s2,cX,fr,hC⟩;rw[uc];have dn:=hL.same s2;have gR:=hu.same s2;have tz:=s2 _ _ hz;have al:as.length=i:=by
    have:=Paired.length hC;unfold jt at this;rw[aB,ia]at this;exact this
   obtain⟨da,pa,le,ha,hP,hle⟩:=hA.same s2;refine(ag gR.ins T.o7 Z (ag ha T.tU Z (ag tz T.y4 Z (ag tz T.tT Z ⟨r,l,pa,y.at_,t,bb,g,i,Z,dn,hP,t1,hG.same s2,t2,by lia,fun lost H3 s3=>absurd lost (by have:=rj i hi;lia),fun _ H3 c3 s3 nc3 z8=>?_⟩))));have ak3:=s3 _ _ hle;refine⟨.inl ⟨Z,_,ai.of (s3 _ _ cX)⟩,?_⟩;refine(ag (s3 _ _ ha) T.wy Z ⟨be,fun q1 mW=>?_⟩);have s4:=aa.upd (o:=.lst [V.int (i:Nat)]) mW;refine⟨le,q1,_,_,Z,Z,s4 _ _ ak3,ah,?_,fun q2 xb=>?_⟩
   ·rw[lj,J_];show _+1≤16777216;lia
   have s5:=aa.upd (o:=.lst (nats y.way.reverse++[V.int (i:Nat)])) xb;have Ka:(upd (upd H3 q1 (.lst [V.int (i:Nat)])) q2 (.lst (nats y.way.reverse++[V.int (i:Nat)]))) q2=some (.lst (nats (i::y.way).reverse)):=by
    rw[ah,Sd,uD];rfl
   have pM:=s4.trans s5;have ak4:=aa.free s4 xb;generalize upd (upd H3 q1 (.lst [V.int (i:Nat)])) q2 (.lst (nats y.way.reverse++[V.int (i:Nat)]))=H5 at*;refine fun z2 z9 Dz Kb ak5=>⟨z2,z9,_,_,Z,ah,fun H6 hz6 hk6=>⟨Z,?_⟩⟩
   have s6:aa H5 H6:=aa.make (C:=A.mI) (fs:=[]) Dz Kb hk6;have z_:=s3.trans (pM.trans s6);have DB:=z_ _ _ cX;have nH:∀b,H2 b=none→b≠p1:=fun b hb e=>by subst e;rw[cX]at hb;cases hb
   have DC:=aa.free (s3.trans pM) Dz;refine⟨p1,_,_,Z,Z,DB,(by rw[aB];show _<16777216;lia),?_⟩;refine⟨_,_,as++[z2],Z,aa.bI (s2.trans z_) n1,by rw[ah,b9];rfl,?_,?_⟩
   ·intro b m;rcases e_.mp m with m|m
    ·exact fr b m
    ·rw[cA.mp m];exact aa.free s2 DC
   ·unfold jt;rw[tH,b9];have off:∀b o,b≠p1→H6 b=some o→Off [p1] (upd H6 p1 (.lst (as.map V.ref++[V.ref z2]))) b=some o:=fun b o hb e=>by
     rw[Off.at (by simpa using hb),ao hb];exact e
    refine nW ?_ (cG (R:=fun H=>fg A (Off [p1] H)) (H:=H2) (fun b yy q=>q.same ?_) hC)
    ·obtain⟨dc3,Kc⟩:=z8;refine⟨z9,c3,q2,off _ _ (nH _ DC) hz6,⟨dc3,off _ _ (nH _ nc3) (pM.trans s6 _ _ Kc)⟩,off _ _ (nH _ (aa.free s3 ak4)) (s6 _ _ Ka)⟩
    ·exact Off.same (bJ.upd (bJ.of z_) cI)
  ·rintro σ H2 ⟨v4,v5,as,rfl,s2,cX,fr,hC⟩;exact⟨_,_,as,Z,s2,cX,cG (R:=fun H=>fg A H) (H:=Off [p1] H2) (fun b yy q=>q.same (Off.sub _ _)) hC⟩
 ·rintro σ H2 ⟨v4,v5,as,rfl,s2,cX,hC⟩;exact(k H2 p1 as s2 n1 cX hC)
def keyOf(x:ee):List Key:=[bL (x.p:Int),bL (x.s:Int),bL (x.b:Int),bL (x.f:Int)]
theorem ak9 x y:ak_ x y=decide (keyOf x=keyOf y):=by
 unfold ak_ keyOf;rw[iJ];simp only[dA,beq_iff_eq,decide_eq_true_eq,Sk,Sum.inl.injEq,and_true]
 lia
theorem VY(l:aJ)(pl:iE)(y:mV):ala l pl y=(match jq l pl y.at_ with
  | .error w=>.fails w y.way
  | .ok st=>match jp l y.at_ st.1 st.2 with
   |some k=>.fails 1 (k::y.way)
   |none=>.goes (jt l y st.1 st.2 (a_ st.2 y.at_.b+1))):=by
 unfold ala jq;cases uC pl y.at_.p y.at_.s y.at_.b y.at_.f with
 |none=>rfl
 |some z=>
  show(if fY l y.at_.p y.at_.s z.2.1=false then _ else _)=_;split
  ·rename_i h;simp only[h,if_true]
  ·rename_i h;simp only[h];cases d9 l y.at_.p z.2.2 with
   |none=>rfl
   |some g=>rfl
theorem alb{l:aJ}{pl:iE}{k i:Nat}{all:List mV}{y:mV}(h:all[i]?=some y):Kd l pl 400 (k+1) all i=(if y.at_.p=0 then Kd l pl 400 k all (i+1)else match jq l pl y.at_ with
  | .error w=>.fails w y.way.reverse
  | .ok st=>match jp l y.at_ st.1 st.2 with
   |some j=>.fails 1 (j::y.way).reverse
   |none=>if 400<((jt l y st.1 st.2 (a_ st.2 y.at_.b+1)).foldl lu all).length then .over else Kd l pl 400 k ((jt l y st.1 st.2 (a_ st.2 y.at_.b+1)).foldl lu all) (i+1)):=by
 show(match all[i]? with|none=>_|some x=>_)=_;rw[h];simp only;split
 ·rfl
 ·rw[VY];cases jq l pl y.at_ with
  |error w=>rfl
  |ok st=>
   cases h_:jp l y.at_ st.1 st.2 with
   |none=>simp only[h_]
   |some j=>simp only[h_]
theorem alc all x:(lu all x).length≤all.length+1∧all.length≤(lu all x).length:=by
 unfold lu;split
 ·lia
 ·rw[bT,jB];lia
theorem Ke:∀(next all:List mV),(next.foldl lu all).length≤all.length+next.length∧all.length≤(next.foldl lu all).length
 |[],all=>by simp
 |x::r,all=>by
  have h:=alc all x;have:=Ke r (lu all x);rw[nv,b6]
  lia
def aqf(l:aJ)(pl:iE)(x:ee):List Int:=match rE l pl x with
 | .over=>[-6]
 | .good n=>[1,(n:Int)]
 | .fails why way=>0::(why:Int)::mX (Vbexab.ints way)
def Kf:Vbexab.Checked→List Int
 | .over=>[-6]
 | .good n=>[1,(n:Int)]
 | .fails why way=>0::(why:Int)::mX (Vbexab.ints way)
theorem uE L:nats L=(Vbexab.ints L).map V.int:=by unfold nats Vbexab.ints;rw[jf];rfl
theorem ald w ks:(Kf (.fails w ks)).map V.int=nats (0::w::ks.length::ks):=by
 rw[uE];show _=((0:Int)::(w:Int)::(ks.length:Int)::Vbexab.ints ks).map V.int;have:(Vbexab.ints ks).length=ks.length:=by unfold Vbexab.ints;rw[aB]
 show((0:Int)::(w:Int)::((Vbexab.ints ks).length:Int)::Vbexab.ints ks).map V.int=_;rw[this]
inductive VZ(A:aR)(vs:List V)(H:Hp)(Q:VK)(E:XK):Prop
 |mk:∀(u:PA) (r:LA) (l:aJ) (pl:iE) (c:ae) (x:ee),vs=[.ref u.a,.ref c]→bq A H r l→eM A H u r l pl→c9 A H c x→fw l x→(∀H' p,aa H H'→H p=none→H' p=some (.lst ((Kf (rE l pl x)).map V.int))→Q (.ref p) H')→VZ A vs H Q E
structure oh(A:aR)(H:Hp)(l:aJ)(pr pm:ae)(as:List ae)(kv:List (List Key×V))(R:List mV):Prop where
 row:H pr=some (.lst (as.map V.ref))
 met:H pm=some (.dT kv)
 arr:Paired (fg A H) as R
 ne:R≠[]
 k_:kv.length≤R.length
 key:∀k,(bw kv k).isSome=R.any fun y=>decide (keyOf y.at_=k)
 ok:∀y∈R,fw l y.at_
 way:∀(j:Nat) (y:mV),R[j]?=some y→y.way.length≤j
theorem oh.same(s:aa H H')(h:oh A H l pr pm as kv R):oh A H' l pr pm as kv R:=
 ⟨s _ _ h.row,s _ _ h.met,cG (R:=fg A) (fun _ _ z=>z.same s) h.arr,h.ne,h.k_,h.key,h.ok,h.way⟩
theorem oh.Aa(h:oh A H l pr pm as kv R):as≠[]:=fun e=>by
 have:=Paired.length h.arr;rw[e]at this;exact h.ne (akE.mp this.symm)
theorem ale(W:CD l)(ok:fw l y.at_)(gm:g∈l.legs):∀z∈jt l y t g n,fw l z.at_∧z.way.length=y.way.length+1:=fun z hz=>by
 unfold jt at hz;obtain⟨k,_,rfl⟩:=mB.mp hz;have dj:=W.dJ g gm;have o2:=ok.s;have o3:=ok.b;exact⟨⟨dj.2.2.2.2,by show y.at_.s-t<_;lia,by show y.at_.b-k≤8;lia,by show dS l y.at_.f t-_≤60;have:=zD l y.at_.f t;have:=W.most;lia⟩,Z⟩
inductive I39_(H:Hp)(u:PA)(l:Vbexab.Land)(pl:Vbexab.Plan)(c:ae)(x:Vbexab.At)(pr pm:ae)(σ:L2.St)(H':Hp):Prop|mk v4 v5 v6 v7 v8 v9 as kv R:σ=[some (.ref u.a),some (.ref c),some (.ref pr),some (.ref pm),v4,v5,v6,v7,v8,v9]→aa H H'→oh A H' l pr pm as kv R→rE l pl x=.good R.length→I39_ H u l pl c x pr pm σ H'
inductive I40_(H:Hp)(u:PA)(l:Vbexab.Land)(pl:Vbexab.Plan)(c:ae)(x:Vbexab.At)(pr pm:ae)(m:Nat)(σ:L2.St)(H':Hp):Prop|mk v5 v6 v7 v8 v9 i as kv R:σ=[some (.ref u.a),some (.ref c),some (.ref pr),some (.ref pm),some (.int (i:Nat)),v5,v6,v7,v8,v9]→m=401-i→i≤R.length→R.length≤400→aa H H'→oh A H' l pr pm as kv R→rE l pl x=Kd l pl 400 (401-i) R i→I40_ H u l pl c x pr pm m σ H'
theorem alf(T:Txt K mg A):T.HK.Ok P w mg base 7 (VZ A):=by
 refine T.HK.go nM fun _ _ _ _ H _ Q E hr h=>?_;obtain⟨u,r,l,pl,c,x,rfl,hL,hu,hP,ok,k⟩:=h;have gJ:∀{y:ee},fw l y→y.s<16:=fun{y} o=>dG o.s (jc (n:=2) (by decide) hL.ok.caches);have hu_:=d6 hr;have hu:=hu_
 rename eM A H u r l pl=>uF
 refine⟨_,(af (aE 2 nM (bi (aF (gk (S1 T) hr T.R5 T.BX (aX (pv 1) (bi gA)))))) (af (aE 3 nM (adG hu (aI (CU T) hr T.wo (aF (pv 1))) dv)) (af (aE 4 nM aH) (af (cJ<|AH d8 (aL jz (pv 4) (cT T.cH (pv 2))) (af (aE 5 nM (bM cF (pv 2) (pv 4))) (af (tD 4 nM aH u9) (af (aV (aL cO (iw (aj 5) Z) (a6 T.tQ)) (ak Lp) aW) (af (aE 6 nM (aI (VR T) hr T.BY (aX (pv 0) (aj 5)))) (af (aE 7 nM (aI (akZ T) hr T.HI (cS (pv 0) (pv 5) (pv 6)))) (af (aV (aL xJ (pv 7) bp) (ak (ax (pv 7))) aW) (af (cJ<|eV d8 rfl (fL (aI (ak1 T) hr T.HJ (cS (pv 0) (pv 5) (pv 6)))) (bY 8 nM) (af (aE 9 nM (aI (CU T) hr T.wo (aF (aj 8)))) (ak (aV (uZ (yc hu (pv 9) (pv 3))) (af (Ba hu (pv 3) (pv 9) dv Z) (ak (dH (d4 PySem.F.plainAttrs_list PySem.F.slot_list_append PySem.F.type_list_append gQ (pv 2) (aF (pv 8)))))) aW)))) (ak (aV (aL kN (cT T.cH (pv 2)) (a6 T.ahC)) (ak (ax (bi (aF (a6 T.ahD))))) aW)))))))))) (ak (ax (bi (aX aH (cT T.cH (pv 2)))))))))),?_⟩
 try dsimp only[aO,Cx.aQ]
 refine⟨bu _,fun q1 mW=>?_⟩;refine fun z0 V0 DC alh aqg=>⟨z0,V0,_,_,Z,ah,fun H1 hz1 Ab=>⟨Z,be,fun pr V1=>?_⟩⟩
 have s0:aa H (upd H q1 (.lst [])):=aa.upd mW;have hq1:(upd H q1 (.lst [])) q1=some (.lst []):=ah;generalize upd H q1 (.lst [])=H0 at*;have s1:aa H0 H1:=aa.make (C:=A.mI) (fs:=[]) DC alh Ab;have Ac:=s0.trans s1;have hA1:fg A H1 z0 {at_:=x,way:=[]}:=⟨V0,c,q1,hz1,hP.same Ac,s1 _ _ hq1⟩
 have alm:=aa.free Ac V1;have s2:aa H1 (upd H1 pr (.lst [V.ref z0])):=aa.upd V1;have aln:(upd H1 pr (.lst [V.ref z0])) pr=some (.lst [V.ref z0]):=ah;generalize upd H1 pr (.lst [V.ref z0])=H2 at*;have Kg:=Ac.trans s2;intro pm Kh;have alo:=aa.free Kg Kh;have s3:aa H2 (upd H2 pm (.dT [])):=aa.upd Kh;refine⟨c,x,Z,hP.same (Kg.trans s3),fun t nt=>?_⟩;have xc:pm≠t:=fun e=>by subst e;rw[ah]at nt;cases nt
 refine⟨by rw[ao xc,ah],t,keyOf x,Z,by rw[ah];rfl,?_⟩;have s4:aa H2 (upd (upd (upd H2 pm (.dT [])) t (.tup [.int (x.p:Nat),.int (x.s:Nat),.int (x.b:Nat),.int (x.f:Nat)])) pm (.dT [(keyOf x,.bl true)])):=aa.bI (s3.trans (aa.upd nt)) Kh;have alp:(upd (upd (upd H2 pm (.dT [])) t (.tup [.int (x.p:Nat),.int (x.s:Nat),.int (x.b:Nat),.int (x.f:Nat)])) pm (.dT [(keyOf x,.bl true)])) pm=some (.dT [(keyOf x,.bl true)]):=ah;generalize upd (upd (upd H2 pm (.dT [])) t (.tup [.int (x.p:Nat),.int (x.s:Nat),.int (x.b:Nat),.int (x.f:Nat)])) pm (.dT [(keyOf x,.bl true)])=H4 at*;have s04:=Kg.trans s4;have C0:oh A H4 l pr pm [z0] [(keyOf x,.bl true)] [{at_:=x,way:=[]}]:=
  ⟨s4 _ _ aln,alp,.cons (hA1.same (s2.trans s4)) .nil,by simp,a9 _,fun kk=>by
   by_cases e:keyOf x=kk
   ·rw[kP e];simp[e]
   ·rw[kQ e,abk];simp[e],fun y m=>by rw[cA.mp m];exact ok,fun j y e=>by
   cases j with
   |zero=>cases e;exact a9 _
   |succ j=>simp at e⟩
 refine⟨I39_ H u l pl c x pr pm,?_,?_⟩
 ·refine⟨I40_ H u l pl c x pr pm,
   ⟨_,none,none,none,none,none,0,_,_,_,Z,Z,bu _,(by show 1≤400;decide),s04,C0,Z⟩,?_⟩
  rintro m σ H5 ⟨v5,v6,v7,v8,v9,i,as,kv,R,rfl,rfl,hi,hR,s5,C,bO⟩;have al:=Paired.length C.arr;refine⟨_,_,Z,.inl (ai.of C.row),_,_,Z,Z,_,Z,?_⟩;rw[aB,al];refine bK (fun h=>?_) (fun h=>?_)
  ·have hi:i<R.length:=by lia
   refine⟨fun σ' H'=>∃m',m'<401-i∧_,fun _ _ z=>z,?_⟩;obtain⟨y,hy⟩:∃y,R[i]?=some y:=⟨_,di hi⟩
   obtain⟨a,ha⟩:∃a,as[i]?=some a:=⟨_,di (by lia)⟩
   obtain⟨y',iy,hA⟩:=fc C.arr ha;rw[hy]at iy;have iy:=bS iy;subst iy;have l9:=C.ok y (dI hy);have ywl:=C.way i y hy;rw[show 401-i=(400-i)+1 by lia,alb hy]at bO;obtain⟨da,pa,le,V2,V3,hle⟩:=id hA;obtain⟨dp,iD⟩:=id V3;refine⟨pr,_,_,_,Z,Z,ai.of C.row,bX (j:=i) (by rw[cR,ha];rfl),?_⟩;refine⟨_,Z,_,_,Z,Z,?_⟩;refine(ag V2 T.tU Z (ag iD T.fQ Z ⟨Z,_,Z,bK (fun h=>?_) (fun h=>?_)⟩))
   ·have e:y.at_.p=0:=by injection h with h;lia
    rw[if_pos e]at bO;exact⟨401-(i+1),by lia,_,_,_,_,_,i+1,as,kv,R,Z,Z,by lia,hR,s5,C,by rw[bO];congr 1;lia⟩
   have alr:y.at_.p≠0:=fun e=>h (by rw[e];rfl);rw[if_neg alr]at bO;have fZ:=hL.same s5;have hu5:=uF.same s5;refine(ag V2 T.tU Z ⟨u,r,l,pl,pa,y.at_,Z,fZ,hu5,V3,gJ l9,fun H6 z s6 nz hS=>?_⟩);have Ad:=s5.trans s6;have js:=VP (x:=y.at_) hL.ok.caches uF.ok;refine⟨u,r,l,pl,a,y,z,jq l pl y.at_,Z,hL.same Ad,uF.same Ad,hA.same s6,hS,js,l9.b,by lia,?_⟩;have bad:∀w ks,rE l pl x=.fails w ks→∀H7 p,aa H6 H7→H6 p=none→H7 p=some (.lst (nats (0::w::ks.length::ks)))→Q (.ref p) H7:=fun w ks e H7 p s7 np hp=>k H7 p (Ad.trans s7) (aa.free Ad np) (by rw[e,ald];exact hp);cases fK:jq l pl y.at_ with
   |error w=>
    rw[fK]at bO;exact fun H7 p s7 np hp=>⟨Z,_,Z,cP (bad w _ bO H7 p s7 np hp)⟩
   |ok st=>
    obtain⟨tt,g⟩:=st;rw[fK]at bO js hS;obtain⟨gm,wX,wQ⟩:=id js;have dj:=hL.ok.dJ g gm;unfold J9;cases h_:jp l y.at_ tt g with
    |some j=>
     simp only[h_]at bO;simp only[h_,i_];rw[Sd]at bO;exact fun H7 p s7 np hp=>⟨Z,_,Z,cP (bad 1 _ bO H7 p s7 np hp)⟩
    |none=>
     simp only[h_]at bO;simp only[h_,zW];refine fun H7 s7=>⟨Z,_,Z,cV ?_⟩
     have l3:=Ad.trans s7;have Ki:=s6.trans s7;refine⟨fun(σ:L2.St) H'=>∃v8 v9 j9 gp R',σ=[some (.ref u.a),some (.ref c),some (.ref pr),some (.ref pm),some (.int ((i+1:Nat):Int)),some (.ref a),some (.ref z),some .aC,v8,v9]∧aa H H'∧oh A H' l pr pm j9 gp R'∧R'=(jt l y tt g (a_ g y.at_.b+1)).foldl lu R,?_,?_⟩
     ·refine⟨u,r,l,pl,a,y,z,tt,g,Z,hL.same l3,uF.same l3,hA.same Ki,hS.same s7,js,l9.b,by lia,h_,fun H8 pb bs s8 V4 V6 hB=>?_⟩;have nl:(jt l y tt g (a_ g y.at_.b+1)).length≤13:=by
       unfold jt;rw[aB,ia];unfold a_;have:=l9.b
       lia
      have nok:=ale (n:=a_ g y.at_.b+1) hL.ok l9 (t:=tt) gm;generalize jt l y tt g (a_ g y.at_.b+1)=NX at*;have C8:=C.same (Ki.trans s8);have alv:pb≠pr:=fun e=>by subst e;rw[Ki _ _ C.row]at V4;cases V4
      have bl:=Paired.length hB;refine⟨pb,Z,⟨_,ai.of V6⟩,kL (K:=K) (a:=pb) (xs:=bs.map V.ref)
       (fun j σ H'=>∃v8 v9 j9 gp R',σ=[some (.ref u.a),some (.ref c),some (.ref pr),some (.ref pm),some (.int ((i+1:Nat):Int)),some (.ref a),some (.ref z),some .aC,v8,v9]∧aa H H'∧oh A H' l pr pm j9 gp R'∧H' pb=some (.lst (bs.map V.ref))∧Paired (fg A H') bs NX∧R'=(NX.take j).foldl lu R)
       ⟨_,_,as,kv,R,Z,l3.trans s8,C8,V6,hB,Z⟩ (fun j σ H' _ ⟨_,_,_,_,_,_,_,_,q,_⟩=>ai.of q) ?_ ?_⟩
      ·rintro j yv σ H9 hj ⟨v8,v9,j9,gp,R',rfl,s9,C9,V7,Kj,eR⟩;obtain⟨b,hb,rfl⟩:=cY hj;obtain⟨z2,tz,hAb⟩:=fc Kj hb;obtain⟨db,pa2,le2,oT,l4,aqj⟩:=id hAb;have V8:=nok z2 (dI tz);have R'l:=Ke (NX.take j) R;rw[←eR,eW]at R'l;refine(ag oT T.tU Z ⟨pa2,z2.at_,Z,l4,fun t2 mT=>?_⟩);have fM:=aa.upd (o:=.tup [.int (z2.at_.p:Nat),.int (z2.at_.s:Nat),.int (z2.at_.b:Nat),.int (z2.at_.f:Nat)]) mT;have Kk:(upd H9 t2 (.tup [.int (z2.at_.p:Nat),.int (z2.at_.s:Nat),.int (z2.at_.b:Nat),.int (z2.at_.f:Nat)])) t2=some (.tup ((keyOf z2.at_).map kV)):=ah;generalize upd H9 t2 (.tup [.int (z2.at_.p:Nat),.int (z2.at_.s:Nat),.int (z2.at_.b:Nat),.int (z2.at_.f:Nat)])=HA at*;have CA:=C9.same fM;have V9:=s9.trans fM;have Kl:=fM _ _ V7;have V_:Paired (fg A HA) bs NX:=cG (R:=fg A) (fun _ _ q=>q.same fM) Kj;refine⟨pm,_,Z,fW.t (k:=keyOf z2.at_) CA.met Kk,_,Z,?_⟩;rw[CA.key];have DD:lu R' z2=if(R'.any fun q=>decide (keyOf q.at_=keyOf z2.at_))=true then R' else R'++[z2]:=by
        unfold lu;simp only[ak9]
       have Wa:(NX.take (j+1)).foldl lu R=lu R' z2:=by rw[Jk tz,←eR]
       refine bj (fun h=>?_) (fun h=>?_)
       ·rw[h8]at h;rw[h,if_neg cb]at DD;have k_:=CA.k_;refine⟨pm,_,Z,nA.t (k:=keyOf z2.at_) CA.met Kk (by show gp.length<16777216;lia),?_⟩;have xf:(upd HA pm (.dT (putK gp (keyOf z2.at_) (.bl true)))) pr=some (.lst (j9.map V.ref)):=by rw[ao (cE CA.row CA.met (by intro z;cases z))];exact CA.row
        have Wb:(upd HA pm (.dT (putK gp (keyOf z2.at_) (.bl true)))) pm=some (.dT (putK gp (keyOf z2.at_) (.bl true))):=ah;have sB:aa H (upd HA pm (.dT (putK gp (keyOf z2.at_) (.bl true)))):=aa.bI V9 alo;have Wd:Paired (fg A (upd HA pm (.dT (putK gp (keyOf z2.at_) (.bl true))))) j9 R':=cG (R:=fg A) (fun _ _ q=>q.put CA.met) CA.arr;have We:Paired (fg A (upd HA pm (.dT (putK gp (keyOf z2.at_) (.bl true))))) bs NX:=cG (R:=fg A) (fun _ _ q=>q.put CA.met) V_;have alz:(upd HA pm (.dT (putK gp (keyOf z2.at_) (.bl true)))) pb=some (.lst (bs.map V.ref)):=by rw[ao (cE Kl CA.met (by intro z;cases z))];exact Kl
        generalize upd HA pm (.dT (putK gp (keyOf z2.at_) (.bl true)))=HB at*;have Wf:=Paired.length Wd;have Aa:=CA.Aa;refine⟨.inl ⟨Z,_,ai.of xf⟩,pr,_,_,Z,Z,xf,(by rw[aB];show _<16777216;lia),?_⟩;refine⟨_,_,j9++[b],putK gp (keyOf z2.at_) (.bl true),R'++[z2],Z,aa.bI sB alm,⟨by rw[ah,b9];rfl,by rw[ao (cE Wb xf (by intro z;cases z))];exact Wb,?_,by simp,?_,?_,?_,?_⟩,by rw[ao alv];exact alz,cG (R:=fg A) (fun _ _ q=>q.grow xf Aa) We,by rw[Wa,DD]⟩
        ·have hAB:=fc We hb;obtain⟨z3,DE,hA3⟩:=hAB;rw[tz]at DE;have DE:=bS DE;subst DE;exact nW (hA3.grow xf Aa) (cG (R:=fg A) (fun _ _ q=>q.grow xf Aa) Wd)
        ·have:=Fy gp (keyOf z2.at_) (.bl true);rw[bT,jB];lia
        ·intro kk;rw[sQ,List.any_append,mv,List.any_nil,Mp];by_cases e:kk=keyOf z2.at_
         ·rw[if_pos e,e];simp
         ·rw[if_neg e,CA.key,decide_eq_false (fun q=>e q.symm),Mp]
        ·intro q m;rcases e_.mp m with m|m
         ·exact CA.ok q m
         ·rw[cA.mp m];exact V8.1
        ·intro jj q e;by_cases hjj:jj<R'.length
         ·rw[EO hjj]at e;exact CA.way jj q e
         ·rw[Ma (by lia)]at e;have e0:jj-R'.length=0:=by
           have:=(du.mp e).1;simp at this;lia
          rw[e0]at e;cases e;rw[V8.2];lia
       ·rw[gU]at h;rw[h,if_pos Z]at DD;exact⟨_,_,j9,gp,R',Z,V9,CA,Kl,V_,by rw[Wa,DD]⟩
      ·rintro σ H9 ⟨v8,v9,j9,gp,R',rfl,s9,C9,V7,Kj,eR⟩;rw[aB,bl,fD]at eR;exact⟨_,_,j9,gp,R',Z,s9,C9,eR⟩
     ·rintro σ H8 ⟨v8,v9,j9,gp,R',rfl,s8,C8,eR⟩;have Wf:=Paired.length C8.arr;rw[←eR]at bO;refine⟨_,_,Z,.inl (ai.of C8.row),_,_,Z,Z,_,Z,?_⟩;rw[aB,Wf];refine bK (fun h=>?_) (fun h=>?_)
      ·rw[if_pos (show 400<R'.length by lia)]at bO;refine⟨be,fun p np=>k _ p (s8.trans (aa.upd np)) (aa.free s8 np) ?_⟩;rw[ah,bO];rfl
      ·rw[if_neg (show ¬400<R'.length by lia)]at bO;have:=Ke (jt l y tt g (a_ g y.at_.b+1)) R;rw[←eR]at this;exact⟨401-(i+1),by lia,_,_,_,_,_,i+1,j9,gp,R',Z,Z,by lia,by lia,s8,C8,by rw[bO];congr 1;lia⟩
  ·have e:i=R.length:=by lia
   refine⟨_,_,_,_,_,_,as,kv,R,Z,s5,C,?_⟩;rw[bO,show 401-i=(400-i)+1 by lia];show(match R[i]? with|none=>_|some x=>_)=_;rw[x5 (by lia)]
 ·rintro σ H5 ⟨v4,v5,v6,v7,v8,v9,as,kv,R,rfl,s5,C,e⟩;have al:=Paired.length C.arr;refine⟨_,_,Z,.inl (ai.of C.row),be,fun p np=>k _ p (s5.trans (aa.upd np)) (aa.free s5 np) ?_⟩;rw[ah,e,aB,al];rfl
def Wg(l:aJ)(x:ee)(k:Nat):Except Nat (Nat×cK)→Nat
 | .error w=>w
 | .ok st=>if a_ st.2 x.b<k then 5 else if dS l x.f st.1<st.2.least+k then 1 else 0
inductive Wh(A:aR)(vs:List V)(H:Hp)(Q:VK)(E:XK):Prop
 |mk:∀(u:PA) (r:LA) (l:aJ) (pl:iE) (c:ae) (x:ee) (z:ae) (st:Except Nat (Nat×cK)) (j:Nat),vs=[.ref u.a,.ref c,.ref z,.int j]→bq A H r l→eM A H u r l pl→c9 A H c x→rD A H z st→Dy l x st→(∀H',aa H H'→Q (.int (Wg l x j st)) H')→Wh A vs H Q E
theorem alD(T:Txt K mg A):T.HM.Ok P w mg base 5 (Wh A):=by
 refine T.HM.go aeI fun _ _ _ _ H _ Q E hr h=>?_;obtain⟨u,r,l,pl,c,x,z,st,j,rfl,hL,hu,hP,hS,js,k⟩:=h;refine⟨_,(af (aV (aL kM (aj 2) (a6 T.yR)) (ak (ax (aj 2))) aW) (af (aV (aL kN (pv 3) (aI (ue T) hr T.oW (aX (aj 2) (aj 1)))) (ak (ax (a6 T.ahB))) aW) (af (aV (aL de (aI (wK T) hr T.qI (gh (aj 0) (c8 (pv 1) (aj 2) (aj 2) (pv 3)))) bp) (ak (ax (a6 T.RY))) aW) (ak (ax (a6 T.yR)))))),?_⟩
 try dsimp only[aO,Cx.aQ]
 cases st with
 |error w=>
  obtain⟨dz,hz⟩:=hS;have w0:w≠0:=by rcases(show w=2∨w=3 from js)with e|e <;>rw[e]<;>decide
  refine(ag hz T.tS Z ⟨Z,_,Z,jL (fun h=>?_) (fun h=>absurd (by injection h with h;lia) w0)⟩);exact(ag hz T.tS Z (k H (aa.refl _)))
 |ok st=>
  obtain⟨dz,bb,hG,hz⟩:=hS;obtain⟨gm,t1,t2⟩:=js;have dj:=hL.ok.dJ _ gm;obtain⟨dp,hp⟩:=id hP;change ∀H',aa H H'→Q (.int ((if a_ st.2 x.b<j then 5 else if dS l x.f st.1<st.2.least+j then 1 else 0:Nat):Int)) H' at k;refine(ag hz T.tS Z ⟨Z,_,Z,jL (fun h=>absurd Z h) (fun _=>?_)⟩);refine(ag hz T.tT Z (ag hp T.jK Z ⟨bb,st.2,x.b,Z,hG,dj.2.1,_,_,Z,Z,_,Z,bK (fun h=>?_) (fun h=>?_)⟩))
  ·rw[if_pos (show a_ st.2 x.b<j by lia)]at k;exact k H (aa.refl _)
  ·rw[if_neg (show ¬a_ st.2 x.b<j by lia)]at k;have wR:a_ st.2 x.b≤x.b:=by unfold a_;lia
   refine(ag hu.ins T.o7 Z (ag hz T.y4 Z (ag hz T.tT Z ⟨r,l,c,x,st.1,bb,st.2,j,Z,hL,hP,t1,hG,t2,by lia,fun lost H1 s1=>?_,fun rj H1 c1 s1 nc1 wU=>?_⟩)))
   ·rw[if_pos (by lia)]at k;exact⟨Z,_,Z,cP (k H1 s1)⟩
   ·rw[if_neg (by lia)]at k;exact⟨Z,_,Z,cV (k H1 s1)⟩
set_option tactic.hygienic true in
theorem alF(l:aJ)(pl:iE)(k:Nat)(ks:List Nat)(x:ee)(h0:x.p≠0):iV l pl (k::ks) x=(match jq l pl x with
  | .error w=>([],w)
  | .ok st=>if a_ st.2 x.b<k then([],5)else if dS l x.f st.1<st.2.least+k then([],1)else
   ((st.2.b,(iS l x st.1 st.2 k).f)::(iV l pl ks (iS l x st.1 st.2 k)).1,(iV l pl ks (iS l x st.1 st.2 k)).2)):=by
 conv=>lhs;unfold iV
 simp only[if_neg h0,VY];cases fK:jq l pl x with
 |error w=>
  simp only
 |ok st=>
  obtain⟨t,g⟩:=st;have ap:∃y,uC pl x.p x.s x.b x.f=some y∧y.2.1=t∧d9 l x.p y.2.2=some g:=by
   unfold jq at fK;split at fK
   ·cases fK
   ·rename_i y hy;split at fK
    ·cases fK
    ·split at fK
     ·cases fK
     ·rename_i g' hg;cases fK;exact⟨y,hy,Z,hg⟩
  obtain⟨y,e1,e2,e3⟩:=ap;simp only;cases h_:jp l x t g with
  |none=>
   have rj:=VW h_;simp only;unfold jt;rw[cR];by_cases hk:k<a_ g x.b+1
   ·rw[j_ hk];have:=rj k hk;rw[if_neg (by lia),if_neg (by lia)];rfl
   ·rw[x5 (by rw[ia];lia),if_pos (by lia)];rfl
  |some j=>
   have hj:dS l x.f t<g.least+j:=by
    unfold jp at h_;have:=Gn h_;exact of_decide_eq_true this
   have MD:j<a_ g x.b+1:=by
    unfold jp at h_;exact ip.mp (Bt h_)
   have alG:∀m,m<j→g.least+m≤dS l x.f t:=fun m hm=>by
    unfold jp at h_;obtain⟨_,i,hi,e,q⟩:=List.find?_eq_some_iff_getElem.mp h_;rw[alH]at e;subst e;have:=q m hm;rw[alH]at this;simp only[h8,decide_eq_false_iff_not]at this
    lia
   simp only[e1,e3];by_cases hk:k<j
   ·have:=alG k hk;rw[if_pos hk,if_neg (by lia),if_neg (by lia)];subst e2;rfl
   ·rw[if_neg hk];by_cases hx:a_ g x.b<k
    ·rw[if_pos hx,if_pos hx]
    ·rw[if_neg hx,if_neg hx,if_pos (by lia)]
theorem Wi l pl x:iV l pl [] x=([],if x.p=0 then 0 else 4):=by
 unfold iV;rfl
theorem alI l pl ks(h:x.p=0):iV l pl ks x=([],0):=by
 cases ks with
 |nil=>rw[Wi,if_pos h]
 |cons k r=>unfold iV;simp only[if_pos h]
def jS(d:List (Nat×Nat)):List Nat:=d.flatMap fun y=>[y.1,y.2]
theorem Ae:∀d:List (Nat×Nat),(jS d).length=2*d.length
 |[]=>rfl
 |x::d=>by
  have:=Ae d;unfold jS at this ⊢;rw[pj,bT,this,b6];simp only[b6,ja];lia
def DF(z:List (Nat×Nat)×Nat):List Nat:=z.2::z.1.length::jS z.1
inductive Wj(A:aR)(vs:List V)(H:Hp)(Q:VK)(E:XK):Prop
 |mk:∀(u:PA) (r:LA) (l:aJ) (pl:iE) (c:ae) (x:ee) (e:ae) (ks:List Nat),vs=[.ref u.a,.ref c,.ref e]→bq A H r l→eM A H u r l pl→c9 A H c x→fw l x→H e=some (.lst (nats ks))→ks.length≤40→(∀H' p,aa H H'→H p=none→H' p=some (.lst (nats (DF (iV l pl ks x))))→Q (.ref p) H')→Wj A vs H Q E
inductive I43_(H:Hp)(u:PA)(l:Vbexab.Land)(pl:Vbexab.Plan)(x:Vbexab.At)(e:ae)(ks:List Nat)(p1:ae)(σ:L2.St)(H':Hp):Prop|mk v5 v6 v7 c' x' d:σ=[some (.ref u.a),some (.ref c'),some (.ref e),some (.int (d.length:Nat)),some (.ref p1),v5,v6,v7]→aa H H'→c9 A H' c' x'→H' p1=some (.lst (nats (jS d)))→d.length≤40→iV l pl ks x=(d,if x'.p=0 then 0 else 4)→I43_ H u l pl x e ks p1 σ H'
theorem alJ(T:Txt K mg A):T.HN.Ok P w mg base 6 (Wj A):=by
 refine T.HN.go oV fun _ _ _ _ H _ Q E hr h=>?_;obtain⟨u,r,l,pl,c,x,e,ks,rfl,hL,hu,hP,ok,he,hks,k⟩:=h;have gJ:∀{y:ee},fw l y→y.s<16:=fun{y} o=>dG o.s (jc (n:=2) (by decide) hL.ok.caches);refine⟨_,(af (aE 3 oV aH) (af (aE 4 oV (bi gA)) (af (cJ<|eV d8 rfl (fL (pv 2)) (bY 5 oV) (af (aV (aL cO (aj 1) (a6 T.tQ)) (ak Lo) aW) (af (aE 6 oV (aI (VR T) hr T.BY (aX (pv 0) (pv 1)))) (af (aE 7 oV (aI (alD T) hr T.HM (c8 (pv 0) (pv 1) (pv 6) (pv 5)))) (af (aV (aL kM (pv 7) (a6 T.yR)) (ak (ax (br my (bi (aX (pv 7) (pv 3))) (pv 4)))) aW) (af (aE 1 oV (aI (wK T) hr T.qI (gh (aj 0) (c8 (pv 1) (aj 6) (aj 6) (pv 5))))) (af (tD 3 oV aH u9) (ak (dH (d4 PySem.F.plainAttrs_list PySem.F.slot_list_extend PySem.F.type_list_extend qm (pv 4) (aF (bi (aX (aj 1) (aj 1)))))))))))))) (af (aE 7 oV (AE (aL cO (aj 1) (a6 T.tQ)) (a6 T.ahz) (a6 T.ahA))) (ak (ax (br my (bi (aX (pv 7) (pv 3))) (pv 4)))))))),?_⟩
 try dsimp only[aO,Cx.aQ]
 refine⟨bu _,fun p1 n1=>?_⟩;have s1:aa H (upd H p1 (.lst [])):=aa.upd n1;have eG:(upd H p1 (.lst [])) p1=some (.lst []):=ah;generalize upd H p1 (.lst [])=H1 at*;have out:∀(H2:Hp) (w:Nat) (d:List (Nat×Nat)),aa H H2→H2 p1=some (.lst (nats (jS d)))→d.length≤40→iV l pl ks x=(d,w)→∀q,H2 q=none→E4 (.ref q) (.ref p1) (upd H2 q (.lst [V.int (w:Nat),V.int (d.length:Nat)])) Q:=fun H2 w d s2 h2 hd ef q nq=>by
  have s3:=aa.upd (o:=.lst [V.int (w:Nat),V.int (d.length:Nat)]) nq;refine⟨q,p1,_,_,Z,Z,ah,s3 _ _ h2,?_,fun p np=>k _ p ((s2.trans s3).trans (aa.upd np)) (aa.free (s2.trans s3) np) ?_⟩
  ·rw[lj,Ae];show 2+_≤16777216;lia
  ·rw[ah,ef];rfl
 refine⟨I43_ H u l pl x e ks p1,?_,?_⟩
 ·refine⟨e,Z,⟨_,ai.of (s1 _ _ he)⟩,kL (K:=K) (a:=e) (xs:=nats ks)
   (fun i σ H'=>∃v5 v6 v7 c' x' d,σ=[some (.ref u.a),some (.ref c'),some (.ref e),some (.int (d.length:Nat)),some (.ref p1),v5,v6,v7]∧aa H H'∧c9 A H' c' x'∧fw l x'∧H' p1=some (.lst (nats (jS d)))∧d.length=i∧iV l pl ks x=(d++(iV l pl (ks.drop i) x').1,(iV l pl (ks.drop i) x').2))
   ⟨none,none,none,c,x,[],Z,s1,hP.same s1,ok,eG,Z,Z⟩ (fun i σ H' _ ⟨_,_,_,_,_,_,_,q,_⟩=>ai.of (q _ _ he)) ?_ ?_⟩
  ·rintro i yv σ H2 hi ⟨v5,v6,v7,c',x',d,rfl,s2,l4,DG,h2,hd,ef⟩;obtain⟨j,hj,rfl⟩:=cY hi;have oR:=(du.mp hj).1;obtain⟨dp,hp⟩:=id l4;rw[o_ hj]at ef;refine(ag hp T.fQ Z ⟨Z,_,Z,bK (fun h=>?_) (fun h=>?_)⟩)
   ·have e0:x'.p=0:=by injection h with h;lia
    rw[alI l pl _ e0,gi]at ef;exact⟨_,_,_,c',x',d,Z,s2,l4,h2,by lia,by rw[if_pos e0];exact ef⟩
   have x0:x'.p≠0:=fun e=>h (by rw[e];rfl);rw[alF l pl j _ x' x0]at ef;have js:=VP (x:=x') hL.ok.caches hu.ok;refine⟨u,r,l,pl,c',x',Z,hL.same s2,hu.same s2,l4,gJ DG,fun H3 z s3 nz hS=>?_⟩;have pA:=s2.trans s3;refine⟨u,r,l,pl,c',x',z,jq l pl x',j,Z,hL.same pA,hu.same pA,l4.same s3,hS,js,fun H4 s4=>?_⟩;have l6:=pA.trans s4;have h4:=s4 _ _ (s3 _ _ h2);have Wk:=hS.same s4;have Kn:=l4.same (s3.trans s4);generalize hn:Wg l x' j (jq l pl x')=nn;refine⟨Z,_,Z,?_⟩;cases fK:jq l pl x' with
   |error w=>
    rw[fK]at js ef hn;have hn:nn=w:=hn.symm;subst hn;have w0:nn≠0:=by rcases(show nn=2∨nn=3 from js)with e|e <;>rw[e]<;>decide
    refine jL (fun h=>?_) (fun h=>absurd (by injection h with h;lia) w0);rw[gi]at ef;exact⟨be,fun q nq=>(out H4 _ d l6 h4 (by lia) ef q nq)⟩
   |ok st=>
    obtain⟨t,g⟩:=st;rw[fK]at js ef Wk hn;obtain⟨gm,t1,t2⟩:=js;obtain⟨dz,bb,hG,hz⟩:=Wk;have dj:=hL.ok.dJ _ gm;change (if a_ g x'.b<j then 5 else if dS l x'.f t<g.least+j then 1 else 0)=nn at hn;simp only at ef;by_cases cx:a_ g x'.b<j
    ·rw[if_pos cx]at ef hn;subst hn;rw[gi]at ef;refine jL (fun h=>?_) (fun h=>absurd h (by decide));exact⟨be,fun q nq=>(out H4 5 d l6 h4 (by lia) ef q nq)⟩
    ·rw[if_neg cx]at ef hn;by_cases cl:dS l x'.f t<g.least+j
     ·rw[if_pos cl]at ef hn;subst hn;rw[gi]at ef;refine jL (fun h=>?_) (fun h=>absurd h (by decide));exact⟨be,fun q nq=>(out H4 1 d l6 h4 (by lia) ef q nq)⟩
     ·rw[if_neg cl]at ef hn;subst hn;refine jL (fun h=>absurd Z h) (fun _=>?_);have wR:a_ g x'.b≤x'.b:=by unfold a_;lia
      have o2:=DG.s;have o3:=DG.b;have zE:fw l (iS l x' t g j):=⟨dj.2.2.2.2,by show x'.s-t<_;lia,by show x'.b-j≤8;lia,by show dS l x'.f t-_≤60;have:=zD l x'.f t;have:=hL.ok.most;lia⟩
      refine(ag ((hu.same l6).ins) T.o7 Z (ag hz T.y4 Z (ag hz T.tT Z ⟨r,l,c',x',t,bb,g,j,Z,hL.same l6,Kn,t1,hG,t2,by lia,fun lost H5 s5=>absurd lost (by lia),fun _ H5 c5 s5 nc5 Dh=>?_⟩)));obtain⟨d5,rh⟩:=id Dh;have h5:=s5 _ _ h4;refine⟨_,Z,_,_,Z,Z,?_⟩;refine⟨.inl ⟨Z,_,ai.of h5⟩,ag rh T.fQ Z (ag rh T.qL Z ⟨be,fun q nq=>?_⟩)⟩;have s6:=aa.upd (o:=.lst [V.int ((iS l x' t g j).p:Nat),V.int ((iS l x' t g j).f:Nat)]) nq;refine⟨p1,q,_,_,Z,Z,s6 _ _ h5,ah,?_,?_⟩
      ·rw[lj,Ae];show _+2≤16777216;lia
      have z_:=l6.trans (s5.trans s6);refine⟨some (.int (j:Nat)),some (.ref z),some (.int ((0:Nat):Int)),c5,iS l x' t g j,d++[(g.b,(iS l x' t g j).f)],?_,aa.bI z_ n1,?_,zE,?_,by rw[bT,jB];lia,?_⟩
      ·rw[bT,jB];rfl
      ·refine⟨d5,?_⟩;rw[ao (cE (s6 _ _ rh) (s6 _ _ h5) (by intro z;cases z))];exact s6 _ _ rh
      ·rw[ah];unfold jS;rw[JF,uD];rfl
      ·rw[ef];simp
  ·rintro σ H2 ⟨v5,v6,v7,c',x',d,rfl,s2,l4,DG,h2,hd,ef⟩;rw[lj,qw,Wi,gi]at ef;exact⟨_,_,_,c',x',d,Z,s2,l4,h2,by rw[lj]at hd;lia,ef⟩
 ·rintro σ H2 ⟨v5,v6,v7,c',x',d,rfl,s2,⟨dp,hp⟩,h2,hd,ef⟩;refine(ag hp T.fQ Z ⟨Z,_,Z,?_⟩);by_cases c0:x'.p=0
  ·rw[if_pos c0]at ef;refine dR (d:=true) (decide_eq_true (by rw[c0];rfl)) (cP ?_);exact⟨be,fun q nq=>(out H2 0 d s2 h2 hd ef q nq)⟩
  ·rw[if_neg c0]at ef;refine dR (d:=false) (decide_eq_false (fun z=>c0 (by injection z with z;lia))) (cV ?_);exact⟨be,fun q nq=>(out H2 4 d s2 h2 hd ef q nq)⟩
def gY(l:aJ):List (Nat×Nat)→Nat→Nat→Option (List (Nat×cK))
 |[],_,_=>some []
 |(t,q)::r,p,s=>if fY l p s t=false then none else match d9 l p q with
  |none=>none
  |some g=>(gY l r g.b (s-t)).map fun y=>(kW l t,g)::y
def kC(A:aR)(H:Hp)(a:ae)(x:Nat×cK):Prop:=∃dx b,H a=some (.ins A.nN dx [("rations",.int (x.1:Nat)),("leg",.ref b)])∧dO A H b x.2
theorem kC.same(s:aa H H')(h:kC A H a x):kC A H' a x:=let ⟨d,b,q1,q2⟩:=h;⟨d,b,s _ _ q1,q2.same s⟩
theorem kC.put(h:kC A H a x)(hp:H p=some (.lst ys)):kC A (upd H p (.lst zs)) a x:=by
 obtain⟨d,b,q1,⟨db,q2⟩⟩:=h;exact⟨d,b,by rw[ao (cE q1 hp (by intro z;cases z))];exact q1,⟨db,by rw[ao (cE q2 hp (by intro z;cases z))];exact q2⟩⟩
theorem rF(h:d9 l p q=some g):g∈l.legs∧g.a=p∧g.b=q:=by
 refine⟨Bt h,?_⟩;have:=Gn h;rw[dA,beq_iff_eq,beq_iff_eq]at this;exact this
theorem Wl:∀{ps}{p s}{bZ},gY l ps p s=some bZ→bZ.length=ps.length∧∀x∈bZ,x.2∈l.legs
 |[],p,s,bZ,h=>by cases h;exact⟨Z,fun x m=>by cases m⟩
 |(t,q)::r,p,s,bZ,h=>by
  unfold gY at h;split at h
  ·cases h
  ·cases e:d9 l p q with
   |none=>rw[e]at h;cases h
   |some g=>
    rw[e]at h;obtain⟨y,e1,e2⟩:=fP.mp h;have ih:=Wl e1;subst e2;refine⟨by simp[ih.1],fun x m=>?_⟩;rcases b_.mp m with rfl|m
    ·exact(rF e).1
    ·exact ih.2 x m
theorem alK:∀k:Nat,k<13→yf 0 ((2*k:Nat):Int) 2 k:=fun k hk=>by
 have h:∀k:Nat,k<13→abM 0 ((2*k:Nat):Int) 2=true∧Es 0 ((2*k:Nat):Int) 2=k:=by decide
 exact⟨by decide,by decide,(h k hk).1,(h k hk).2⟩
theorem Wm:∀{ps}{i}{x},ps[i]?=some x→(jS ps)[2*i]?=some x.1∧(jS ps)[2*i+1]?=some x.2
 |[],i,x,h=>by simp at h
 |y::ps,0,x,h=>by cases h;exact⟨Z,Z⟩
 |y::ps,i+1,x,h=>by
  have ih:=Wm (ps:=ps) (i:=i) (x:=x) (by simpa using h);exact⟨ih.1,ih.2⟩
theorem Ko{i n:Nat}(h:L[i]?=some n):(nats L)[i]?=some (V.int (n:Nat)):=by unfold nats;rw[cR,h];rfl
inductive Wn(A:aR)(vs:List V)(H:Hp)(Q:VK)(E:XK):Prop
 |mk:∀(r:LA) (l:aJ) (p s:Nat) (e:ae) (ps:List (Nat×Nat)),vs=[.ref r.a,.int p,.int s,.ref e]→bq A H r l→H e=some (.lst (nats (jS ps)))→ps.length≤12→(∀x∈ps,x.1<16)→(gY l ps p s=none→∀H',aa H H'→Q .aC H')→(∀bZ,gY l ps p s=some bZ→∀H' q as,aa H H'→H q=none→H' q=some (.lst (as.map V.ref))→Paired (kC A H') as bZ→Q (.ref q) H')→Wn A vs H Q E
inductive I45_(H:Hp)(r:LA)(l:Vbexab.Land)(p s0:Nat)(e:ae)(ps:List (Nat×Nat))(p1:ae)(σ:L2.St)(H':Hp):Prop|mk v1 v2 v5 v6 v7 as bZ:σ=[some (.ref r.a),v1,v2,some (.ref e),some (.ref p1),v5,v6,v7]→aa H H'→H' p1=some (.lst (as.map V.ref))→Paired (kC A H') as bZ→gY l ps p s0=some bZ→I45_ H r l p s0 e ps p1 σ H'
inductive I47_(r:LA)(l:Vbexab.Land)(e p1:ae)(i:Nat)(H2:Hp)(p' s' t q:Nat)(σ:L2.St)(H':Hp):Prop|mk (v:V) (o:Option cK):σ=[some (.ref r.a),some (.int (p':Nat)),some (.int (s':Nat)),some (.ref e),some (.ref p1),some (.int ((2*i:Nat):Int)),some (.int (t:Nat)),some v]→H'=H2→d9 l p' q=o→(match o with|none=>v=.aC|some g=>∃bb,v=.ref bb∧dO A H2 bb g)→I47_ r l e p1 i H2 p' s' t q σ H'
theorem alL(T:Txt K mg A):T.HZ.Ok P w mg base 4 (Wn A):=by
 refine T.HZ.go tL fun _ _ _ _ H _ Q E hr h=>?_;obtain⟨r,l,p,s0,e,ps,rfl,hL,he,Wo,gJ,k0,k1⟩:=h;refine⟨_,(af (aE 4 tL (bi gA)) (af (cJ<|eV d8 rfl (M5 rfl T.mK (cS aH (cT T.cH (pv 3)) aH)) (bY 5 tL) (af (aE 6 tL (bM cF (pv 3) (pv 5))) (af (cJ<|aE 7 tL (aI (qU T) hr T.nP (cS (pv 0) (pv 1) (bM cF (pv 3) (br dX (pv 5) aH))))) (af (aV (fk (PW.pt (eO (aL de (pv 7) bp) (gz (jX (gg (aI (CT T) hr T.wq (c8 (pv 0) (pv 1) (pv 2) (pv 6))))))))) (ak (ax bp)) aW) (af (dH (d4 PySem.F.plainAttrs_list PySem.F.slot_list_append PySem.F.type_list_append gQ (pv 4) (aF (gk (aiJ T) hr T.ah0 T.HY (aX (aI (IZ T) hr T.yX (aX (pv 0) (pv 6))) (pv 7)))))) (af (tD 2 tL (pv 6) YU) (ak (aE 1 tL (aj 7))))))))) (ak (ax (pv 4))))),?_⟩
 try dsimp only[aO,Cx.aQ]
 refine⟨bu _,fun p1 n1=>?_⟩;have s1:aa H (upd H p1 (.lst [])):=aa.upd n1;have eG:(upd H p1 (.lst [])) p1=some (.lst []):=ah;generalize upd H p1 (.lst [])=H1 at*;refine⟨I45_ H r l p s0 e ps p1,?_,?_⟩
 ·refine⟨_,_,Z,.inl (ai.of (s1 _ _ he)),0,((2*ps.length:Nat):Int),2,ps.length,by rw[lj,Ae],alK _ (by lia),?_⟩;refine M6 (lo:=0) (c:=2) (n:=ps.length) (fun i σ H'=>∃v5 v6 v7 p' s' as bZ,σ=[some (.ref r.a),some (.int (p':Nat)),some (.int (s':Nat)),some (.ref e),some (.ref p1),v5,v6,v7]∧aa H H'∧H' p1=some (.lst (as.map V.ref))∧Paired (kC A H') as bZ∧bZ.length=i∧gY l ps p s0=(gY l (ps.drop i) p' s').map fun y=>bZ++y)
   ⟨none,none,none,p,s0,[],[],Z,s1,eG,.nil,Z,by rw[vT];cases gY l ps p s0 <;>rfl⟩ ?_ ?_
  ·rintro i σ H2 hi ⟨v5,v6,v7,p',s',as,bZ,rfl,s2,cX,hC,cz,bO⟩;obtain⟨⟨t,q⟩,hx⟩:∃x,ps[i]?=some x:=⟨_,di hi⟩
   have hf:=Wm hx;have gW:=gJ _ (dI hx);have Wp:=s2 _ _ he;have dn:=hL.same s2;have al:=Paired.length hC;rw[o_ hx]at bO;rw[show(0:Int)+(i:Nat)*2=((2*i:Nat):Int) by lia];refine⟨e,_,_,_,Z,Z,ai.of Wp,bX (Ko hf.1),?_⟩;refine⟨I47_ r l e p1 i H2 p' s' t q,?_,?_⟩
   ·exact⟨_,_,Z,Z,e,_,_,_,Z,Z,ai.of Wp,uv (Ko hf.2),r,l,p',q,Z,dn,fun e2=>⟨.aC,none,Z,Z,e2,Z⟩,fun g i' bb e2 fF mE hG=>⟨.ref bb,some g,Z,Z,e2,bb,Z,hG⟩⟩
   rintro σ H2 ⟨v,o,rfl,rfl,eo,hv⟩;refine⟨o.isNone|| !Vbexab.takes l p' s' t,fun Q' q'=>?_,fun H3 s3=>?_⟩
   ·refine⟨Z,_,Z,?_⟩;have ev:decide (v=V.aC)=o.isNone:=by
     cases o with
     |none=>rw[show v=.aC from hv];rfl
     |some x=>obtain⟨w,e,_⟩:=hv;rw[e];rfl
    rw[ev];refine bj (fun h=>?_) (fun h=>?_)
    ·have q':=q' H2 (aa.refl _);rw[h]at q';exact q'
    ·rw[h,gE]at q';exact⟨r,l,p',s',t,Z,dn,gW,fun H3 s3=>⟨_,Z,q' H3 s3⟩⟩
   ·have gK:=s2.trans s3;have lW:=hL.same gK;refine bj (fun h=>?_) (fun h=>?_)
    ·refine k0 ?_ H3 gK;rw[bO];have:gY l ((t,q)::ps.drop (i+1)) p' s'=none:=by
      unfold gY;cases ht:fY l p' s' t with
      |false=>exact if_pos Z
      |true=>
       rw[if_neg (by decide),eo];cases o with
       |none=>rfl
       |some g=>rw[ht]at h;cases h
     rw[this];rfl
    ·rw[lV,gU]at h;cases o with
     |none=>exact absurd h.1 (by decide)
     |some g=>
      obtain⟨bb,rfl,hG⟩:=hv;have gb:=rF eo;have tl:=xa gW h.2;have es:gY l ((t,q)::ps.drop (i+1)) p' s'=(gY l (ps.drop (i+1)) g.b (s'-t)).map fun y=>(kW l t,g)::y:=by
       conv=>lhs;unfold gY
       rw[h.2,if_neg (by decide),eo]
      rw[es]at bO;have li:=s3 _ _ cX;refine⟨.inl ⟨Z,_,ai.of li⟩,?_⟩;refine⟨r,l,t,Z,lW,tl.2,fun H4 s4=>?_⟩;refine(fun z dz nz dP iC=>⟨z,dz,_,_,Z,ah,fun H5 hz5 Kp=>⟨Z,?_⟩⟩);have s5:aa H4 H5:=aa.make (C:=A.nN) (fs:=[]) nz dP Kp;have pM:=s4.trans s5;have Kq:=s3.trans pM;have rm:=pM _ _ li;have Wq:=hG.same Kq;obtain⟨dg,Wr⟩:=id Wq;refine⟨p1,_,_,Z,Z,rm,(by rw[aB];show _<16777216;lia),?_⟩;refine⟨_,Z,_,_,Z,Z,?_⟩;have hg6:(upd H5 p1 (.lst (as.map V.ref++[V.ref z]))) bb=some (.ins A.Leg dg (IH g)):=by rw[ao (cE Wr rm (by intro z;cases z))];exact Wr
      refine(ag hg6 T.nQ Z ⟨some (.int ((2*i:Nat):Int)),some (.int (t:Nat)),some (.ref bb),g.b,s'-t,as++[z],bZ++[(kW l t,g)],?_,aa.bI (s2.trans Kq) n1,by rw[ah,b9];rfl,?_,by rw[bT,jB];lia,?_⟩)
      ·rw[show((s'-t:Nat):Int)=(s':Int)-(t:Int) by lia];rfl
      ·exact nW (kC.put ⟨dz,bb,hz5,Wq⟩ rm) (cG (R:=kC A) (H:=H5) (fun _ _ q=>q.put rm) (cG (R:=kC A) (fun _ _ q=>q.same Kq) hC))
      ·rw[bO];cases gY l (ps.drop (i+1)) g.b (s'-t)with
       |none=>rfl
       |some y=>simp
  ·rintro σ H2 ⟨v5,v6,v7,p',s',as,bZ,rfl,s2,cX,hC,cz,bO⟩;rw[qw]at bO;refine⟨_,_,_,_,_,as,bZ,Z,s2,cX,hC,?_⟩;rw[bO];show(some []).map _=_;simp
 ·rintro σ H2 ⟨v1,v2,v5,v6,v7,as,bZ,rfl,s2,cX,hC,e⟩;exact(k1 bZ e H2 p1 as s2 n1 cX hC)
def ol(g:cK)(N:List Nat)(b n:Nat):List Nat:=(bP n).map fun k=>g.least+k+N.getD (b-k) 0
def DH(m:Nat)(x:Nat×cK)(N:List Nat)(b:Nat):Nat:=if m<(ol x.2 N b (a_ x.2 b+1)).foldl max 0 then 1000 else(ol x.2 N b (a_ x.2 b+1)).foldl max 0-x.1
theorem fold_max:∀(L:List Nat) a,(∀v,L.foldl max a≤v↔a≤v∧∀y∈L,y≤v)
 |[],a,v=>by simp
 |x::L,a,v=>by
  rw[nv,fold_max L (max a x) v];simp only[b_,forall_eq_or_imp];constructor
  ·rintro⟨h1,h2⟩;exact⟨by lia,by lia,h2⟩
  ·rintro⟨h1,h2,h3⟩;exact⟨by lia,h3⟩
theorem alO{L:List Nat}(h1:m∈L)(h2:∀y∈L,y≤m):L.foldl max 0=m:=by
 apply ad5
 ·exact(fold_max L 0 m).mpr ⟨bu _,h2⟩
 ·exact((fold_max L 0 _).mp (a9 _)).2 m h1
inductive Ws(A:aR)(vs:List V)(H:Hp)(Q:VK)(E:XK):Prop
 |mk:∀(m:Nat) (c:ae) (x:Nat×cK) (e:ae) (N:List Nat) (b:Nat),vs=[.int m,.ref c,.ref e,.int b]→kC A H c x→x.2.least≤x.2.most→x.2.most≤12→H e=some (.lst (nats N))→b<N.length→b≤8→(∀H',aa H H'→Q (.int (DH m x N b)) H')→Ws A vs H Q E
theorem alP(T:Txt K mg A):T.H_.Ok P w mg base 2 (Ws A):=by
 refine T.H_.go BG fun _ _ _ _ H _ Q E hr h=>?_;obtain⟨m,c,x,e,N,b,rfl,⟨dc,bb,hc,hG⟩,hlm,h12,he,hb,jk,k⟩:=h;refine⟨_,(af (aE 4 BG (gB (aaI Z) (by rfl) T.wk zr (aF (i8 Z BG.nd (qe Z T.mK (aF (br dX (aI (ue T) hr T.oW (aX (aj 1) (pv 3))) aH))) (hZ (N:=["limit","stage","needs","storms","cost","extra"]) (sc:=aG GG) (own:=[("extra",5)]) (by decide+kernel)) (fun _ _ _ _ _=>(bY 5 BG)) (fun _ _ _ _ _=>j6) (fun _ _ _ _ _=>(br dX (br dX (jg (K0:=K) Z (jg (K0:=K) Z (pv 1) Z) Z) (pv 5)) (bM (zd (K0:=K) Z) (pv 2) (br iu (pv 3) (pv 5))))))))) (af (aV (aL kN (pv 4) (pv 0)) (ak (ax (a6 T.BN))) aW) (ak (ax (gB (xK Z) (by rfl) T.wk zr (aX aH (br iu (pv 4) (aj 1)))))))),?_⟩
 try dsimp only[aO,Cx.aQ]
 have wR:a_ x.2 b≤b:=by unfold a_;lia
 refine(ag hc T.Ir Z ⟨bb,x.2,b,Z,hG,hlm,_,_,Z,Z,(a_ x.2 b:Int)+1,Z,by lia,by lia,?_⟩);rw[show((a_ x.2 b:Int)+1).toNat=a_ x.2 b+1 by lia];refine fun D nD=>Fx (lo:=0) (n:=a_ x.2 b+1) (fun i H'=>aa H H'∧H' D=some (.lst (nats (ol x.2 N b i)))) ⟨aa.upd nD,ah⟩ ?_ ?_
 ·rintro i H1 hi ⟨s1,h1⟩;rw[uc];obtain⟨dg,hg⟩:=hG.same s1;refine⟨Z,ag (s1 _ _ hc) T.Ir Z (ag hg T.oZ Z ⟨_,_,Z,Z,?_⟩)⟩;have hbi:b-i<N.length:=by lia
  refine⟨_,_,Z,Z,e,_,_,V.int ((N.getD (b-i) 0:Nat):Int),Z,Z,ai.of (s1 _ _ he),?_,_,_,Z,Z,?_⟩
  ·rw[show(b:Int)-(i:Int)=((b-i:Nat):Int) by lia];exact bX (zu hbi)
  ·refine⟨_,h1,?_,aa.bI s1 nD,?_⟩
   ·rw[lj];unfold ol;rw[aB,ia];show _<16777216;lia
   ·rw[ah];unfold ol;rw[tH,b9,uD];rfl
 ·rintro H1 ⟨s1,h1⟩;refine⟨D,(ol x.2 N b (a_ x.2 b+1)).map (fun(n:Nat)=>(n:Int)),Z,ai.of (by rw[h1];unfold nats;rw[jf];rfl),?_,fun M hM hMx=>?_⟩
  ·rw[aB];unfold ol;rw[aB,ia];lia
  obtain⟨mm,hmm,rfl⟩:=mB.mp hM;have em:=alO hmm fun y hy=>by
   have:=hMx (y:Int) (mB.mpr ⟨y,hy,Z⟩)
   lia
  have:=k H1 s1;unfold DH at this;rw[em]at this;refine⟨_,_,Z,Z,_,Z,bK (fun h=>?_) (fun h=>?_)⟩
  ·rw[if_pos (by lia)]at this;exact this
  ·rw[if_neg (by lia)]at this;refine(ag (s1 _ _ hc) T.R6 Z ⟨_,_,Z,Z,_,_,Z,?_⟩);have e:(if(mm:Int)-(x.1:Int)>0 then(mm:Int)-(x.1:Int)else 0)=((mm-x.1:Nat):Int):=by split <;>lia
   show Q (V.int (if(mm:Int)-(x.1:Int)>0 then(mm:Int)-(x.1:Int)else 0)) H1;rw[e];exact this
def rn(l:aJ):List (Nat×cK)→Nat→wL
 |[],_=>some 0
 |x::r,c=>alU l x.1 (uG x.2 c (rn l r))
theorem Wt:∀bZ c n,rn l bZ c=some n→n≤l.most
 |[],c,n,h=>by cases h;exact bu _
 |x::r,c,n,h=>by
  unfold rn at h;cases e:uG x.2 c (rn l r)with
  |none=>rw[e]at h;cases h
  |some v=>
   rw[e]at h;change (if l.most<v then none else some (v-x.1))=some n at h;split at h
   ·cases h
   ·cases h;lia
theorem alV(hm:l.most≤60){f:Nat→wL}(hN:∀c,c≤b→N.getD c 0=fv (f c))(hf:∀c n,f c=some n→n≤l.most):DH l.most x N b=fv (alU l x.1 (uG x.2 b f)):=by
 unfold DH;have key:∀v,v<1000→((ol x.2 N b (a_ x.2 b+1)).foldl max 0≤v↔M.dM (uG x.2 b f) v):=fun v hv=>by
  rw[fold_max,M.Bs];unfold ol;simp only[mB,ip,bu,true_and];constructor
  ·intro h k hk;have h1:=h _ ⟨k,by lia,Z⟩;rw[hN _ (by lia)]at h1;obtain⟨n,e1,e2⟩:=Ju h1 hv;exact⟨n,e1,by lia⟩
  ·rintro h y ⟨k,hk,rfl⟩;obtain⟨n,e1,e2⟩:=h k (by lia);rw[hN _ (by lia),e1];exact e2
 generalize (ol x.2 N b (a_ x.2 b+1)).foldl max 0=C at key;cases e:uG x.2 b f with
 |none=>
  rw[e]at key;have:¬C≤999:=fun h=>M.jH ((key 999 (by decide)).mp h);rw[if_pos (by lia)];rfl
 |some v=>
  rw[e]at key;show _=fv (if l.most<v then none else some (v-x.1));by_cases hv:v<1000
  ·have h1:C≤v:=(key v hv).mpr (M.fu.mpr (a9 _));have h2:v≤C:=M.fu.mp ((key C (by lia)).mp (a9 _));have:C=v:=by lia
   subst this;split <;>rfl
  ·have:¬C≤999:=fun h=>by
    have:=M.fu.mp ((key 999 (by decide)).mp h)
    lia
   rw[if_pos (by lia),if_pos (by lia)];rfl
theorem alW{f:Nat→wL}(h:f b=none):uG g b f=none:=by
 cases e:uG g b f with
 |none=>rfl
 |some v=>
  have:M.dM (uG g b f) v:=by rw[e];exact M.fu.mpr (a9 _)
  obtain⟨n,e1,_⟩:=M.Bs.mp this 0 (bu _);rw[JU,h]at e1;cases e1
theorem DI(l:aJ):∀(ps:List (Nat×Nat)) (p s b:Nat),Af l ps p s b=match gY l ps p s with
  |none=>none
  |some bZ=>rn l bZ b
 |[],p,s,b=>rfl
 |(t,q)::r,p,s,b=>by
  unfold Af gY;split
  ·rfl
  ·cases e:d9 l p q with
   |none=>rfl
   |some g=>
    have gb:=(rF e).2.2;simp only;rw[gb];cases h:gY l r q (s-t)with
    |none=>
     have:∀c,Af l r q (s-t) c=none:=fun c=>by rw[DI l r q (s-t) c,h]
     rw[alW (this b)];rfl
    |some bZ=>
     have:(fun c=>Af l r q (s-t) c)=rn l bZ:=funext fun c=>by rw[DI l r q (s-t) c,h]
     rw[this];rfl
def lx(l:aJ)(bZ:List (Nat×cK))(n:Nat):List Nat:=(bP n).map fun c=>fv (rn l bZ c)
theorem alX(h:c<n):(lx l bZ n).getD c 0=fv (rn l bZ c):=by
 unfold lx;rw[eS,cR,j_ h];rfl
inductive Wu(A:aR)(vs:List V)(H:Hp)(Q:VK)(E:XK):Prop
 |mk:∀(r:LA) (l:aJ) (p s b:Nat) (e:ae) (ps:List (Nat×Nat)),vs=[.ref r.a,.int p,.int s,.int b,.ref e]→bq A H r l→H e=some (.lst (nats (jS ps)))→ps.length≤12→(∀x∈ps,x.1<16)→b≤8→(∀H',aa H H'→Q (.int (fv (Af l ps p s b))) H')→Wu A vs H Q E
inductive I48_(H:Hp)(r:LA)(l:Vbexab.Land)(p s0 b:Nat)(e:ae)(ps:List (Nat×Nat))(σ:L2.St)(H':Hp):Prop|mk (v:V) (o:Option (List (Nat×cK))):σ=[some (.ref r.a),some (.int (p:Nat)),some (.int (s0:Nat)),some (.int (b:Nat)),some (.ref e),some v,none,none,none]→aa H H'→gY l ps p s0=o→(match o with|none=>v=.aC|some bZ=>∃q as,v=.ref q∧H' q=some (.lst (as.map V.ref))∧Paired (kC A H') as bZ)→I48_ H r l p s0 b e ps σ H'
inductive I49_(H:Hp)(r:LA)(l:Vbexab.Land)(p s0 b:Nat)(e:ae)(bZ:List (Nat×Vbexab.Leg))(q:ae)(σ:L2.St)(H':Hp):Prop|mk v7 v8 l_:σ=[some (.ref r.a),some (.int (p:Nat)),some (.int (s0:Nat)),some (.int (b:Nat)),some (.ref e),some (.ref q),some (.ref l_),v7,v8]→aa H H'→H' l_=some (.lst (nats (lx l bZ (b+1))))→I49_ H r l p s0 b e bZ q σ H'
inductive I50_(r:LA)(l:Vbexab.Land)(p s0 b:Nat)(e:ae)(H1:Hp)(bZ:List (Nat×Vbexab.Leg))(q:ae)(i:Nat)(σ:L2.St)(H':Hp):Prop|mk v7 v8 l_:σ=[some (.ref r.a),some (.int (p:Nat)),some (.int (s0:Nat)),some (.int (b:Nat)),some (.ref e),some (.ref q),some (.ref l_),v7,v8]→aa H1 H'→H' l_=some (.lst (nats (lx l (bZ.drop (bZ.length-i)) (b+1))))→I50_ r l p s0 b e H1 bZ q i σ H'
theorem alY(T:Txt K mg A):T.Ia.Ok P w mg base 5 (Wu A):=by
 refine T.Ia.go tM fun _ _ _ _ H _ Q E hr h=>?_;obtain⟨r,l,p,s0,b,e,ps,rfl,hL,he,Wo,gJ,jk,k⟩:=h;have alZ:=hL.ok.most;refine⟨_,(af (cJ<|aE 5 tM (aI (alL T) hr T.HZ (c8 (pv 0) (pv 1) (pv 2) (pv 4)))) (af (aV (aL de (pv 5) bp) (ak (ax (a6 T.BN))) aW) (af (aE 6 tM (br Mx (bi (aF aH)) (br dX (pv 3) aH))) (af (cJ<|eV d8 rfl (abU rfl T.ahf (aF (pv 5))) (bY 7 tM) (ak (aE 6 tM (i8 Z tM.nd (qe Z T.mK (aF (br dX (pv 3) aH))) (hZ (N:=["land","place","held","storms","pairs","stages","needs","stage","left"]) (sc:=aG GH) (own:=[("left",8)]) (by decide+kernel)) (fun _ _ _ _ _=>(bY 8 tM)) (fun _ _ _ _ _=>j6) (fun _ _ _ _ _=>(aI (alP T) hr T.H_ (c8 (jg (K0:=K) Z (pv 0) Z) (pv 7) (pv 6) (pv 8)))))))) (ak (ax (bM cF (pv 6) (pv 3)))))))),?_⟩
 try dsimp only[aO,Cx.aQ]
 rw[DI]at k;refine⟨I48_ H r l p s0 b e ps,?_,?_⟩
 ·exact⟨r,l,p,s0,e,ps,Z,hL,he,Wo,gJ,fun e H1 s1=>⟨.aC,none,Z,s1,e,Z⟩,fun bZ e H1 q as s1 nq hq hC=>⟨.ref q,some bZ,Z,s1,e,q,as,Z,hq,hC⟩⟩
 rintro σ H1 ⟨v,o,rfl,s1,eo,hv⟩;rw[eo]at k;cases o with
 |none=>
  have hv:v=.aC:=hv;subst hv;exact⟨Z,_,Z,cP (k H1 s1)⟩
 |some bZ=>
  obtain⟨q,as,rfl,hq,hC⟩:=hv;have al:=Paired.length hC;have sl:=Wl eo;refine⟨Z,_,Z,cV ?_⟩;refine⟨be,fun q1 mW=>?_⟩;have s2:aa H1 (upd H1 q1 (.lst [V.int 0])):=aa.upd mW;refine⟨_,_,Z,Z,q1,(b:Int)+1,_,Z,Z,ah,by lia,by lia,?_,fun pn Jx=>?_⟩
  ·rw[show((b:Int)+1).toNat=b+1 by lia];show 1*(b+1)≤16777216;lia
  have s3:aa H1 (upd (upd H1 q1 (.lst [V.int 0])) pn (.lst (fj ((b:Int)+1).toNat [V.int 0]).flatten)):=s2.trans (aa.upd Jx);have C1:(upd (upd H1 q1 (.lst [V.int 0])) pn (.lst (fj ((b:Int)+1).toNat [V.int 0]).flatten)) pn=some (.lst (nats (lx l [] (b+1)))):=by
   rw[ah,show((b:Int)+1).toNat=b+1 by lia];congr 2;have:∀n,(fj n [V.int 0]).flatten=nats (lx l [] n):=fun n=>by
    induction n with
    |zero=>rfl
    |succ n ih=>
     rw[List.replicate_succ',List.flatten_append,ih];unfold lx;rw[tH,b9,uD];rfl
   exact this _
  generalize upd (upd H1 q1 (.lst [V.int 0])) pn (.lst (fj ((b:Int)+1).toNat [V.int 0]).flatten)=H3 at*;have gK:=s1.trans s3;refine⟨I49_ H r l p s0 b e bZ q,?_,?_⟩
  ·refine⟨q,_,Z,ai.of (s3 _ _ hq),?_⟩;rw[aB,al];refine qT (n:=bZ.length) (I50_ r l p s0 b e H1 bZ q)
    ⟨none,none,pn,Z,s3,by rw[JU,qw];exact C1⟩ ?_ ?_ ?_ ?_
   ·rintro i σ H4 hi ⟨v7,v8,l_,rfl,s4,h4⟩;obtain⟨a,ha⟩:∃a,as[bZ.length-1-i]?=some a:=⟨_,di (by lia)⟩
    exact⟨hi,_,V.ref a,ai.of (s4 _ _ hq),by rw[cR,ha];rfl⟩
   ·rintro σ H4 _;exact a9 _
   ·rintro i σ H4 yv H4' hi ⟨v7,v8,l_,rfl,s4,h4⟩ ⟨e4,hy⟩;subst e4;have hy:=hy _ (ai.of (s4 _ _ hq));obtain⟨a,ha,rfl⟩:=cY hy;obtain⟨x,hx,hA⟩:=fc hC ha;have gm:=sl.2 x (dI hx);have dj:=hL.ok.dJ _ gm;have DJ:bZ.drop (bZ.length-(i+1))=x::bZ.drop (bZ.length-i):=by
     rw[show bZ.length-(i+1)=bZ.length-1-i by lia,o_ hx,show bZ.length-1-i+1=bZ.length-i by lia]
    generalize bZ.drop (bZ.length-i)=tl at*;refine⟨_,_,Z,Z,(b:Int)+1,Z,by lia,by lia,?_⟩;rw[show((b:Int)+1).toNat=b+1 by lia];refine fun D nD=>Fx (lo:=0) (n:=b+1) (fun j H'=>aa H4' H'∧H' D=some (.lst (nats (lx l (x::tl) j)))) ⟨aa.upd nD,ah⟩ ?_ ?_
    ·rintro j H5 hj ⟨s5,h5⟩;rw[uc];have Wv:=s4.trans s5;have fZ:=hL.same (s1.trans Wv);refine⟨Z,ag fZ.ins T.o6 Z ⟨l.most,a,x,l_,_,j,Z,hA.same Wv,dj.2.1,dj.2.2.1,s5 _ _ h4,by unfold lx;rw[aB,ia];exact hj,by lia,fun H6 s6=>?_⟩⟩;rw[alV alZ (f:=rn l tl) (fun c hc=>alX (by lia)) (Wt tl)];refine⟨_,s6 _ _ h5,?_,aa.bI (s5.trans s6) nD,?_⟩
     ·rw[lj];unfold lx;rw[aB,ia];show _<16777216;lia
     ·rw[ah];unfold lx;rw[tH,b9,uD];rfl
    ·rintro H5 ⟨s5,h5⟩;exact⟨_,_,D,Z,s4.trans s5,by rw[DJ];exact h5⟩
   ·rintro σ H4 ⟨v7,v8,l_,rfl,s4,h4⟩;rw[aec,vT]at h4;exact⟨_,_,l_,Z,s1.trans s4,h4⟩
  ·rintro σ H4 ⟨v7,v8,l_,rfl,s4,h4⟩;refine⟨l_,_,_,_,Z,Z,ai.of h4,bX (Ko (show(lx l bZ (b+1))[b]?=some (fv (rn l bZ b)) by unfold lx;rw[cR,j_ (by lia)];rfl)),k H4 s4⟩
structure JA where
 a:ae
 dx:ae
 pa:ae
 jl:ae
 lv:V
 as:List ae
 tk:Nat
def jF(w:JA)(st ls:Bool):List (Str×V):=[("party",.ref w.pa),("strict",.int (if st=true then 1 else 0)),("leg",w.lv),("taking",.int (w.tk:Nat)),("lost",.bl ls),("log",.ref w.jl)]
def DK(A:aR)(H:Hp)(l:aJ)(v:V):Option cK→Prop
 |none=>v=.aC
 |some g=>∃b,v=.ref b∧dO A H b g∧g∈l.legs
def ma(H:Hp)(a:ae)(y:Nat×Nat×Nat×Nat):Prop:=H a=some (.tup [.int (y.1:Nat),.int (y.2.1:Nat),.int (y.2.2.1:Nat),.int (y.2.2.2:Nat)])
structure gZ(A:aR)(H:Hp)(l:aJ)(w:JA)(j:ly):Prop where
 ins:H w.a=some (.ins A.Journey w.dx (jF w j.strict j.lost))
 io:c9 A H w.pa j.at_
 dJ:DK A H l w.lv j.on
 tk:j.on≠none→w.tk=j.taken
 nl:j.on≠none→j.lost=false
 log:H w.jl=some (.lst (w.as.map V.ref))
 ents:Paired (ma H) w.as j.log
 ok:fw l j.at_
 fm:j.at_.f≤l.most
theorem DK.same(s:aa H H')(h:DK A H l v o):DK A H' l v o:=by
 cases o with
 |none=>exact h
 |some g=>exact let ⟨b,e,q,m⟩:=h;⟨b,e,q.same s,m⟩
theorem gZ.same(s:aa H H'){w:JA}(h:gZ A H l w j):gZ A H' l w j:=
 ⟨s _ _ h.ins,h.io.same s,h.dJ.same s,h.tk,h.nl,s _ _ h.log,cG (R:=ma) (fun _ _ z=>s _ _ z) h.ents,h.ok,h.fm⟩
theorem gZ.ei(s:ba H H'){w:JA}(h:gZ A H l w j):gZ A H' l w j:=
 ⟨s _ _ h.ins (by intro kv z;cases z),h.io.ei s,by
  have:=h.dJ;cases e:j.on with
  |none=>rw[e]at this;exact this
  |some g=>rw[e]at this;exact let ⟨b,e,q,m⟩:=this;⟨b,e,q.ei s,m⟩,h.tk,h.nl,s _ _ h.log (by intro kv z;cases z),cG (R:=ma) (fun _ _ z=>s _ _ z (by intro kv z;cases z)) h.ents,h.ok,h.fm⟩
inductive Ww(A:aR)(vs:List V)(H:Hp)(Q:VK)(E:XK):Prop
 |mk:∀(x dx:ae) (v0 v1:V),vs=[.ref x,v0,v1]→H x=some (.ins A.Journey dx [])→(∀(H':Hp) (jl:ae),H' x=some (.ins A.Journey dx [("party",v0),("strict",v1),("leg",.aC),("taking",.int 0),("lost",.bl false),("log",.ref jl)])→H' jl=some (.lst [])→H jl=none→(∀b o,b≠x→H b=some o→H' b=some o)→Q .aC H')→Ww A vs H Q E
theorem al1(T:Txt K mg A):T.HP.Ok P w mg base 1 (Ww A):=by
 refine T.HP.go aeJ fun _ _ _ _ H _ Q E hr h=>?_;obtain⟨x,dx,v0,v1,rfl,hx,k⟩:=h;refine⟨_,(af (bC (pv 0) (pv 1) Z) (af (bC (pv 0) (pv 2) Z) (af (bC (pv 0) bp Z) (af (bC (pv 0) aH Z) (af (bC (pv 0) dv Z) (ak (bC (pv 0) (bi gA) Z))))))),?_⟩
 try dsimp only[aO,Cx.aQ]
 refine(bD hx T.je ?_);refine(bD ah T.Io ?_);refine(bD ah T.tV ?_);refine(bD ah T.Ip ?_);refine(bD ah T.Cr ?_);refine⟨bu _,fun p1 n1=>?_⟩;have a1:x≠p1:=cy ah n1;simp only[ao a1.symm]at n1;refine(bD (by rw[ao a1];exact ah) T.Cs ?_);refine k _ p1 ah ?_ n1 ?_
 ·show(upd _ x _) p1=_;simp only[ao a1.symm,ah]
 ·intro b o hb e;simp only[ao hb,ao (cy e n1)];exact e
def e9(j:ly):Nat:=if j.lost=true then 3 else if j.on.isSome=true then 1 else if j.at_.p=0 then 2 else 0
inductive Wx(A:aR)(vs:List V)(H:Hp)(Q:VK)(E:XK):Prop
 |mk:∀(l:aJ) (w:JA) (j:ly),vs=[.ref w.a]→gZ A H l w j→Q (.int (e9 j)) H→Wx A vs H Q E
theorem Wy(T:Txt K mg A):T.BZ.Ok P w mg base 1 (Wx A):=by
 refine T.BZ.go aeK fun _ _ _ _ H _ Q E hr h=>?_;obtain⟨l,w,j,rfl,hJ,k⟩:=h;refine⟨_,(af (aV (gg (aj 0)) (ak (ax (a6 T.ahI))) aW) (af (aV (aL xJ (aj 0) bp) (ak (ax (a6 T.ahH))) aW) (af (aV (aL cO (iw (aj 0) Z) (a6 T.tQ)) (ak (ax (a6 T.RZ))) aW) (ak (ax (a6 T.G8)))))),?_⟩
 try dsimp only[aO,Cx.aQ]
 unfold e9 at k;refine(ag hJ.ins T.Cr Z ⟨_,Z,bj (fun h=>?_) (fun h=>?_)⟩)
 ·rw[if_pos h]at k;exact k
 rw[if_neg (by rw[h];exact cb)]at k;refine(ag hJ.ins T.tV Z ⟨Z,_,Z,?_⟩);have el:(!decide (w.lv=V.aC))=j.on.isSome:=by
  have:=hJ.dJ;cases e:j.on with
  |none=>rw[e]at this;rw[show w.lv=.aC from this];rfl
  |some g=>rw[e]at this;obtain⟨b,e2,_⟩:=this;rw[e2];rfl
 refine dR el (bj (fun h=>?_) (fun h=>?_))
 ·rw[if_pos h]at k;exact k
 rw[if_neg (by rw[h];exact cb)]at k;obtain⟨dp,hp⟩:=hJ.io;refine(ag hJ.ins T.je Z (ag hp T.fQ Z ⟨Z,_,Z,bK (fun h=>?_) (fun h=>?_)⟩))
 ·rw[if_pos (by injection h with h;lia)]at k;exact k
 ·rw[if_neg (fun z=>h (by rw[z];rfl))]at k;exact k
def refusal(l:aJ)(oj:Option ly)(t q:Nat):Int:=match oj with
 |none=> -3
 |some j=>if j.on.isSome=true∨j.lost=true∨j.at_.p=0 then-4 else if fY l j.at_.p j.at_.s t=false then-5 else if(d9 l j.at_.p q).isNone=true then-6 else 0
def JV(A:aR)(H:Hp)(l:aJ)(v:V)(w:JA):Option ly→Prop
 |none=>v=.aC
 |some j=>v=.ref w.a∧gZ A H l w j
theorem Wz:(e9 j≠0)↔(j.on.isSome=true∨j.lost=true∨j.at_.p=0):=by
 unfold e9;cases j.lost <;>cases j.on.isSome <;>by_cases h:j.at_.p=0 <;>simp[h]
inductive WA(A:aR)(vs:List V)(H:Hp)(Q:VK)(E:XK):Prop
 |mk:∀(r:LA) (l:aJ) (v:V) (w:JA) (oj:Option ly) (t q:Nat),vs=[.ref r.a,v,.int t,.int q]→bq A H r l→JV A H l v w oj→t<16→(∀H',aa H H'→Q (.int (refusal l oj t q)) H')→WA A vs H Q E
theorem WC(T:Txt K mg A):T.B0.Ok P w mg base 3 (WA A):=by
 refine T.B0.go QD fun _ _ _ _ H _ Q E hr h=>?_;obtain⟨r,l,v,w,oj,t,q,rfl,hL,hJ,gW,k⟩:=h;refine⟨_,(af (aV (aL de (pv 1) bp) (ak (ax (a6 T.BM))) aW) (af (aV (aL kM (aI (Wy T) hr T.BZ (aF (pv 1))) (a6 T.G8)) (ak (ax (a6 T.ahE))) aW) (af (aE 4 QD (aj 1)) (af (aV (jX (gg (aI (CT T) hr T.wq (c8 (pv 0) (aj 4) (aj 4) (pv 2))))) (ak (ax (a6 T.ahF))) aW) (af (aV (aL de (aI (qU T) hr T.nP (cS (pv 0) (aj 4) (pv 3))) bp) (ak (ax (a6 T.ahG))) aW) (ak (ax aH))))))),?_⟩
 try dsimp only[aO,Cx.aQ]
 cases oj with
 |none=>
  have hJ:v=.aC:=hJ;subst hJ;exact⟨Z,_,Z,cP (k H (aa.refl _))⟩
 |some j=>
  obtain⟨rfl,hJ⟩:=hJ;change ∀H',aa H H'→Q (.int (if j.on.isSome=true∨j.lost=true∨j.at_.p=0 then-4 else if fY l j.at_.p j.at_.s t=false then-5 else if(d9 l j.at_.p q).isNone=true then-6 else 0)) H' at k;refine⟨Z,_,Z,cV ?_⟩;refine⟨l,w,j,Z,hJ,Z,_,Z,jL (fun h=>?_) (fun h=>?_)⟩
  ·rw[if_pos (Wz.mp fun z=>h (by rw[z];rfl))]at k;exact k H (aa.refl _)
  rw[if_neg (fun z=>Wz.mpr z (by injection h with h;lia))]at k;obtain⟨dp,hp⟩:=id hJ.io;refine(ag hJ.ins T.je Z ?_);refine(ag hp T.fQ Z (ag hp T.jJ Z ⟨r,l,j.at_.p,j.at_.s,t,Z,hL,gW,fun H1 s1=>⟨_,Z,?_⟩⟩));refine bj (fun h=>?_) (fun h=>?_)
  ·rw[h8]at h;rw[if_pos h]at k;exact k H1 s1
  rw[gU]at h;rw[if_neg (by rw[h];decide)]at k;have eG:=s1 _ _ hp;refine(ag eG T.fQ Z ⟨r,l,j.at_.p,q,Z,hL.same s1,fun e=>?_,fun g i b e _ _ _=>?_⟩)
  ·rw[e]at k;exact⟨Z,_,Z,cP (k H1 s1)⟩
  ·rw[e]at k;exact⟨Z,_,Z,cV (k H1 s1)⟩
def DL(l:aJ)(j:ly)(t:Nat)(g:cK):ly:={j with at_:={j.at_ with s:=j.at_.s-t,f:=dS l j.at_.f t},on:=some g,taken:=t}
inductive WD(A:aR)(vs:List V)(H:Hp)(Q:VK)(E:XK):Prop
 |mk:∀(r:LA) (l:aJ) (w:JA) (j:ly) (t:Nat) (b:ae) (g:cK),vs=[.ref r.a,.ref w.a,.int t,.ref b]→bq A H r l→gZ A H l w j→j.lost=false→t<2^l.caches.length→t≤j.at_.s→dO A H b g→g∈l.legs→(∀H' w',bJ [w.a] H H'→w'.a=w.a→w'.jl=w.jl→gZ A H' l w' (DL l j t g)→Q .aC H')→WD A vs H Q E
theorem al2(T:Txt K mg A):T.HQ.Ok P w mg base 4 (WD A):=by
 refine T.HQ.go QE fun _ _ _ _ H _ Q E hr h=>?_;obtain⟨r,l,w,j,t,b,g,rfl,hL,hJ,Ag,wX,wQ,hG,gm,k⟩:=h;refine⟨_,(af (aE 4 QE (aj 1)) (af (bC (pv 1) (gk (wG T) hr T.wx T.qH (c8 (aj 4) (br iu (aj 4) (pv 2)) (aj 4) (aI (Tz T) hr T.BR (cS (pv 0) (pv 4) (pv 2))))) Z) (af (bC (pv 1) (pv 2) Z) (ak (bC (pv 1) (pv 3) Z))))),?_⟩
 try dsimp only[aO,Cx.aQ]
 obtain⟨dp,hp⟩:=id hJ.io;refine(ag hJ.ins T.je Z ?_);refine(ag hp T.fQ Z (ag hp T.jJ Z ⟨_,_,Z,Z,ag hp T.jK Z ⟨r,l,w.pa,j.at_,t,Z,hL,hJ.io,wX,fun H1 s1=>?_⟩⟩));refine fun z dz nz dP iC=>⟨z,dz,_,_,_,_,Z,ah,fun H2 hz rf=>⟨Z,?_⟩⟩
 have s2:aa H1 H2:=aa.make (C:=A.ic) (fs:=[]) nz dP rf;have eI:=s1.trans s2;have rG:=hJ.same eI;refine(bD rG.ins T.je ?_);refine(bD ah T.Ip ?_);refine(bD ah T.tV ?_);have mt:w.a∈[w.a]:=cI;have so:=bJ.upd (o:=.ins A.Journey w.dx (jF ⟨w.a,w.dx,z,w.jl,.ref b,w.as,t⟩ j.strict j.lost)) (bJ.upd (o:=.ins A.Journey w.dx (jF ⟨w.a,w.dx,z,w.jl,w.lv,w.as,t⟩ j.strict j.lost)) (bJ.upd (o:=.ins A.Journey w.dx (jF ⟨w.a,w.dx,z,w.jl,w.lv,w.as,w.tk⟩ j.strict j.lost)) (bJ.of eI) mt) mt) mt;refine k _ ⟨w.a,w.dx,z,w.jl,.ref b,w.as,t⟩ so Z Z ?_;have keep:∀a o,H2 a=some o→(∀C d fs,o=.ins C d fs→fs.length≠6)→(upd (upd (upd H2 w.a (.ins A.Journey w.dx (jF ⟨w.a,w.dx,z,w.jl,w.lv,w.as,w.tk⟩ j.strict j.lost))) w.a (.ins A.Journey w.dx (jF ⟨w.a,w.dx,z,w.jl,w.lv,w.as,t⟩ j.strict j.lost))) w.a (.ins A.Journey w.dx (jF ⟨w.a,w.dx,z,w.jl,.ref b,w.as,t⟩ j.strict j.lost))) a=some o:=fun a o e hn=>by
  have na:a≠w.a:=fun q=>by
   subst q;rw[rG.ins]at e;exact hn _ _ _ (bS e).symm Z
  rw[ao na,ao na,ao na];exact e
 obtain⟨dg,hg⟩:=hG.same eI;refine⟨ah,⟨dz,keep _ _ (by
  rw[hz];unfold zq DL;simp only;rw[show((j.at_.s-t:Nat):Int)=(j.at_.s:Int)-(t:Int) by lia]) (by intro C d fs e;cases e;show(4:Nat)≠6;decide)⟩,?_,fun _=>rfl,fun _=>Ag,keep _ _ rG.log (by intro C d fs e;cases e),cG (R:=ma) (H:=H2) (fun _ _ q=>keep _ _ q (by intro C d fs e;cases e)) rG.ents,?_,zD l _ _⟩
 ·exact⟨b,Z,⟨dg,keep _ _ hg (by intro C d fs e;cases e;show(4:Nat)≠6;decide)⟩,gm⟩
 ·have o2:=hJ.ok.s;exact⟨hJ.ok.p,by show j.at_.s-t<_;lia,hJ.ok.b,by show dS l j.at_.f t≤60;have:=zD l j.at_.f t;have:=hL.ok.most;lia⟩
def gL(j:ly)(g:cK)(k:Nat):ly:={j with at_:={p:=g.b,s:=j.at_.s,b:=j.at_.b-k,f:=j.at_.f-(g.least+k)},on:=none,taken:=0,lost:=decide (j.at_.f<g.least+k),log:=j.log++[(g.a,j.taken,g.b,k)]}
theorem al3(h:f≤l.most):dS l f 0=f:=by
 unfold dS;rw[M.Bu,acD];exact Nat.min_eq_right h
inductive WE(A:aR)(vs:List V)(H:Hp)(Q:VK)(E:XK):Prop
 |mk:∀(r:LA) (l:aJ) (w:JA) (j:ly) (g:cK) (i:Nat),vs=[.ref r.a,.ref w.a,.int i]→bq A H r l→gZ A H l w j→j.on=some g→i≤a_ g j.at_.b→j.log.length≤1000→(∀H' w',bJ [w.a,w.jl] H H'→w'.a=w.a→w'.jl=w.jl→gZ A H' l w' (gL j g i)→Q .aC H')→WE A vs H Q E
inductive I51_(H:Hp)(r:LA)(j:Vbexab.Journey)(g:Vbexab.Leg)(i:Nat)(b wa uH:ae)(σ:L2.St)(H1:Hp):Prop|mk (v:V):σ=[some (.ref r.a),some (.ref wa),some (.int (i:Nat)),some (.ref uH),some (.ref b),some v]→aa H H1→(j.at_.f<g.least+i→v=.aC)→(¬j.at_.f<g.least+i→∃c,v=.ref c∧c9 A H1 c (gL j g i).at_)→I51_ H r j g i b wa uH σ H1
inductive I52_(H:Hp)(r:LA)(j:Vbexab.Journey)(g:Vbexab.Leg)(i:Nat)(b wa fH uH f6:ae)(f_:List ae)(σ:L2.St)(H3:Hp):Prop|mk (c:ae) (ls:Bool):σ=[some (.ref r.a),some (.ref wa),some (.int (i:Nat)),some (.ref uH),some (.ref b),some (.ref c)]→ls=decide (j.at_.f<g.least+i)→bJ [wa] H H3→H3 wa=some (.ins A.Journey fH (jF ⟨wa,fH,uH,f6,.ref b,f_,j.taken⟩ j.strict ls))→c9 A H3 c (gL j g i).at_→I52_ H r j g i b wa fH uH f6 f_ σ H3
theorem al4(T:Txt K mg A):T.HR.Ok P w mg base 5 (WE A):=by
 refine T.HR.go yK fun _ _ _ _ H _ Q E hr h=>?_;obtain⟨r,l,w,j,g,i,rfl,hL,hJ,WG,hi,hll,k⟩:=h;refine⟨_,(af (aE 3 yK (aj 1)) (af (aE 4 yK (aj 1)) (af (cJ<|aE 5 yK (aI (wK T) hr T.qI (gh (pv 0) (c8 (pv 3) aH (pv 4) (pv 2))))) (af (cJ<|aV (aL de (pv 5) bp) (af (bC (pv 1) dv rfl) (ak (aE 5 yK (gk (wG T) hr T.wx T.qH (c8 (aj 4) (aj 3) (br iu (aj 3) (pv 2)) aH))))) aW) (af (bC (pv 1) (pv 5) Z) (af (dH (d4 PySem.F.plainAttrs_list PySem.F.slot_list_append PySem.F.type_list_append gQ (aj 1) (aF (jA (c8 (aj 4) (aj 1) (aj 4) (pv 2)))))) (ak (bC (pv 1) bp Z)))))))),?_⟩
 try dsimp only[aO,Cx.aQ]
 have WH:j.on≠none:=by rw[WG];exact fun z=>nomatch z
 have pR:=hJ.dJ;rw[WG]at pR;obtain⟨b,Ah,hG,gm⟩:=pR;have Ag:=hJ.nl WH;have zw:=hJ.tk WH;have dj:=hL.ok.dJ g gm;obtain⟨dp,hp⟩:=id hJ.io;obtain⟨dg,hg⟩:=id hG;have wR:a_ g j.at_.b≤j.at_.b:=by unfold a_;lia
 have h0:0<2^l.caches.length:=Nat.pow_pos (by decide);have lz:=al3 hJ.fm;have al:=Paired.length hJ.ents;obtain⟨wa,fH,uH,f6,wlv,f_,wtk⟩:=w;simp only at Ah zw;subst Ah zw;have o2:=hJ.ok.s;have o3:=hJ.ok.b;have zE:fw l (gL j g i).at_:=⟨dj.2.2.2.2,hJ.ok.s,by show j.at_.b-i≤8;lia,by show j.at_.f-_≤60;have:=hJ.ok.f;lia⟩
 refine(ag hJ.ins T.je Z (ag hJ.ins T.tV Z ?_));have mY:∀{H0:Hp}{p:ae}{o:HO}{ff fs:List (Str×V)},H0 p=some (.ins A.Journey fH ff)→ff.length=6→∀a u,H0 a=some u→(∀C d fs,u=.ins C d fs→fs.length≠6)→(upd H0 p o) a=some u:=fun{H0 p o ff fs} e0 e6 a u e hn=>by
  rw[ao (fun q=>by subst q;rw[e0]at e;exact hn _ _ _ (bS e).symm e6)];exact e
 refine⟨I51_ H r j g i b wa uH,?_,?_⟩
 ·refine⟨r,l,uH,j.at_,0,b,g,i,Z,hL,hJ.io,h0,hG,bu _,by lia,fun lost H1 s1=>?_,fun rj H1 c1 s1 nc1 wU=>?_⟩
  ·rw[lz]at lost;exact⟨.aC,Z,s1,fun _=>rfl,fun z=>absurd lost (by lia)⟩
  ·rw[lz]at rj;refine⟨.ref c1,Z,s1,fun z=>absurd z (by lia),fun _=>⟨c1,Z,?_⟩⟩;have e:iS l j.at_ 0 g i=(gL j g i).at_:=by
    unfold iS gL;rw[lz];rfl
   rw[←e];exact wU
 rintro σ H1 ⟨v,rfl,s1,xh,hv2⟩;have kD:=hJ.same s1;refine⟨I52_ H r j g i b wa fH uH f6 f_,?_,?_⟩
 ·by_cases lost:j.at_.f<g.least+i
  ·rw[xh lost];refine⟨Z,_,Z,cP ?_⟩;refine(bD kD.ins T.Cr ?_);have t7:=mY (o:=.ins A.Journey fH (jF ⟨wa,fH,uH,f6,.ref b,f_,j.taken⟩ j.strict true)) (fs:=[]) kD.ins Z _ _ (s1 _ _ hg) (by intro C d fs e;cases e;show(4:Nat)≠6;decide);have cX:=mY (o:=.ins A.Journey fH (jF ⟨wa,fH,uH,f6,.ref b,f_,j.taken⟩ j.strict true)) (fs:=[]) kD.ins Z _ _ (s1 _ _ hp) (by intro C d fs e;cases e;show(4:Nat)≠6;decide);refine(ag t7 T.nQ Z (ag cX T.jJ Z (ag cX T.jK Z ⟨_,_,Z,Z,fun z dz nz dP iC=>⟨z,dz,_,_,_,_,Z,ah,fun H2 hz rf=>⟨Z,?_⟩⟩⟩)));have s2:aa _ H2:=aa.make (C:=A.ic) (fs:=[]) nz dP rf;refine⟨z,true,Z,(decide_eq_true lost).symm,?_,s2 _ _ ah,⟨dz,?_⟩⟩
   ·exact(bJ.upd (bJ.of s1) cI).trans (bJ.of s2)
   ·rw[hz];unfold zq gL;simp only;rw[show((j.at_.b-i:Nat):Int)=(j.at_.b:Int)-(i:Int) by lia,show j.at_.f-(g.least+i)=0 by lia];rfl
  ·obtain⟨c,rfl,hP⟩:=hv2 lost;refine⟨Z,_,Z,cV ?_⟩;exact⟨c,false,Z,(decide_eq_false lost).symm,bJ.of s1,by rw[←Ag];exact kD.ins,hP⟩
 rintro σ H3 ⟨c,ls,rfl,els,kX,iU,⟨dc,Kc⟩⟩;have n1:f6≠wa:=cE hJ.log hJ.ins (by intro z;cases z);have al7:H3 f6=some (.lst (f_.map V.ref)):=kX _ _ hJ.log (by simpa using n1);have t9:H3 b=some (.ins A.Leg dg (IH g)):=kX _ _ hg (by simpa using tZ hg hJ.ins (show(4:Nat)≠6 by decide));have en3:Paired (ma H3) f_ j.log:=JL hJ.ents fun a _ y q=>kX _ _ q (by simpa using fun e=>by subst e;have:=hJ.ins;rw[show H a=_ from q]at this;cases this);refine(bD iU T.je ?_);have DM:=bJ.upd (o:=.ins A.Journey fH (jF ⟨wa,fH,c,f6,.ref b,f_,j.taken⟩ j.strict ls)) kX cI;have zX:(upd H3 wa (.ins A.Journey fH (jF ⟨wa,fH,c,f6,.ref b,f_,j.taken⟩ j.strict ls))) wa=_:=ah;have WI:=mY (o:=.ins A.Journey fH (jF ⟨wa,fH,c,f6,.ref b,f_,j.taken⟩ j.strict ls)) (fs:=[]) iU Z _ _ al7 (by intro C d fs e;cases e);have qW:=mY (o:=.ins A.Journey fH (jF ⟨wa,fH,c,f6,.ref b,f_,j.taken⟩ j.strict ls)) (fs:=[]) iU Z _ _ t9 (by intro C d fs e;cases e;show(4:Nat)≠6;decide);have hc4:=mY (o:=.ins A.Journey fH (jF ⟨wa,fH,c,f6,.ref b,f_,j.taken⟩ j.strict ls)) (fs:=[]) iU Z _ _ Kc (by intro C d fs e;cases e;show(4:Nat)≠6;decide);have en4:Paired (ma (upd H3 wa (.ins A.Journey fH (jF ⟨wa,fH,c,f6,.ref b,f_,j.taken⟩ j.strict ls)))) f_ j.log:=cG (R:=ma) (fun a y q=>mY (fs:=[]) iU Z _ _ q (by intro C d fs e;cases e)) en3;rw[show dZ (aZ "party") (V.ref c) (jF ⟨wa,fH,uH,f6,.ref b,f_,j.taken⟩ j.strict ls)=jF ⟨wa,fH,c,f6,.ref b,f_,j.taken⟩ j.strict ls from Z];generalize upd H3 wa (.ins A.Journey fH (jF ⟨wa,fH,c,f6,.ref b,f_,j.taken⟩ j.strict ls))=H4 at*;refine(ag zX T.Cs Z ⟨.inl ⟨Z,_,ai.of WI⟩,?_⟩);refine(ag qW T.oY Z (ag zX T.Ip Z (ag qW T.nQ Z ⟨be,fun t nt=>?_⟩)));have s5:=aa.upd (o:=.tup [.int (g.a:Nat),.int (j.taken:Nat),.int (g.b:Nat),.int (i:Nat)]) nt;have ht5:(upd H4 t (.tup [.int (g.a:Nat),.int (j.taken:Nat),.int (g.b:Nat),.int (i:Nat)])) t=_:=ah;generalize upd H4 t (.tup [.int (g.a:Nat),.int (j.taken:Nat),.int (g.b:Nat),.int (i:Nat)])=H5 at*;have WJ:=s5 _ _ WI;have WK:=s5 _ _ zX;simp only at al;refine⟨f6,_,_,Z,Z,WJ,(by rw[aB];show _<16777216;lia),?_⟩;have putL:∀a u,H5 a=some u→(∀xs,u≠.lst xs)→(upd H5 f6 (.lst (f_.map V.ref++[V.ref t]))) a=some u:=fun a u e hn=>by
  rw[ao (fun q=>by subst q;rw[WJ]at e;exact hn _ (bS e).symm)];exact e
 refine(bD (putL _ _ WK (by intro xs e;cases e)) T.tV ?_);have Kr:=putL _ _ WK (by intro xs e;cases e);have amb:(upd H5 f6 (.lst (f_.map V.ref++[V.ref t]))) f6=some (.lst ((f_++[t]).map V.ref)):=by rw[ah,b9];rfl
 have so6:bJ [wa,f6] H (upd H5 f6 (.lst (f_.map V.ref++[V.ref t]))):=bJ.upd (fun a u e n=>s5 _ _ (DM a u e (fun m=>n (by rw[cA.mp m];exact cI)))) (c_ _ cI);have hc6:=putL _ _ (s5 _ _ hc4) (by intro xs e;cases e);have en6:Paired (ma (upd H5 f6 (.lst (f_.map V.ref++[V.ref t])))) (f_++[t]) (j.log++[(g.a,j.taken,g.b,i)]):=
  nW (putL _ _ ht5 (by intro xs e;cases e)) (cG (R:=ma) (H:=H4) (fun a y q=>putL _ _ (s5 _ _ q) (by intro xs e;cases e)) en4)
 generalize upd H5 f6 (.lst (f_.map V.ref++[V.ref t]))=H6 at*;refine k _ ⟨wa,fH,c,f6,.aC,f_++[t],j.taken⟩ (bJ.upd so6 cI) Z Z ⟨?_,⟨dc,?_⟩,Z,fun z=>absurd Z z,fun z=>absurd Z z,?_,?_,zE,?_⟩
 ·show(upd H6 wa _) wa=some (.ins A.Journey fH (jF _ j.strict (decide (j.at_.f<g.least+i))));rw[ah,←els];rfl
 ·exact mY (fs:=[]) Kr Z _ _ hc6 (by intro C d fs e;cases e;show(4:Nat)≠6;decide)
 ·exact mY (fs:=[]) Kr Z _ _ amb (by intro C d fs e;cases e)
 ·exact cG (R:=ma) (H:=H6) (fun a y q=>mY (fs:=[]) Kr Z _ _ q (by intro C d fs e;cases e)) en6
 ·have:=hJ.fm;show j.at_.f-_≤_
  lia
structure DA where
 a:ae
 dx:ae
 r:LA
 n:NA
 u:PA
 w:JA
def jv(d:DA)(st:cM):V:=match st.journey with
 |none=>.aC
 |some _=>.ref d.w.a
def gc(d:DA)(st:cM):List (Str×V):=[("land",.ref d.r.a),("needs",.ref d.n.a),("plan",.ref d.u.a),("plan_told",.bl st.planned),("journey",jv d st)]
def WL:List (Str×V):=[("land",.aC),("needs",.aC),("plan",.aC),("plan_told",.bl false),("journey",.aC)]
def kE(d:DA)(st:cM):List ae:=match st.journey with
 |none=>[]
 |some _=>[d.w.jl]
def own(d:DA)(st:cM):List ae:=d.a::(match st.journey with
 |none=>[]
 |some _=>[d.w.a,d.w.jl])
structure g0(A:aR)(H:Hp)(d:DA)(l:aJ)(st:cM):Prop where
 ins:H d.a=some (.ins A.cf d.dx (gc d st))
 land:bq A (Off (kE d st) H) d.r l
 fq:bR A H d.n d.r l
 plan:eM A (Off (kE d st) H) d.u d.r l st.plan
 x:gr l
 pos:0<l.places.length
 jr:∀j,st.journey=some j→gZ A H l d.w j
structure gd(A:aR)(H:Hp)(d:DA)(st:cM):Prop where
 aC:st.land=none→H d.a=some (.ins A.cf d.dx WL)∧st={}
 fz:∀x,st.land=some x→x.2=a8 x.1∧g0 A H d x.1 st
theorem g0.fI{st:cM}(h:g0 A H d l st):bq A H d.r l:=h.land.same (Off.sub _ _)
theorem g0.xi{st:cM}(h:g0 A H d l st):eM A H d.u d.r l st.plan:=h.plan.same (Off.sub _ _)
theorem g0.same(s:aa H H'){st:cM}(h:g0 A H d l st):g0 A H' d l st:=
 ⟨s _ _ h.ins,h.land.same (Off.of s),h.fq.same s,h.plan.same (Off.of s),h.x,h.pos,fun j e=>(h.jr j e).same s⟩
theorem gd.same(s:aa H H'){st:cM}(h:gd A H d st):gd A H' d st:=⟨fun e=>⟨s _ _ (h.aC e).1,(h.aC e).2⟩,fun x e=>⟨(h.fz x e).1,(h.fz x e).2.same s⟩⟩
theorem Off.ei(s:ba H H'):ba (Off O H) (Off O H'):=fun b o e n=>by
 unfold Off at e ⊢;split at e
 ·cases e
 ·rename_i hb;rw[if_neg hb];exact s b o e n
theorem eL.ei(s:ba H H')(h:eL A H a x):eL A H' a x:=let ⟨d,e⟩:=h;⟨d,s _ _ e (by intro kv z;cases z)⟩
theorem gq.ei(s:ba H H')(h:gq A H a x):gq A H' a x:=
 let ⟨u,e,q⟩:=h;⟨u,e,⟨s _ _ q.ins (by intro kv z;cases z),s _ _ q.cl (by intro kv z;cases z),cG (R:=eL A) (fun _ _ z=>z.ei s) q.cs,s _ _ q.kl (by intro kv z;cases z)⟩⟩
theorem eM.ei(s:ba H H')(h:eM A H u r l pl):eM A H' u r l pl:=
 ⟨s _ _ h.ins (by intro kv z;cases z),s _ _ h.rl (by intro kv z;cases z),cG (R:=fun H=>gq A (Off [u.lr] H)) (fun _ _ z=>z.ei (Off.ei s)) h.rs,h.k_,h.ok⟩
def DA.pS(d:DA)(n:NA):DA:=⟨d.a,d.dx,d.r,n,d.u,d.w⟩
theorem g0.pS{st:cM}(h:g0 A H d l st)(hN:bR A H' n d.r l)(ns:dk d.n n)(s:ba H H'):g0 A H' (d.pS n) l st:=by
 have e:gc (d.pS n) st=gc d st:=by
  unfold gc DA.pS jv;simp only;rw[ns.1]
 exact⟨by rw[e];exact s _ _ h.ins (by intro kv z;cases z),h.land.ei (Off.ei s),hN,h.plan.ei (Off.ei s),h.x,h.pos,fun j e=>(h.jr j e).ei s⟩
def kF(O:List ae)(H H':Hp):Prop:=∀b o,H b=some o→b∉O→(∀kv,o≠.dT kv)→H' b=some o
theorem kF.of(s:aa H H'):kF O H H':=fun b o e _ _=>s b o e
theorem kF.rH(s:ba H H'):kF O H H':=fun b o e _ n=>s b o e n
theorem kF.trans(a:kF O H H1)(b:kF O H1 H2):kF O H H2:=fun c o e n m=>b c o (a c o e n m) n m
def gM(H:Hp)(p:ae):Prop:=∀o,H p=some o→∃kv,o=.dT kv
theorem gM.of(h:H p=none):gM H p:=fun o e=>by rw[h]at e;cases e
theorem gM.rH(s:ba H H')(h:H' p=none):gM H p:=fun o e=>R9 fun n=>by
 rw[s _ _ e (fun kv z=>n ⟨kv,z⟩)]at h;cases h
theorem gM.back(s:ba H H')(h:gM H' p):gM H p:=fun o e=>R9 fun n=>n (h o (s _ _ e (fun kv z=>n ⟨kv,z⟩)))
def Out(A:aR)(H:Hp)(d:DA)(st ci:cM)(uI:List Int)(Q:VK):Prop:=∀H' d' p,gd A H' d' ci→d'.a=d.a→(∀b∈own d' ci,b∈own d st∨gM H b)→kF (own d st) H H'→gM H p→H' p=some (.lst (uI.map V.int))→Q (.ref p) H'
theorem Out.same{st:cM}(k:Out A H d st st uI Q)(hD:gd A H d st)(s:aa H H')(np:H p=none)(hp:H' p=some (.lst (uI.map V.int))):Q (.ref p) H':=
 k H' d p (hD.same s) Z (fun b m=>.inl m) (kF.of s) (gM.of np) hp
theorem gd.of{st:cM}(e:st.land=some (l,a8 l))(h:g0 A H d l st):gd A H d st:=
 ⟨fun z=>(by rw[e]at z;cases z),fun x z=>(by rw[e]at z;cases z;exact⟨Z,h⟩)⟩
theorem Out.fq{st:cM}(k:Out A H d st st uI Q)(e:st.land=some (l,a8 l))(hI:g0 A H d l st)(hN:bR A H' n d.r l)(ns:dk d.n n)(s:ba H H')(s2:aa H' lT)(np:H' p=none)(hp:lT p=some (.lst (uI.map V.int))):Q (.ref p) lT:=
 k lT (d.pS n) p (gd.of e ((hI.pS hN ns s).same s2)) Z (fun b m=>.inl m) ((kF.rH s).trans (kF.of s2)) (gM.rH s np) hp
def numOf:gN→Nat
 | .land _=>0
 | .form=>1
 | .need _ _ _=>2
 | .choices _ _ _ _=>3
 | .give _ _ _ _=>4
 | .stand _ _ _=>5
 | .resist _ _ _ _ _ _=>6
 | .plan _=>7
 | .planForm=>8
 | .rule _ _ _ _=>9
 | .check _ _ _ _=>10
 | .follow _ _ _ _ _=>11
 | .route _ _ _ _=>12
 | .begin_ _ _ _ _ _=>13
 | .move _ _=>14
 | .weather _=>15
 | .journey=>16
 | .log=>17
 | .bear _ _=>18
def cp:gN→List (Str×Int)
 | .need p s b=>[("p",p),("s",s),("b",b)]
 | .choices p s b f=>[("p",p),("s",s),("b",b),("f",f)]
 | .give p s b f=>[("p",p),("s",s),("b",b),("f",f)]
 | .stand p s f=>[("p",p),("s",s),("f",f)]
 | .resist p s b f t q=>[("p",p),("s",s),("b",b),("f",f),("t",t),("q",q)]
 | .rule p s b f=>[("p",p),("s",s),("b",b),("f",f)]
 | .check p s b f=>[("p",p),("s",s),("b",b),("f",f)]
 | .follow p s b f _=>[("p",p),("s",s),("b",b),("f",f)]
 | .route p s b _=>[("p",p),("s",s),("b",b)]
 | .begin_ p s b f x=>[("p",p),("s",s),("b",b),("f",f),("x",x)]
 | .move t q=>[("t",t),("q",q)]
 | .weather k=>[("k",k)]
 | .bear t q=>[("t",t),("q",q)]
 |_=>[]
def fh:gN→List Int
 | .land b=>b
 | .plan b=>b
 | .follow _ _ _ _ ks=>ks
 | .route _ _ _ r=>r
 |_=>[]
def aq(L:List (Str×Int)):List (Key×V):=L.map fun y=>(dq y.1,V.int y.2)
def rJ(A:aR)(H:Hp)(c:ae)(vc:gN):Prop:=∃dx dt rw bh,H c=some (.ins A.Call dx [("number",.int (numOf vc:Nat)),("told",.ref dt),("row",.ref rw),("behind",.int (bh:Nat))])∧H dt=some (.dK (aq (cp vc)))∧H rw=some (.lst ((fh vc).map V.int))
theorem rJ.same(s:aa H H')(h:rJ A H c vc):rJ A H' c vc:=let ⟨d,t,r,b,q1,q2,q3⟩:=h;⟨d,t,r,b,s _ _ q1,s _ _ q2,s _ _ q3⟩
def om:gN→Option (Int×Int×Option Int)
 | .need p s _=>some (p,s,none)
 | .choices p s _ f=>some (p,s,some f)
 | .give p s _ f=>some (p,s,some f)
 | .stand p s f=>some (p,s,some f)
 | .resist p s _ f _ _=>some (p,s,some f)
 | .rule p s _ f=>some (p,s,some f)
 | .check p s _ f=>some (p,s,some f)
 | .follow p s _ f _=>some (p,s,some f)
 | .route p s _ _=>some (p,s,none)
 | .begin_ p s _ f _=>some (p,s,some f)
 |_=>none
def pT(l:aJ)(y:Int×Int×Option Int):Bool:=Ks l y.1 y.2.1&&(match y.2.2 with|none=>true|some f=>decide (f≤(l.most:Int)))
structure Ready(st:cM)(vc:gN):Prop where
 g8:Kt vc=true
 land:numOf vc≠0→∃l,st.land=some (l,a8 l)∧∀y,om vc=some y→pT l y=true
def g6(A:aR)(j:Nat):Sp:=fun vs H Q _=>∃(d:DA) (st:cM) (c:ae) (vc:gN),vs=[.ref d.a,.ref c]∧numOf vc=j∧gd A H d st∧rJ A H c vc∧Ready st vc∧(∀j,st.journey=some j→j.log.length≤1000)∧(cv st vc).2.length≤10000000∧Out A H d st (cv st vc).1 (cv st vc).2 Q
inductive WM(A:aR)(vs:List V)(H:Hp)(Q:VK)(E:XK):Prop
 |mk:∀(x dx:ae),vs=[.ref x]→H x=some (.ins A.cf dx [])→(∀H':Hp,H' x=some (.ins A.cf dx WL)→(∀b,b≠x→H' b=H b)→Q .aC H')→WM A vs H Q E
theorem amf(T:Txt K mg A):T.Ib.Ok P w mg base 1 (WM A):=by
 refine T.Ib.go aeN fun _ _ _ _ H _ Q E hr h=>?_;obtain⟨x,dx,rfl,hx,k⟩:=h;refine⟨_,(af (bC (pv 0) bp Z) (af (bC (pv 0) bp Z) (af (bC (pv 0) bp Z) (af (bC (pv 0) dv Z) (ak (bC (pv 0) bp Z)))))),?_⟩
 try dsimp only[aO,Cx.aQ]
 refine(bD hx T.iB ?_);refine(bD ah T.nR ?_);refine(bD ah T.qQ ?_);refine(bD ah T.Cu ?_);refine(bD ah T.o8 ?_);exact k _ ah fun b hb=>by simp only[ao hb]
theorem fA{H:Hp}(e:H a=some (.dK kv))(h:bw kv (dq x)=some v):fW H a (.str x) (some v):=h▸fW.k (k:=dq x) e
inductive WN(A:aR)(vs:List V)(H:Hp)(Q:VK)(E:XK):Prop
 |mk:∀(c:ae) (vc:gN) (p s b f:Nat),vs=[.ref c]→rJ A H c vc→bw (aq (cp vc)) (dq "p")=some (.int p)→bw (aq (cp vc)) (dq "s")=some (.int s)→bw (aq (cp vc)) (dq "b")=some (.int b)→bw (aq (cp vc)) (dq "f")=some (.int f)→(∀H' z,aa H H'→H z=none→c9 A H' z ⟨p,s,b,f⟩→Q (.ref z) H')→WN A vs H Q E
theorem uJ(T:Txt K mg A):T.oX.Ok P w mg base 3 (WN A):=by
 refine T.oX.go QG fun _ _ _ _ H _ Q E hr h=>?_;obtain⟨c,vc,p,s0,b,f,rfl,⟨dc,dt,rw,bh,hc,hd,hr0⟩,vp,vs,vb,vf,k⟩:=h;have hu:=d6 hr;refine⟨_,(af (aE 1 QG (aj 0)) (ak (ax (gk (wG T) hr T.wx T.qH (c8 (eD hu (pv 1) bG) (eD hu (pv 1) bG) (eD hu (pv 1) bG) (eD hu (pv 1) bG)))))),?_⟩
 try dsimp only[aO,Cx.aQ]
 refine(ag hc T.gS Z ?_);refine⟨dt,_,Z,fA hd vp,dt,_,Z,fA hd vs,dt,_,Z,fA hd vb,dt,_,Z,fA hd vf,fun z dz nz dP iC=>⟨z,dz,_,_,_,_,Z,ah,fun H1 hz Ab=>⟨Z,?_⟩⟩⟩;exact k H1 z (aa.make (C:=A.ic) (fs:=[]) nz dP Ab) nz ⟨dz,hz⟩
inductive WO(vs:List V)(H:Hp)(Q:VK)(E:XK):Prop
 |mk:∀(n:wL),vs=[.int (fv n)]→(∀m,n=some m→m≤60)→(∀H' p,aa H H'→H p=none→H' p=some (.lst ((rK n).map V.int))→Q (.ref p) H')→WO vs H Q E
theorem Ku(T:Txt K mg A):T.y2.Ok P w mg base 1 WO:=by
 refine T.y2.go aeO fun _ _ _ _ H _ Q E hr h=>?_;obtain⟨n,rfl,hn,k⟩:=h;refine⟨_,(af (aV (aL cO (pv 0) (a6 T.BN)) (ak (ax (bi (aF aH)))) aW) (ak (ax (bi (aX aH (pv 0)))))),?_⟩
 try dsimp only[aO,Cx.aQ]
 cases n with
 |none=>
  refine⟨Z,_,Z,bK (fun _=>?_) (fun z=>absurd Z z)⟩;exact⟨be,fun p np=>k _ p (aa.upd np) np (by rw[ah];rfl)⟩
 |some m=>
  have:=hn m Z;refine⟨Z,_,Z,bK (fun z=>absurd (show((m:Nat):Int)=1000 from V.int.inj z) (by lia)) (fun _=>?_)⟩;exact⟨be,fun p np=>k _ p (aa.upd np) np (by rw[ah];rfl)⟩
theorem iW{m:Nat}(h:me x 0 m=true):∃n:Nat,x=n∧n≤m:=by
 unfold me at h;rw[dA,decide_eq_true_eq,decide_eq_true_eq]at h;exact⟨x.toNat,by lia,by lia⟩
theorem DN{p s:Nat}:Ks l (p:Int) (s:Int)=true↔p<l.places.length∧s<2^l.caches.length:=by
 unfold Ks;rw[dA,decide_eq_true_eq,decide_eq_true_eq]
 lia
theorem cC(h:(a&&b)=true):a=true∧b=true:=by rw[dA]at h;exact h
theorem Kv(h:pT l (p,s,o)=true)(h1:WQ p=true)(h2:WR s=true):∃p' s':Nat,p=p'∧s=s'∧p'<l.places.length∧s'<2^l.caches.length∧s'≤15∧∀f,o=some f→f≤(l.most:Int):=by
 obtain⟨p',rfl,_⟩:=iW h1;obtain⟨s',rfl,hs⟩:=iW (m:=15) h2;obtain⟨q1,q2⟩:=cC h;obtain⟨q3,q4⟩:=DN.mp q1;refine⟨p',s',Z,Z,q3,q4,hs,fun f e=>?_⟩;subst e;exact of_decide_eq_true q2
theorem rL(h:pT l (p,s,some f)=true)(hr:(WQ p&&(WR s&&(amg b&&amh f)))=true):
  ∃p' s' b' f':Nat,p=p'∧s=s'∧b=b'∧f=f'∧fw l ⟨p',s',b',f'⟩∧f'≤l.most:=by
 obtain⟨h1,h2⟩:=cC hr;obtain⟨h2,h3⟩:=cC h2;obtain⟨h3,h4⟩:=cC h3;obtain⟨p',s',rfl,rfl,q1,q2,_,q3⟩:=Kv h h1 h2;obtain⟨b',rfl,hb⟩:=iW (m:=8) h3;obtain⟨f',rfl,hf⟩:=iW (m:=60) h4;have:=q3 _ Z;exact⟨p',s',b',f',Z,Z,Z,Z,⟨q1,q2,hb,hf⟩,by lia⟩
theorem WS(hs:s<2^l.caches.length)(hb:b≤8)(h:cq (a8 l) s b p=some m):m≤l.most:=by
 rw[M.Gs hs hb]at h;unfold Vbexab.rowFor at h;by_cases hp:p<l.places.length
 ·obtain⟨n,hn⟩:∃n,l.places.length=n+1:=⟨l.places.length-1,by lia⟩
  by_cases h0:p=0
  ·subst h0;rw[hn,M.yB,M.yA (by lia)]at h;cases h;exact bu _
  ·rw[hn,M.yB]at h;have h1:M.dM ((DO l (M.iz l s) (M.iP l s b) s b (WT (DO l (M.iz l s) (M.iP l s b) s b) n ((bP (n+1)).map fun p=>if p=0 then some 0 else none))).getD p none) m:=by rw[h];exact M.fu.mpr (a9 _)
   rw[M.yz hp h0]at h1;have h2:M.dM ((DO l (M.iz l s) (M.iP l s b) s b (WT (DO l (M.iz l s) (M.iP l s b) s b) n ((bP (n+1)).map fun p=>if p=0 then some 0 else none))).getD p none) l.most:=by
    rw[M.yz hp h0];obtain⟨tk,q1,g,q2,q3⟩:=h1;refine⟨tk,q1,g,q2,fun k hk=>?_⟩;obtain⟨v,q4,q5⟩:=q3 k hk;exact⟨v,q4,by lia⟩
   rw[h]at h2;exact M.fu.mp h2
 ·exfalso;obtain⟨n,hn⟩:∃n,l.places.length=n∨True:=⟨0,.inr trivial⟩
  have:∀(f:WU→WU) (n:Nat) (r:WU),(∀r,(f r).length=l.places.length)→r.length=l.places.length→(WT f n r).length=l.places.length:=fun f n=>by
   induction n with
   |zero=>exact fun r _ hr=>hr
   |succ n ih=>exact fun r hf hr=>ih (f r) hf (hf r)
  have hl:=this (DO l (M.iz l s) (M.iP l s b) s b) l.places.length ((bP l.places.length).map fun p=>if p=0 then some 0 else none) (fun r=>M.ad7) (by rw[aB,ia]);rw[eS,x5 (by lia)]at h;cases h
theorem uK L:(Vbexab.ints L).length=L.length:=by unfold Vbexab.ints;rw[aB]
theorem Kw(hp:H p=some (.lst (nats L)))(nq:H q=none)(hl:(mX (Vbexab.ints L)).length≤10000000)
  (k:∀z H',aa H H'→H z=none→H' z=some (.lst ((mX (Vbexab.ints L)).map V.int))→R (.ref z) H'):E4 (.ref q) (.ref p) (upd H q (.lst [V.int ((nats L).length:Nat)])) R:=by
 unfold mX at hl;rw[b6,uK]at hl;have s1:=aa.upd (o:=.lst [V.int ((nats L).length:Nat)]) nq;refine⟨q,p,_,_,Z,Z,ah,s1 _ _ hp,by rw[lj];show 1+_≤16777216;lia,fun z nz=>k z _ (s1.trans (aa.upd nz)) (aa.free s1 nz) ?_⟩;rw[ah,lj,uE];unfold mX;rw[uK];rfl
theorem rM{st:cM}(hl:st.land=some (l,a8 l))(ok:fw l ⟨p,s,b,f⟩)(fm:f≤l.most)k:DP st p s b f k=k l (a8 l) ⟨p,s,b,f⟩:=by
 unfold DP kG;rw[hl];simp only;rw[if_neg (by
  rintro(q|q)
  ·rw[DN.mpr ⟨ok.p,ok.s⟩]at q;cases q
  ·lia)]
 rfl
theorem ami{st:cM}{l:aJ}(hl:st.land=some (l,a8 l)){p s b f:Nat}(ok:fw l ⟨p,s,b,f⟩)(fm:f≤l.most):cv st (.rule p s b f)=(match uC st.plan p s b f with|none=>(st,[-4])|some y=>(st,[(y.1:Int),y.2.1,y.2.2])):=by
 unfold cv;simp only;rw[rM hl ok fm];show(match uC st.plan p s b f with|none=>_|some y=>_)=_;cases uC st.plan p s b f <;>rfl
theorem amj{st:cM}{l:aJ}(hl:st.land=some (l,a8 l)){p s b f:Nat}(ok:fw l ⟨p,s,b,f⟩)(fm:f≤l.most):cv st (.check p s b f)=(match rE l st.plan ⟨p,s,b,f⟩with
  | .over=>(st,[-6])
  | .good n=>(st,[1,(n:Int)])
  | .fails why way=>(st,0::(why:Int)::mX (Vbexab.ints way))):=by
 unfold cv;simp only;rw[rM hl ok fm];cases rE l st.plan ⟨p,s,b,f⟩<;>rfl
theorem amk{st:cM}(hl:st.land=some (l,a8 l))(ok:fw l ⟨p,s,b,f⟩)(fm:f≤l.most):cv st (.follow p s b f ks)=(st,((iV l st.plan (ks.map DQ) ⟨p,s,b,f⟩).2:Int)::((iV l st.plan (ks.map DQ) ⟨p,s,b,f⟩).1.length:Int)::(iV l st.plan (ks.map DQ) ⟨p,s,b,f⟩).1.flatMap fun y=>[(y.1:Int),y.2]):=by
 unfold cv;simp only;rw[rM hl ok fm]
theorem ints_of{m:Nat}:∀{ks},(ks.all fun k=>me k 0 m)=true→∃L:List Nat,ks=Vbexab.ints L
 |[],_=>⟨[],Z⟩
 |k::ks,h=>by
  rw[mr]at h;obtain⟨h1,h2⟩:=cC h;obtain⟨n,rfl,_⟩:=iW h1;obtain⟨L,rfl⟩:=ints_of h2;exact⟨n::L,Z⟩
theorem Kx L:(Vbexab.ints L).map DQ=L:=by
 unfold Vbexab.ints;rw[jf];exact CB L
theorem aml z:((z.2:Int)::(z.1.length:Int)::z.1.flatMap fun y=>[(y.1:Int),(y.2:Int)])=Vbexab.ints (DF z):=by
 unfold DF Vbexab.ints jS;rw[dw,dw,List.map_flatMap];rfl
theorem amm ps:amn (Vbexab.ints (jS ps))=ps:=by
 induction ps with
 |nil=>rfl
 |cons x r ih=>
  show((x.1:Int).toNat,(x.2:Int).toNat)::amn (Vbexab.ints (jS r))=_;rw[ih];rfl
theorem WV:∀r,r.length%2=0→(r.all fun k=>me k 0 15)=true→∃ps:List (Nat×Nat),r=Vbexab.ints (jS ps)∧∀x∈ps,x.1<16
 |[],_,_=>⟨[],Z,fun x m=>by cases m⟩
 |[_],h,_=>by simp at h
 |a::b::r,h,q=>by
  rw[mr,mr]at q;obtain⟨q1,q2⟩:=cC q;obtain⟨q2,q3⟩:=cC q2;obtain⟨x,rfl,hx⟩:=iW (m:=15) q1;obtain⟨y,rfl,_⟩:=iW (m:=15) q2;obtain⟨ps,e,h3⟩:=WV r (by simp only[b6]at h;lia) q3;refine⟨(x,y)::ps,by rw[e];rfl,fun z m=>?_⟩;rcases b_.mp m with rfl|m
  ·show x<16;lia
  ·exact h3 z m
theorem amo(T:Txt K mg A):T.B2.Ok P w mg base 9 (g6 A 1):=by
 refine T.B2.go QH fun _ _ _ _ H _ Q E hr h=>?_;obtain⟨d,st,c,vc,rfl,hn,hD,hC,hR,fJ,hlen,k⟩:=h;have hu:=d6 hr;cases vc <;>cases hn;obtain⟨l,hl,eX⟩:=hR.land (by show(1:Nat)≠0;decide);have hI:=(hD.fz _ hl).2;have hL:=hI.fI;obtain⟨dc,dt,fi,bh,hc,bF,dD⟩:=id hC;have ea:cv st .form=(st,mX (Vbexab.ints (zN l))):=by unfold cv kG;rw[hl]
 rw[ea]at hlen k;have qo:(zN l).length≤10000000:=by
  have:=hlen;unfold mX at this;rw[b6,uK]at this;lia
 refine⟨_,(af (aE 2 QH (aI (akb T) hr T.Hq (aF (aj 0)))) (ak (ax (br my (bi (aF (cT T.cH (pv 2)))) (pv 2))))),?_⟩
 try dsimp only[aO,Cx.aQ]
 refine(ag hI.ins T.iB Z ⟨d.r,l,Z,hL,hI.x.bad,qo,fun H1 p s1 np hp=>?_⟩);refine⟨_,_,Z,.inl (ai.of hp),be,fun q nq=>(Kw hp nq hlen fun z H2 s2 nz hz=>?_)⟩;exact k.same hD (s1.trans s2) (aa.free s1 nz) hz
theorem amq(T:Txt K mg A):T.B9.Ok P w mg base 9 (g6 A 8):=by
 refine T.B9.go QJ fun _ _ _ _ H _ Q E hr h=>?_;obtain⟨d,st,c,vc,rfl,hn,hD,hC,hR,fJ,hlen,k⟩:=h;have hu:=d6 hr;cases vc <;>cases hn;obtain⟨l,hl,eX⟩:=hR.land (by show(8:Nat)≠0;decide);have hI:=(hD.fz _ hl).2;have hL:=hI.fI;obtain⟨dc,dt,fi,bh,hc,bF,dD⟩:=id hC;have ea:cv st .planForm=if st.planned=false then(st,[-3])else(st,mX (Vbexab.ints (J6 l st.plan))):=by unfold cv kG;rw[hl]
 rw[ea]at hlen k;refine⟨_,(af (aV (jX (gg (aj 0))) (ak (ax (bi (aF (a6 T.ahM))))) aW) (af (aE 2 QJ (aI (akX T) hr T.HF (aF (aj 0)))) (ak (ax (br my (bi (aF (cT T.cH (pv 2)))) (pv 2)))))),?_⟩
 try dsimp only[aO,Cx.aQ]
 refine(ag hI.ins T.Cu Z ⟨_,Z,bj (fun h=>?_) (fun h=>?_)⟩)
 ·rw[h8]at h;rw[if_pos h]at k;exact⟨be,fun p np=>k.same hD (aa.upd np) np (by rw[ah];rfl)⟩
 ·rw[gU]at h;rw[if_neg (by rw[h];decide)]at k hlen;have qo:(J6 l st.plan).length≤10000000:=by
   have:=hlen;unfold mX at this;rw[b6,uK]at this;lia
  refine(ag hI.ins T.qQ Z ⟨d.u,d.r,l,st.plan,Z,hL,hI.xi,qo,fun H1 p s1 np hp=>?_⟩);refine⟨_,_,Z,.inl (ai.of hp),be,fun q nq=>(Kw hp nq hlen fun z H2 s2 nz hz=>?_)⟩;exact k.same hD (s1.trans s2) (aa.free s1 nz) hz
theorem amr(T:Txt K mg A):T.B3.Ok P w mg base 9 (g6 A 2):=by
 refine T.B3.go QI fun _ _ _ _ H _ Q E hr h=>?_;obtain⟨d,st,c,vc,rfl,hn,hD,hC,hR,fJ,hlen,k⟩:=h;have hu:=d6 hr;cases vc <;>cases hn;obtain⟨l,hl,eX⟩:=hR.land (by show(2:Nat)≠0;decide);have hI:=(hD.fz _ hl).2;have hL:=hI.fI;obtain⟨dc,dt,fi,bh,hc,bF,dD⟩:=id hC;rename_i p0 s0 b0;obtain⟨h1,h2⟩:=cC hR.g8;obtain⟨h2,h3⟩:=cC h2;obtain⟨pN,sN,rfl,rfl,q1,q2,_,_⟩:=Kv (eX _ Z) h1 h2;obtain⟨bN,rfl,hb⟩:=iW (m:=8) h3;have ea:cv st (.need pN sN bN)=(st,rK (cq (a8 l) sN bN pN)):=by
  unfold cv kG;rw[hl];simp only;rw[if_neg (by rw[DN.mpr ⟨q1,q2⟩];decide)];rfl
 rw[ea]at hlen k;refine⟨_,(af (aE 2 QI (aj 1)) (ak (ax (aI (Ku T) hr T.y2 (aF (qj (aj 0) T.qO T.Ct (JD T) (hr.mono (by decide)) T.qJ.b .nil jG (cS (eD hu (pv 2) bG) (eD hu (pv 2) bG) (eD hu (pv 2) bG)))))))),?_⟩
 try dsimp only[aO,Cx.aQ]
 refine(ag hc T.gS Z (ag hI.ins T.nR Z ⟨d.n.a,d.n.dx,_,Z,hI.fq.ins,Z,?_⟩));refine⟨dt,_,Z,fA bF Z,dt,_,Z,fA bF Z,dt,_,Z,fA bF Z,d.n,d.r,l,pN,sN,bN,Z,hI.fq,hL,q1,q2,hb,fun H1 n1 dC eK dm=>?_⟩;refine⟨_,Z,fun m e=>dU (WS q2 hb e) hL.ok.most,fun H2 p s2 np hp=>?_⟩;exact k.fq hl hI dC eK dm s2 np hp
set_option tactic.hygienic true in
theorem ams(T:Txt K mg A):T.B_.Ok P w mg base 9 (g6 A 9):=by
 refine T.B_.go GZ fun _ _ _ _ H _ Q E hr h=>?_;obtain⟨d,st,c,vc,rfl,hn,hD,hC,hR,fJ,hlen,k⟩:=h;have hu:=d6 hr;cases vc <;>cases hn;obtain⟨l,hl,eX⟩:=hR.land (by show(9:Nat)≠0;decide);have hI:=(hD.fz _ hl).2;have hL:=hI.fI;obtain⟨dc,dt,fi,bh,hc,bF,dD⟩:=id hC;rename_i p0 s0 b0 f0;obtain⟨pN,sN,bN,fN,rfl,rfl,rfl,rfl,eU,fm⟩:=rL (p:=p0) (s:=s0) (b:=b0) (f:=f0) (eX _ Z) (hR.g8.trans Z);have ea:cv st (.rule pN sN bN fN)=(match uC st.plan pN sN bN fN with|none=>(st,[-4])|some y=>(st,[(y.1:Int),y.2.1,y.2.2])):=ami hl eU fm;rw[ea]at hlen k;have h4:=hL.ok.caches;have w6:sN<16:=dG eU.s (jc (n:=2) (by decide) h4);refine⟨_,(af (aE 2 GZ (aI (UC T) hr T.BW (aX (aj 0) (aI (uJ T) hr T.oX (aF (pv 1)))))) (af (aV (aL de (pv 2) bp) (ak (ax (bi (aF (jZ j0 aH))))) aW) (af (aE 3 GZ (bM cF (iw (aj 0) Z) (pv 2))) (ak (ax (bi (cS (pv 2) (aI (UE T) hr T.BV (aF (pv 3))) (aj 3)))))))),?_⟩
 try dsimp only[aO,Cx.aQ]
 refine(ag hI.ins T.qQ Z ⟨c,_,pN,sN,bN,fN,Z,hC,Z,Z,Z,Z,fun H1 z s1 nz hP=>?_⟩);refine⟨d.u,d.r,l,st.plan,z,_,Z,hI.xi.same s1,h4,hP,w6,fun H2 s2=>?_⟩;have eI:=s1.trans s2;have e0:=J7 (pl:=st.plan) (x:=⟨pN,sN,bN,fN⟩);simp only at e0;rw[e0]at k;cases e:st.plan.findIdx? (nZ ⟨pN,sN,bN,fN⟩)with
 |none=>
  rw[e]at k;refine⟨Z,_,Z,cP ?_⟩;exact⟨_,Z,be,fun p np=>k.same hD (eI.trans (aa.upd np)) (aa.free eI np) (by rw[ah];rfl)⟩
 |some i=>
  obtain⟨y,hy⟩:=J8 e;have pO:=hI.xi;have l9:=pO.ok y (dI hy);have l5:d.u.rs.length=st.plan.length:=Paired.length pO.rs;have oR:=(du.mp hy).1;obtain⟨b,hb⟩:∃b,d.u.rs[i]?=some b:=⟨_,di (by lia)⟩
  obtain⟨y',iy,pQ⟩:=fc pO.rs hb;rw[hy]at iy;have iy:=bS iy;subst iy;have pQ:=pQ.same (Off.sub _ _);rw[e]at k;simp only[hy]at k;have ju:=hI.same eI;have gR:=pO.same eI;refine⟨Z,_,Z,cV ?_⟩;refine(ag ju.ins T.qQ Z (ag gR.ins T.qM Z ⟨d.u.lr,_,_,_,Z,Z,ai.of gR.rl,bX (j:=i) (by rw[cR,hb];rfl),?_⟩));refine⟨b,y,Z,pQ.same eI,fun c m=>dG (l9.take c m) h4,fun H3 s3=>?_⟩;have gK:=eI.trans s3;obtain⟨w3,ew,iU⟩:=pQ.same gK;have tF:H3 b=some (.ins A.Rule w3.dx (JK w3 y)):=by rw[←ew];exact iU.ins
  refine(ag tF T.Cq Z ⟨be,fun p np=>k.same hD (gK.trans (aa.upd np)) (aa.free gK np) (by rw[ah];rfl)⟩)
set_option tactic.hygienic true in
theorem amt(T:Txt K mg A):T.Ca.Ok P w mg base 9 (g6 A 10):=by
 refine T.Ca.go aeP fun _ _ _ _ H _ Q E hr h=>?_;obtain⟨d,st,c,vc,rfl,hn,hD,hC,hR,fJ,hlen,k⟩:=h;have hu:=d6 hr;cases vc <;>cases hn;obtain⟨l,hl,eX⟩:=hR.land (by show(10:Nat)≠0;decide);have hI:=(hD.fz _ hl).2;have hL:=hI.fI;obtain⟨dc,dt,fi,bh,hc,bF,dD⟩:=id hC;rename_i p0 s0 b0 f0;obtain⟨pN,sN,bN,fN,rfl,rfl,rfl,rfl,eU,fm⟩:=rL (p:=p0) (s:=s0) (b:=b0) (f:=f0) (eX _ Z) (hR.g8.trans Z);have ea:cv st (.check pN sN bN fN)=(st,Kf (rE l st.plan ⟨pN,sN,bN,fN⟩)):=by
  rw[amj hl eU fm];cases rE l st.plan ⟨pN,sN,bN,fN⟩<;>rfl
 rw[ea]at hlen k;refine⟨_,(ak (ax (aI (alf T) hr T.HK (aX (aj 0) (aI (uJ T) hr T.oX (aF (pv 1))))))),?_⟩
 try dsimp only[aO,Cx.aQ]
 refine(ag hI.ins T.qQ Z ⟨c,_,pN,sN,bN,fN,Z,hC,Z,Z,Z,Z,fun H1 z s1 nz hP=>?_⟩);exact⟨d.u,d.r,l,st.plan,z,_,Z,hL.same s1,hI.xi.same s1,hP,eU,fun H2 p s2 np hp=>k.same hD (s1.trans s2) (aa.free s1 np) hp⟩
set_option tactic.hygienic true in
theorem amu(T:Txt K mg A):T.Cb.Ok P w mg base 9 (g6 A 11):=by
 refine T.Cb.go aeQ fun _ _ _ _ H _ Q E hr h=>?_;obtain⟨d,st,c,vc,rfl,hn,hD,hC,hR,fJ,hlen,k⟩:=h;have hu:=d6 hr;cases vc <;>cases hn;obtain⟨l,hl,eX⟩:=hR.land (by show(11:Nat)≠0;decide);have hI:=(hD.fz _ hl).2;have hL:=hI.fI;obtain⟨dc,dt,fi,bh,hc,bF,dD⟩:=id hC;rename_i p0 s0 b0 f0 ks0;obtain⟨r1,r2⟩:=cC hR.g8;obtain⟨r2,r3⟩:=cC r2;obtain⟨r3,r4⟩:=cC r3;obtain⟨r4,r5⟩:=cC r4;obtain⟨r5,r6⟩:=cC r5;obtain⟨pN,sN,bN,fN,rfl,rfl,rfl,rfl,eU,fm⟩:=rL (p:=p0) (s:=s0) (b:=b0) (f:=f0) (eX _ Z) (by rw[r1,r2,r3,r4];rfl);obtain⟨ks,rfl⟩:=ints_of (m:=12) r6;have kl:ks.length≤40:=by have:=of_decide_eq_true r5;rw[uK]at this;exact this
 have ea:cv st (.follow pN sN bN fN (Vbexab.ints ks))=(st,Vbexab.ints (DF (iV l st.plan ks ⟨pN,sN,bN,fN⟩))):=by
  rw[amk hl eU fm,Kx,aml]
 rw[ea]at hlen k;refine⟨_,(ak (ax (aI (alJ T) hr T.HN (cS (aj 0) (aI (uJ T) hr T.oX (aF (pv 1))) (aj 1))))),?_⟩
 try dsimp only[aO,Cx.aQ]
 refine(ag hI.ins T.qQ Z ⟨c,_,pN,sN,bN,fN,Z,hC,Z,Z,Z,Z,fun H1 z s1 nz hP=>?_⟩);refine(ag (s1 _ _ hc) T.wu Z ⟨d.u,d.r,l,st.plan,z,_,fi,ks,Z,hL.same s1,hI.xi.same s1,hP,eU,?_,kl,fun H2 p s2 np hp=>k.same hD (s1.trans s2) (aa.free s1 np) (by rw[hp,uE])⟩);rw[s1 _ _ dD,uE];rfl
theorem amv(T:Txt K mg A):T.Cc.Ok P w mg base 9 (g6 A 12):=by
 refine T.Cc.go QK fun _ _ _ _ H _ Q E hr h=>?_;obtain⟨d,st,c,vc,rfl,hn,hD,hC,hR,fJ,hlen,k⟩:=h;have hu:=d6 hr;cases vc <;>cases hn;obtain⟨l,hl,eX⟩:=hR.land (by show(12:Nat)≠0;decide);have hI:=(hD.fz _ hl).2;have hL:=hI.fI;obtain⟨dc,dt,fi,bh,hc,bF,dD⟩:=id hC;rename_i p0 s0 b0 r0;obtain⟨r1,r2⟩:=cC hR.g8;obtain⟨r2,r3⟩:=cC r2;obtain⟨r3,r4⟩:=cC r3;obtain⟨r4,r5⟩:=cC r4;obtain⟨pN,sN,rfl,rfl,q1,q2,_,_⟩:=Kv (eX _ Z) r1 r2;obtain⟨bN,rfl,hb⟩:=iW (m:=8) r3;have r4:=of_decide_eq_true r4;obtain⟨ps,e0,e16⟩:=WV r0 r4.2 r5;have pl:ps.length≤12:=by
  have:=r4.1;rw[e0,uK,Ae]at this;lia
 have ea:cv st (.route pN sN bN r0)=(st,rK (Af l ps pN sN bN)):=by
  unfold cv kG;rw[hl];simp only;rw[if_neg (by rw[DN.mpr ⟨q1,q2⟩];decide),e0,amm];rfl
 rw[ea]at hlen k;refine⟨_,(af (aE 2 QK (aj 1)) (ak (ax (aI (Ku T) hr T.y2 (aF (aI (alY T) hr T.Ia (gh (aj 0) (c8 (eD hu (pv 2) bG) (eD hu (pv 2) bG) (eD hu (pv 2) bG) (aj 1))))))))),?_⟩
 try dsimp only[aO,Cx.aQ]
 refine(ag hc T.gS Z ?_);refine(ag hI.ins T.iB Z ⟨dt,_,Z,fA bF Z,dt,_,Z,fA bF Z,dt,_,Z,fA bF Z,ag hc T.wu Z ⟨d.r,l,pN,sN,bN,fi,ps,Z,hL,?_,pl,e16,hb,fun H1 s1=>?_⟩⟩)
 ·rw[dD,uE,←e0];rfl
 refine⟨_,Z,fun m e=>dU ?_ hL.ok.most,fun H2 p s2 np hp=>k.same hD (s1.trans s2) (aa.free s1 np) hp⟩;rw[DI]at e;cases hs:gY l ps pN sN with
 |none=>rw[hs]at e;cases e
 |some bZ=>rw[hs]at e;exact Wt bZ bN m e
inductive I53_(H:Hp)(d:DA)(c:ae)(j:Vbexab.Journey)(D:ae)(σ:L2.St)(H':Hp):Prop|mk v4:σ=[some (.ref d.a),some (.ref c),some (.ref d.w.a),some (.ref D),v4]→aa H H'→H' D=some (.lst (((j.log.length:Int)::j.log.flatMap fun y=>[(y.1:Int),y.2.1,y.2.2.1,y.2.2.2]).map V.int))→I53_ H d c j D σ H'
inductive I54_(H:Hp)(d:DA)(c:ae)(j:Vbexab.Journey)(D:ae)(i:Nat)(σ:L2.St)(H':Hp):Prop|mk v4:σ=[some (.ref d.a),some (.ref c),some (.ref d.w.a),some (.ref D),v4]→aa H H'→H' D=some (.lst (((j.log.length:Int)::(j.log.take i).flatMap fun y=>[(y.1:Int),y.2.1,y.2.2.1,y.2.2.2]).map V.int))→I54_ H d c j D i σ H'
theorem amx(T:Txt K mg A):T.Cj.Ok P w mg base 9 (g6 A 17):=by
 refine T.Cj.go BJ fun _ _ _ _ H _ Q E hr h=>?_;obtain⟨d,st,c,vc,rfl,hn,hD,hC,hR,fJ,hlen,k⟩:=h;have hu:=d6 hr;cases vc <;>cases hn;obtain⟨l,hl,eX⟩:=hR.land (by show(17:Nat)≠0;decide);have hI:=(hD.fz _ hl).2;have hL:=hI.fI;obtain⟨dc,dt,fi,bh,hc,bF,dD⟩:=id hC;have ea:cv st .log=(match st.journey with|none=>(st,[-3])|some j=>(st,(j.log.length:Int)::j.log.flatMap fun y=>[(y.1:Int),y.2.1,y.2.2.1,y.2.2.2])):=by
  unfold cv;simp only;unfold uL kG;rw[hl];cases st.journey <;>rfl
 rw[ea]at hlen k;refine⟨_,(af (aE 2 BJ (aj 0)) (af (aV (aL de (pv 2) bp) (ak (ax (bi (aF (a6 T.BM))))) aW) (af (aE 3 BJ (bi (aF (cT T.cH (aj 2))))) (af (cJ<|eV d8 rfl (fL (aj 2)) (bY 4 BJ) (ak (dH (d4 PySem.F.plainAttrs_list PySem.F.slot_list_extend PySem.F.type_list_extend Oc (pv 3) (aF (pv 4)))))) (ak (ax (pv 3))))))),?_⟩
 try dsimp only[aO,Cx.aQ]
 refine(ag hI.ins T.o8 Z ?_);cases ej:st.journey with
 |none=>
  rw[ej]at k;have ev:jv d st=.aC:=by unfold jv;rw[ej]
  rw[ev];refine⟨Z,_,Z,cP ?_⟩;exact⟨be,fun p np=>k.same hD (aa.upd np) np (by rw[ah];rfl)⟩
 |some j=>
  rw[ej]at k;have ev:jv d st=.ref d.w.a:=by unfold jv;rw[ej]
  rw[ev];have hJ:=hI.jr j ej;have jl:=fJ j ej;have al:=Paired.length hJ.ents;refine⟨Z,_,Z,cV ?_⟩;refine(ag hJ.ins T.Cs Z ⟨_,_,Z,.inl (ai.of hJ.log),be,fun D nD=>?_⟩);have s1:=aa.upd (o:=.lst [V.int ((d.w.as.map V.ref).length:Nat)]) nD;have h1:(upd H D (.lst [V.int ((d.w.as.map V.ref).length:Nat)])) D=some (.lst ([(j.log.length:Int)].map V.int)):=by rw[ah,aB,al];rfl
  generalize upd H D (.lst [V.int ((d.w.as.map V.ref).length:Nat)])=H1 at*;have fl:∀L:List (Nat×Nat×Nat×Nat),(L.flatMap fun y=>[(y.1:Int),y.2.1,y.2.2.1,y.2.2.2]).length≤L.length*4:=C_ (fun _=>a9 4);refine⟨I53_ H d c j D,?_,?_⟩
  ·have kD:=hJ.same s1;refine(ag kD.ins T.Cs Z ⟨d.w.jl,Z,⟨_,ai.of kD.log⟩,kL (K:=K) (a:=d.w.jl) (xs:=d.w.as.map V.ref)
    (I54_ H d c j D)
    ⟨none,Z,s1,h1⟩ (fun i σ H' _ ⟨_,_,q,_⟩=>ai.of (q _ _ hJ.log)) ?_ ?_⟩)
   ·rintro i yv σ H2 hi ⟨v4,rfl,s2,h2⟩;obtain⟨a,ha,rfl⟩:=cY hi;obtain⟨y,hy,Ky⟩:=fc hJ.ents ha;refine⟨.inl ⟨Z,_,ai.of h2⟩,D,a,_,_,Z,Z,h2,bV.of (s2 _ _ Ky),?_,?_⟩
    ·rw[aB,b6];have:=fl (j.log.take i);rw[eW]at this;show _+4≤16777216
     lia
    ·refine⟨_,Z,aa.bI s2 nD,?_⟩;rw[ah,C7 hy];simp
   ·rintro σ H2 ⟨v4,rfl,s2,h2⟩;rw[aB,al,fD]at h2;exact⟨_,Z,s2,h2⟩
  ·rintro σ H2 ⟨v4,rfl,s2,h2⟩;exact(k.same hD s2 nD h2)
theorem WW:amy (a8 l) (x.s-t) x.b (dS l x.f t) g=(fG l x t g).isNone:=by
 rw[iJ,zi];unfold amy fG;rw[SK,jC];constructor
 ·intro h k hk;have:=h k hk;cases e:cq (a8 l) (x.s-t) (x.b-k) g.b with
  |none=>rw[e]at this;cases this
  |some n=>
   rw[e]at this;have:=of_decide_eq_true this;simp only[decide_eq_true_eq]
   lia
 ·intro h k hk;have:=h k hk;cases e:cq (a8 l) (x.s-t) (x.b-k) g.b with
  |none=>rw[e]at this;exact absurd Z this
  |some n=>
   rw[e]at this;simp only[decide_eq_true_eq]at this ⊢
   lia
theorem amz l x:amA l (a8 l) x.p x.s x.b x.f=(gI l x.p x.s).flatMap (jo l x l.places.length):=by
 unfold amA;congr 1;funext t;unfold jo Jt;generalize bP l.places.length=L;induction L with
 |nil=>rfl
 |cons q r ih=>
  rw[pj,←ih,Ea];unfold wV;have e0:(l.legs.find? fun g=>g.a==x.p&&g.b==q)=d9 l x.p q:=Z;rw[e0];cases e:d9 l x.p q with
  |none=>rfl
  |some g=>
   have gb:=(rF e).2.2;simp only[lO,WW];by_cases h:fG l x t g=none
   ·rw[h];simp[gb]
   ·have h2:(fG l x t g).isNone=false:=by
     cases q:fG l x t g with
     |none=>exact absurd q h
     |some _=>rfl
    simp[h,h2]
theorem amB{st:cM}(hl:st.land=some (l,a8 l))(ok:fw l ⟨p,s,b,f⟩)(fm:f≤l.most):cv st (.choices p s b f)=(st,(((if p=0 then[]else(gI l p s).flatMap (jo l ⟨p,s,b,f⟩ l.places.length)).length:Nat):Int)::(if p=0 then[]else(gI l p s).flatMap (jo l ⟨p,s,b,f⟩ l.places.length)).flatMap fun y=>[(y.1:Int),(y.2:Int)]):=by
 unfold cv;simp only;rw[rM hl ok fm];have e:=amz l ⟨p,s,b,f⟩;simp only at e ⊢;by_cases h:p=0
 ·rw[if_pos h,if_pos h];rfl
 ·rw[if_neg h,if_neg h,e]
inductive I55_(d:DA)(c:ae)(H1:Hp)(p1:ae)(CH:List (Nat×Nat))(D:ae)(σ:L2.St)(H':Hp):Prop|mk v4:σ=[some (.ref d.a),some (.ref c),some (.ref p1),some (.ref D),v4]→aa H1 H'→H' D=some (.lst (((CH.length:Int)::CH.flatMap fun y=>[(y.1:Int),(y.2:Int)]).map V.int))→I55_ d c H1 p1 CH D σ H'
inductive I56_(d:DA)(c:ae)(H1:Hp)(p1:ae)(CH:List (Nat×Nat))(D:ae)(i:Nat)(σ:L2.St)(H':Hp):Prop|mk v4:σ=[some (.ref d.a),some (.ref c),some (.ref p1),some (.ref D),v4]→aa H1 H'→H' D=some (.lst (((CH.length:Int)::(CH.take i).flatMap fun y=>[(y.1:Int),(y.2:Int)]).map V.int))→I56_ d c H1 p1 CH D i σ H'
set_option tactic.hygienic true in
theorem amC(T:Txt K mg A):T.B4.Ok P w mg base 11 (g6 A 3):=by
 refine T.B4.go BH fun _ _ _ _ H _ Q E hr h=>?_;obtain⟨d,st,c,vc,rfl,hn,hD,hC,hR,fJ,hlen,k⟩:=h;have hu:=d6 hr;cases vc <;>cases hn;obtain⟨l,hl,eX⟩:=hR.land (by show(3:Nat)≠0;decide);have hI:=(hD.fz _ hl).2;have hL:=hI.fI;obtain⟨dc,dt,fi,bh,hc,bF,dD⟩:=id hC;rename_i p0 s0 b0 f0;obtain⟨pN,sN,bN,fN,rfl,rfl,rfl,rfl,eU,fm⟩:=rL (p:=p0) (s:=s0) (b:=b0) (f:=f0) (eX _ Z) (hR.g8.trans Z);rw[amB hl eU fm]at hlen k;refine⟨_,(af (aE 2 BH (aI (ajW T) hr T.Ht (cS (aj 0) (aj 0) (aI (uJ T) hr T.oX (aF (pv 1)))))) (af (aE 3 BH (bi (aF (cT T.cH (pv 2))))) (af (cJ<|eV d8 rfl (fL (pv 2)) (bY 4 BH) (ak (dH (d4 PySem.F.plainAttrs_list PySem.F.slot_list_extend PySem.F.type_list_extend Oc (pv 3) (aF (pv 4)))))) (ak (ax (pv 3)))))),?_⟩
 try dsimp only[aO,Cx.aQ]
 refine(ag hI.ins T.iB Z (ag hI.ins T.nR Z ⟨c,_,pN,sN,bN,fN,Z,hC,Z,Z,Z,Z,fun H0 z s0 nz hP=>?_⟩));refine⟨d.n,d.r,l,z,_,Z,hI.fq.same s0,hL.same s0,hP,eU,fun H1 n1 p1 as dC eK dm pd eG hT=>?_⟩;have sn:=(ba.of s0).trans dm;simp only at hT;generalize (if pN=0 then[]else(gI l pN sN).flatMap (jo l ⟨pN,sN,bN,fN⟩ l.places.length))=CH at*;have al:=Paired.length hT;have cl:CH.length≤10000000:=by
  have:=hlen;rw[b6]at this;have q:∀L:List (Nat×Nat),L.length≤(L.flatMap fun y=>[(y.1:Int),(y.2:Int)]).length:=fun L=>by
   induction L with
   |nil=>simp
   |cons a r ih=>rw[pj,bT,b6];simp only[b6,ja];lia
  have:=q CH
  lia
 refine⟨_,_,Z,.inl (ai.of eG),be,fun D nD=>?_⟩;have s2:=aa.upd (o:=.lst [V.int ((as.map V.ref).length:Nat)]) nD;have h2:(upd H1 D (.lst [V.int ((as.map V.ref).length:Nat)])) D=some (.lst ([(CH.length:Int)].map V.int)):=by rw[ah,aB,al];rfl
 generalize upd H1 D (.lst [V.int ((as.map V.ref).length:Nat)])=H2 at*;have fl:∀i,(((CH.take i).flatMap fun y=>[(y.1:Int),(y.2:Int)]).length)≤10000000:=fun i=>by
  have e:=zY i CH;have:=hlen;rw[b6]at this
  conv at this=>lhs;rw[←e,JF,bT]
  lia
 refine⟨I55_ d c H1 p1 CH D,?_,?_⟩
 ·refine⟨p1,Z,⟨_,ai.of (s2 _ _ eG)⟩,kL (K:=K) (a:=p1) (xs:=as.map V.ref)
   (I56_ d c H1 p1 CH D)
   ⟨none,Z,s2,h2⟩ (fun i σ H' _ ⟨_,_,q,_⟩=>ai.of (q _ _ eG)) ?_ ?_⟩
  ·rintro i yv σ H3 hi ⟨v4,rfl,s3,h3⟩;obtain⟨a,ha,rfl⟩:=cY hi;obtain⟨y,hy,Ky⟩:=fc hT ha;refine⟨.inl ⟨Z,_,ai.of h3⟩,D,a,_,_,Z,Z,h3,bV.of (s3 _ _ Ky),?_,?_⟩
   ·rw[aB,b6];have:=fl i;show _+2≤16777216
    lia
   ·refine⟨_,Z,aa.bI s3 nD,?_⟩;rw[ah,C7 hy];simp
  ·rintro σ H3 ⟨v4,rfl,s3,h3⟩;rw[aB,al,fD]at h3;exact⟨_,Z,s3,h3⟩
 ·rintro σ H3 ⟨v4,rfl,s3,h3⟩;exact(k.fq hl hI dC eK sn s3 nD h3)
theorem bR.WX(h:bR A H n r l)(e:H D=some (.bE od u)):bR A (Off [D] (upd H D u')) n r l:=by
 have go:∀b o,H b=some o→(∀o' u',o≠.bE o' u')→Off [D] (upd H D u') b=some o:=fun b o q hn=>by
  have nb:b≠D:=fun z=>by subst z;rw[e]at q;exact hn _ _ (bS q).symm
  rw[Off.at (by simpa using nb),ao nb];exact q
 exact⟨go _ _ h.ins (fun _ _ z=>nomatch z),go _ _ h.lv (fun _ _ z=>nomatch z),go _ _ h.cs (fun _ _ z=>nomatch z),h.ne,
  fun k v q=>let ⟨s,b,a,q1,q2,q3,q4,q5⟩:=h.pB k v q;⟨s,b,a,q1,q2,q3,q4,go _ _ q5 (fun _ _ z=>nomatch z)⟩,
  fun k v q=>let ⟨s,b,a,q1,q2,q3,q4,q5⟩:=h.pC k v q;⟨s,b,a,q1,q2,q3,q4,go _ _ q5 (fun _ _ z=>nomatch z)⟩,h.both,h.qZ,h.q_⟩
theorem Off.lock:aa (Off [D] H) (upd H D o):=fun b u e=>by
 unfold Off at e;split at e
 ·cases e
 ·rename_i hb;rw[ao (by simpa using hb)];exact e
theorem amD{st:cM}(hl:st.land=some (l,a8 l))(ok:fw l ⟨p,s,b,f⟩)(fm:f≤l.most)(h4:l.caches.length≤4):cv st (.give p s b f)=(st,mX (Vbexab.ints ((fe s).filter fun i=>ku (a8 l) ⟨p,s-2^i,b,f⟩))):=by
 unfold cv;simp only;rw[rM hl ok fm,Th ok.s h4]
theorem amE(h:jh s i=true):2^i≤s:=Nat.ge_two_pow_of_testBit h
set_option tactic.hygienic true in
theorem amF(T:Txt K mg A):T.B5.Ok P w mg base 10 (g6 A 4):=by
 refine T.B5.go yL fun _ _ _ _ H _ Q E hr h=>?_;obtain⟨d,st,c,vc,rfl,hn,hD,hC,hR,fJ,hlen,k⟩:=h;have hu:=d6 hr;cases vc <;>cases hn;obtain⟨l,hl,eX⟩:=hR.land (by show(4:Nat)≠0;decide);have hI:=(hD.fz _ hl).2;have hL:=hI.fI;obtain⟨dc,dt,fi,bh,hc,bF,dD⟩:=id hC;rename_i p0 s0 b0 f0;obtain⟨pN,sN,bN,fN,rfl,rfl,rfl,rfl,eU,fm⟩:=rL (p:=p0) (s:=s0) (b:=b0) (f:=f0) (eX _ Z) (hR.g8.trans Z);have h4:=hL.ok.caches;rw[amD hl eU fm h4]at hlen k;have w6:sN<16:=dG eU.s (jc (n:=2) (by decide) h4);refine⟨_,(af (aE 2 yL (aI (uJ T) hr T.oX (aF (pv 1)))) (af (aE 3 yL (bi gA)) (af (cJ<|eV d8 rfl (fL (aI (Te T) hr T.BQ (aF (aj 2)))) (bY 4 yL) (af (aE 5 yL (gk (wG T) hr T.wx T.qH (c8 (aj 2) (br iu (aj 2) (bM vw (a6 T.tP) (pv 4))) (aj 2) (aj 2)))) (ak (aV (gg (FE (aI (C6 T) hr T.wt (aX (aj 0) (pv 5))))) (ak (dH (d4 PySem.F.plainAttrs_list PySem.F.slot_list_append PySem.F.type_list_append gQ (pv 3) (aF (pv 4))))) aW)))) (ak (ax (br my (bi (aF (cT T.cH (pv 3)))) (pv 3))))))),?_⟩
 try dsimp only[aO,Cx.aQ]
 refine⟨c,_,pN,sN,bN,fN,Z,hC,Z,Z,Z,Z,fun H0 z s0 nz hP=>?_⟩;refine⟨bu _,fun D nD=>?_⟩;have km:=aa.free s0 nD;have s1:aa H0 (upd H0 D (.lst [])):=aa.upd nD;have rN:(upd H0 D (.lst [])) D=some (.lst []):=ah;have N1:bR A (Off [D] (upd H0 D (.lst []))) d.n d.r l:=(hI.fq.same s0).same (Off.new s1 (fun b m=>by rw[cA.mp m];exact nD));generalize upd H0 D (.lst [])=H1 at*;have Ac:=s0.trans s1
 let F:Nat→Bool:=fun i=>ku (a8 l) ⟨pN,sN-2^i,bN,fN⟩
 have bl:(fe sN).length≤4:=by
  unfold fe;have:=qS (jh sN) (bP 4);rw[ia]at this;exact this
 refine⟨fun(σ:L2.St) H'=>∃v4 v5 n',σ=[some (.ref d.a),some (.ref c),some (.ref z),some (.ref D),v4,v5]∧bR A (Off [D] H') n' d.r l∧dk d.n n'∧ba H H'∧H' D=some (.lst (nats ((fe sN).filter F))),?_,?_⟩
 ·obtain⟨dp,hp⟩:=hP.same s1;refine(ag hp T.jJ Z ⟨sN,Z,w6,fun H2 pp s2 k6 iD=>?_⟩);have Kz:pp≠D:=fun e=>by subst e;rw[rN]at k6;cases k6
  refine⟨pp,Z,⟨_,ai.of iD⟩,kL (K:=K) (a:=pp) (xs:=nats (fe sN))
   (fun i σ H'=>∃v4 v5 n',σ=[some (.ref d.a),some (.ref c),some (.ref z),some (.ref D),v4,v5]∧bR A (Off [D] H') n' d.r l∧dk d.n n'∧ba H H'∧c9 A H' z ⟨pN,sN,bN,fN⟩∧H' pp=some (.lst (nats (fe sN)))∧H' D=some (.lst (nats (((fe sN).take i).filter F))))
   ⟨none,none,d.n,Z,N1.same (Off.of s2),dk.refl _,ba.of (Ac.trans s2),hP.same (s1.trans s2),iD,s2 _ _ rN⟩ (fun i σ H' _ ⟨_,_,_,_,_,_,_,_,q,_⟩=>ai.of q) ?_ ?_⟩
  ·rintro i yv σ H3 hi ⟨v4,v5,n3,rfl,N3,jn,kr,z8,zC,iT⟩;obtain⟨ix,pF,rfl⟩:=cY hi;have im:=dI pF;have ib:=rW.mp im;have i4:ix<4:=ip.mp ib.1;have ple:=amE ib.2;obtain⟨d3,li⟩:=id z8;refine(ag li T.fQ Z (ag li T.jJ Z ⟨A.mJ,_,_,_,Z,Z,T.iA _,bX (pq i4),_,_,Z,Z,ag li T.jK Z (ag li T.qL Z (fun z2 z9 Dz Kb ak5=>⟨z2,z9,_,_,_,_,Z,ah,fun H4 hz4 lh=>⟨Z,?_⟩⟩))⟩));have s4:aa H3 H4:=aa.make (C:=A.ic) (fs:=[]) Dz Kb lh;have Kn:c9 A H4 z2 ⟨pN,sN-2^ix,bN,fN⟩:=⟨z9,by
    rw[hz4];unfold zq;simp only;rw[show((sN-2^ix:Nat):Int)=(sN:Int)-((2^ix:Nat):Int) by lia]⟩
   have okw:fw l ⟨pN,sN-2^ix,bN,fN⟩:=⟨eU.p,qB (Nat.sub_le _ _) eU.s,eU.b,eU.f⟩
   have jP:=s4 _ _ iT;have N4:=N3.same (Off.of s4);have mU:=kr.trans (ba.of s4);refine⟨D,_,jP,trivial,fun od=>?_⟩;have sl:aa (Off [D] H4) (upd H4 D (.bE od (.lst (nats (((fe sN).take i).filter F))))):=Off.lock;have bs:∀b o,H b=some o→(∀kv,o≠.dT kv)→(upd H4 D (.bE od (.lst (nats (((fe sN).take i).filter F))))) b=some o:=fun b o e hn=>by
    rw[ao (cy e km)];exact mU b o e hn
   have mz:(upd H4 D (.bE od (.lst (nats (((fe sN).take i).filter F))))) D=some (.bE od (.lst (nats (((fe sN).take i).filter F)))):=ah;have hPl:c9 A (upd H4 D (.bE od (.lst (nats (((fe sN).take i).filter F))))) z2 ⟨pN,sN-2^ix,bN,fN⟩:=let ⟨q1,q2⟩:=Kn;⟨q1,by rw[ao (cE q2 jP (by intro w;cases w))];exact q2⟩;have hPz:c9 A (upd H4 D (.bE od (.lst (nats (((fe sN).take i).filter F))))) z ⟨pN,sN,bN,fN⟩:=let ⟨q1,q2⟩:=z8.same s4;⟨q1,by rw[ao (cE q2 jP (by intro w;cases w))];exact q2⟩;have amK:(upd H4 D (.bE od (.lst (nats (((fe sN).take i).filter F))))) pp=some (.lst (nats (fe sN))):=by rw[ao Kz];exact s4 _ _ zC
   have Nl:=N4.same sl;generalize upd H4 D (.bE od (.lst (nats (((fe sN).take i).filter F))))=HL at*;have hIl:HL d.a=some (.ins A.cf d.dx (gc d st)):=bs _ _ hI.ins (by intro kv w;cases w);have hLl:bq A HL d.r l:=hL.ei bs;have pG:n3.a=d.n.a:=jn.1;refine(ag hIl T.nR Z ⟨n3,d.r,l,z2,_,by rw[pG];rfl,Nl,hLl,hPl,okw,fun H5 n5 N5 pH jQ=>?_⟩);have jm:=jQ _ _ mz (by intro kv w;cases w);refine⟨jm,_,Z,?_⟩;have N6:=N5.WX (u':=.lst (nats (((fe sN).take i).filter F))) jm;have h6:∀b o,b≠D→H5 b=some o→(upd H5 D (.lst (nats (((fe sN).take i).filter F)))) b=some o:=fun b o nb e=>by rw[ao nb];exact e
   have nY:ba H (upd H5 D (.lst (nats (((fe sN).take i).filter F)))):=fun b o e hn=>h6 b o (cy e km) (jQ _ _ (bs _ _ e hn) hn);have pU:(upd H5 D (.lst (nats (((fe sN).take i).filter F)))) D=_:=ah;have zI:=h6 _ _ Kz (jQ _ _ amK (by intro kv w;cases w));have WY:c9 A (upd H5 D (.lst (nats (((fe sN).take i).filter F)))) z ⟨pN,sN,bN,fN⟩:=let ⟨q1,q2⟩:=hPz.ei jQ;⟨q1,h6 _ _ (cE q2 jm (by intro w;cases w)) q2⟩;generalize upd H5 D (.lst (nats (((fe sN).take i).filter F)))=H6 at*;have eF:((fe sN).take (i+1)).filter F=((fe sN).take i).filter F++if F ix=true then[ix]else[]:=by
    rw[gT pF,ID,lO];split <;>rfl
   have il:=(du.mp pF).1;refine bj (fun h=>?_) (fun h=>?_)
   ·refine⟨.inl ⟨Z,_,ai.of pU⟩,D,_,_,Z,Z,pU,?_,?_⟩
    ·rw[lj];have:=qS F ((fe sN).take i);rw[eW]at this;show _<16777216;lia
    ·refine⟨_,_,n5,Z,N6.same (Off.same (bJ.upd (bJ.of (aa.refl _)) cI)),jn.trans pH,fun b o e hn=>by rw[ao (cy e km)];exact nY b o e hn,?_,by rw[ao Kz];exact zI,?_⟩
     ·exact let ⟨q1,q2⟩:=WY;⟨q1,by rw[ao (cE q2 pU (by intro w;cases w))];exact q2⟩
     ·rw[ah,eF,if_pos h,uD];rfl
   ·refine⟨_,_,n5,Z,N6,jn.trans pH,nY,WY,zI,?_⟩;have h:F ix=false:=h;rw[eF,if_neg (by rw[h];exact cb),gi];exact pU
  ·rintro σ H3 ⟨v4,v5,n3,rfl,N3,jn,kr,z8,zC,iT⟩;rw[lj,fD]at iT;exact⟨_,_,n3,Z,N3,jn,kr,iT⟩
 ·rintro σ H3 ⟨v4,v5,n3,rfl,N3,jn,kr,iT⟩;refine⟨_,_,Z,.inl (ai.of iT),be,fun q nq=>(Kw iT nq hlen fun w H4 s4 nw hw=>?_)⟩;exact k.fq hl hI (N3.same (Off.sub _ _)) jn kr s4 nw hw
theorem amN F n:((bP (n+1)).filter F).getLast?=if F n=true then some n else((bP n).filter F).getLast?:=by
 rw[lY];split
 ·rw[List.getLast?_append];rfl
 ·rw[gi]
theorem amO{st:cM}{l:aJ}(hl:st.land=some (l,a8 l)){p s f:Nat}(ok:fw l ⟨p,s,0,f⟩)(fm:f≤l.most):cv st (.stand p s f)=(match ((bP 9).filter fun b=>ku (a8 l) ⟨p,s,b,f⟩).getLast? with|none=>(st,[-4])|some b=>(st,[(b:Int)])):=by
 unfold cv;simp only;have:=rM hl ok fm (fun _ t x=>match ((bP (Vbexab.STORMS+1)).filter fun b=>ku t {x with b:=b}).getLast? with
  |none=>(st,[-4])
  |some b=>(st,[(b:Int)]))
 refine Eq.trans this ?_;show(match ((bP 9).filter fun b=>ku (a8 l) ⟨p,s,b,f⟩).getLast? with|none=>_|some b=>_)=_;cases ((bP 9).filter fun b=>ku (a8 l) ⟨p,s,b,f⟩).getLast? <;>rfl
inductive I59_(H:Hp)(d:DA)(l:Vbexab.Land)(pN sN fN:Nat)(σ:L2.St)(H':Hp):Prop|mk n':bR A H' n' d.r l→dk d.n n'→ba H H'→((bP 9).filter fun b=>ku (a8 l) ⟨pN,sN,b,fN⟩).getLast?=none→I59_ H d l pN sN fN σ H'
inductive I60_(H:Hp)(d:DA)(c:ae)(l:Vbexab.Land)(dt:ae)(pN sN fN i:Nat)(σ:L2.St)(H':Hp):Prop|mk v3 n':σ=[some (.ref d.a),some (.ref c),some (.ref dt),v3]→bR A H' n' d.r l→dk d.n n'→ba H H'→((bP 9).filter fun b=>ku (a8 l) ⟨pN,sN,b,fN⟩).getLast?=((bP (9-i)).filter fun b=>ku (a8 l) ⟨pN,sN,b,fN⟩).getLast?→I60_ H d c l dt pN sN fN i σ H'
set_option tactic.hygienic true in
theorem amP(T:Txt K mg A):T.B6.Ok P w mg base 10 (g6 A 5):=by
 refine T.B6.go GX fun _ _ _ _ H _ Q E hr h=>?_;obtain⟨d,st,c,vc,rfl,hn,hD,hC,hR,fJ,hlen,k⟩:=h;have hu:=d6 hr;cases vc <;>cases hn;obtain⟨l,hl,eX⟩:=hR.land (by show(5:Nat)≠0;decide);have hI:=(hD.fz _ hl).2;have hL:=hI.fI;obtain⟨dc,dt,fi,bh,hc,bF,dD⟩:=id hC;rename_i p0 s0 f0;obtain⟨r1,r2⟩:=cC hR.g8;obtain⟨r2,r3⟩:=cC r2;obtain⟨pN,sN,b1,fN,rfl,rfl,eb,rfl,eU,fm⟩:=rL (p:=p0) (s:=s0) (b:=0) (f:=f0) (eX _ Z) (by rw[r1,r2,r3];rfl);have eb:b1=0:=by lia
 subst eb;rw[amO hl eU fm]at hlen k;refine⟨_,(af (aE 2 GX (aj 1)) (af (cJ<|eV d8 rfl (M5 rfl T.mK (cS (a6 T.G7) (jZ j0 aH) (jZ j0 aH))) (bY 3 GX) (ak (aV (gg (aI (C6 T) hr T.wt (aX (aj 0) (gk (wG T) hr T.wx T.qH (c8 (eD hu (pv 2) bG) (eD hu (pv 2) bG) (pv 3) (eD hu (pv 2) bG)))))) (ak (ax (bi (aF (pv 3))))) aW))) (ak (ax (bi (aF (jZ j0 aH))))))),?_⟩
 try dsimp only[aO,Cx.aQ]
 refine(ag hc T.gS Z ?_);refine⟨I59_ H d l pN sN fN,?_,?_⟩
 ·refine⟨_,Z,_,Z,8,-1,-1,9,Z,yf.neg (by decide) (by decide) (by decide) (by decide),?_⟩;refine M6 (lo:=8) (c:= -1) (n:=9) (I60_ H d c l dt pN sN fN)
   ⟨none,d.n,Z,hI.fq,dk.refl _,ba.of (aa.refl _),Z⟩ ?_ ?_
  ·rintro i σ H1 hi ⟨v3,n1,rfl,N1,eK,dm,bO⟩;rw[show(8:Int)+(i:Nat)* -1=((8-i:Nat):Int) by lia];have iX:H1 d.a=some (.ins A.cf d.dx (gc d st)):=dm _ _ hI.ins (by intro kv w;cases w);have rO:=dm _ _ bF (by intro kv w;cases w);refine(ag iX T.nR Z ⟨dt,_,Z,fA rO Z,dt,_,Z,fA rO Z,dt,_,Z,fA rO Z,fun z dz nz dP iC=>⟨z,dz,_,_,_,_,Z,ah,fun H2 hz rf=>⟨Z,?_⟩⟩⟩);have s2:aa H1 H2:=aa.make (C:=A.ic) (fs:=[]) nz dP rf;have pG:n1.a=d.n.a:=eK.1;refine⟨n1,d.r,l,z,⟨pN,sN,8-i,fN⟩,by rw[pG];rfl,N1.same s2,(hL.ei dm).same s2,⟨dz,hz⟩,⟨eU.p,eU.s,by show 8-i≤8;lia,eU.f⟩,fun H3 n3 N3 jn kr=>⟨_,Z,?_⟩⟩;have sn:ba H H3:=dm.trans ((ba.of s2).trans kr);rw[show 9-i=(8-i)+1 by lia,amN _ (8-i)]at bO;refine bj (fun h=>?_) (fun h=>?_)
   ·rw[if_pos h]at bO;rw[bO]at k;refine⟨be,fun p np=>k.fq hl hI N3 (eK.trans jn) sn (aa.upd np) np (by rw[ah];rfl)⟩
   ·rw[if_neg (by rw[h];exact cb)]at bO;exact⟨_,n3,Z,N3,eK.trans jn,sn,by rw[bO,show 8-i=9-(i+1) by lia]⟩
  ·rintro σ H1 ⟨v3,n1,rfl,N1,eK,dm,bO⟩;exact⟨n1,N1,eK,dm,bO⟩
 ·rintro σ H1 ⟨n1,N1,eK,dm,bO⟩;rw[bO]at k;exact⟨_,Z,be,fun p np=>k.fq hl hI N1 eK dm (aa.upd np) np (by rw[ah];rfl)⟩
theorem WZ(e:d9 l x.p q=some g):DR l (a8 l) x.p x.s x.b x.f t q=fG l x t g:=by
 have gb:=(rF e).2.2;unfold DR fG;rw[e,gb];show amQ _ _=amQ _ _;congr 1
theorem amR{st:cM}{l:aJ}(hl:st.land=some (l,a8 l)){p s b f t q:Nat}(ok:fw l ⟨p,s,b,f⟩)(fm:f≤l.most):cv st (.resist p s b f t q)=(if p=0∨fY l p s t=false∨(d9 l p q).isNone=true then(st,[-4])else match DR l (a8 l) p s b f t q with|none=>(st,[-5])|some k=>(st,[(k:Int)])):=by
 unfold cv;simp only;rw[rM hl ok fm];show(if p=0∨fY l p s t=false∨(d9 l p q).isNone=true then _ else _)=_;split
 ·rfl
 ·show(match DR l (a8 l) p s b f t q with|none=>_|some k=>_)=_;cases DR l (a8 l) p s b f t q <;>rfl
set_option tactic.hygienic true in
theorem amS(T:Txt K mg A):T.B7.Ok P w mg base 11 (g6 A 6):=by
 refine T.B7.go yM fun _ _ _ _ H _ Q E hr h=>?_;obtain⟨d,st,c,vc,rfl,hn,hD,hC,hR,fJ,hlen,k⟩:=h;have hu:=d6 hr;cases vc <;>cases hn;obtain⟨l,hl,eX⟩:=hR.land (by show(6:Nat)≠0;decide);have hI:=(hD.fz _ hl).2;have hL:=hI.fI;obtain⟨dc,dt,fi,bh,hc,bF,dD⟩:=id hC;rename_i p0 s0 b0 f0 t0 q0;obtain⟨r1,r2⟩:=cC hR.g8;obtain⟨r2,r3⟩:=cC r2;obtain⟨r3,r4⟩:=cC r3;obtain⟨r4,r5⟩:=cC r4;obtain⟨r5,r6⟩:=cC r5;obtain⟨pN,sN,bN,fN,rfl,rfl,rfl,rfl,eU,fm⟩:=rL (p:=p0) (s:=s0) (b:=b0) (f:=f0) (eX _ Z) (by rw[r1,r2,r3,r4];rfl);obtain⟨tN,rfl,ht⟩:=iW (m:=15) r5;obtain⟨qN,rfl,hq⟩:=iW (m:=6) r6;rw[amR hl eU fm]at hlen k;have gW:tN<16:=by lia
 refine⟨_,(af (aE 2 yM (aI (uJ T) hr T.oX (aF (pv 1)))) (af (aE 3 yM (eD hu (aj 1) bG)) (af (cJ<|aE 4 yM (aI (qU T) hr T.nP (cS (aj 0) (aj 2) (eD hu (aj 1) bG)))) (af (aV (fk (PW.pt (eO (aL cO (aj 2) (a6 T.tQ)) (eO (jX (gg (aI (CT T) hr T.wq (c8 (aj 0) (aj 2) (aj 2) (pv 3))))) (gz (aL de (pv 4) bp)))))) (ak (ax (bi (aF (jZ j0 aH))))) aW) (af (aE 5 yM (aI (JE T) hr T.yY (gh (aj 0) (c8 (aj 0) (pv 2) (pv 3) (pv 4))))) (af (aV (aL de (pv 5) bp) (ak (ax (bi (aF (jZ j0 aH))))) aW) (ak (ax (bi (aF (pv 5))))))))))),?_⟩
 try dsimp only[aO,Cx.aQ]
 refine⟨c,_,pN,sN,bN,fN,Z,hC,Z,Z,Z,Z,fun H1 z s1 nz hP=>?_⟩;have iX:=hI.same s1;have pV:=s1 _ _ hc;have rO:=s1 _ _ bF;have cu:=hL.same s1;obtain⟨dp,hp⟩:=id hP;refine(ag pV T.gS Z ⟨dt,_,Z,fA rO Z,?_⟩);refine⟨fun(σ:L2.St) H'=>∃(v:V) (o:Option cK),σ=[some (.ref d.a),some (.ref c),some (.ref z),some (.int (tN:Nat)),some v,none]∧H'=H1∧d9 l pN qN=o∧(match o with|none=>v=.aC|some g=>∃bb,v=.ref bb∧dO A H1 bb g),?_,?_⟩
 ·exact(ag iX.ins T.iB Z (ag hp T.fQ Z (ag pV T.gS Z ⟨dt,_,Z,fA rO Z,d.r,l,pN,qN,Z,cu,fun e2=>⟨.aC,none,Z,Z,e2,Z⟩,fun g i' bb e2 fF mE hG=>⟨.ref bb,some g,Z,Z,e2,bb,Z,hG⟩⟩)))
 rintro σ H1 ⟨v,o,rfl,rfl,eo,hv⟩;rw[eo]at k;have ev:decide (v=V.aC)=o.isNone:=by
  cases o with
  |none=>rw[show v=.aC from hv];rfl
  |some x=>obtain⟨w,e,_⟩:=hv;rw[e];rfl
 refine⟨decide (pN=0∨fY l pN sN tN=false∨o.isNone=true),fun Q' q=>?_,fun H2 s2=>?_⟩
 ·refine(ag hp T.fQ Z ⟨Z,_,Z,bK (fun h=>?_) (fun h=>?_)⟩)
  ·rw[decide_eq_true (j7 (show pN=0 from KA (V.int.inj h)))]at q;exact q H1 (aa.refl _)
  have p0:pN≠0:=fun e=>h (by rw[e];rfl);refine(ag iX.ins T.iB Z (ag hp T.fQ Z (ag hp T.jJ Z ⟨d.r,l,pN,sN,tN,Z,cu,gW,fun H2 s2=>⟨_,Z,?_⟩⟩)));refine bj (fun h=>?_) (fun h=>?_)
  ·rw[h8]at h;rw[decide_eq_true (iO (j7 h))]at q;exact q H2 s2
  rw[gU]at h;refine⟨Z,_,Z,?_⟩;rw[ev];have e:o.isNone=decide (pN=0∨fY l pN sN tN=false∨o.isNone=true):=by
   rw[iJ,decide_eq_true_eq];refine⟨fun z=>.inr (.inr z),?_⟩;rintro(z|z|z)
   ·exact absurd z p0
   ·rw[h]at z;cases z
   ·exact z
  rw[e];exact q H2 s2
 ·have eI:=s1.trans s2;refine bK (fun h=>?_) (fun h=>?_)
  ·rw[if_pos h]at k;exact⟨_,Z,be,fun p np=>k.same hD (eI.trans (aa.upd np)) (aa.free eI np) (by rw[ah];rfl)⟩
  ·rw[if_neg h]at k;cases o with
   |none=>exact absurd (iO (iO Z)) h
   |some g=>
    obtain⟨bb,rfl,hG⟩:=hv;have gm:=(rF eo).1;have tt:fY l pN sN tN=true:=by
     cases e:fY l pN sN tN with
     |true=>rfl
     |false=>exact absurd (iO (j7 e)) h
    have tl:=xa gW tt;rw[WZ (x:=⟨pN,sN,bN,fN⟩) eo]at k;have ju:=hI.same eI;refine(ag ju.ins T.iB Z (ag ju.ins T.nR Z ⟨d.n,d.r,l,z,⟨pN,sN,bN,fN⟩,tN,bb,g,Z,ju.fq,ju.fI,hP.same s2,eU,tl.2,tl.1,hG.same s2,gm,fun H3 n3 N3 jn kr=>?_⟩));have sn:ba H H3:=(ba.of eI).trans kr;cases e:fG l ⟨pN,sN,bN,fN⟩ tN g with
    |none=>
     rw[e]at k;exact⟨Z,_,Z,cP ⟨_,Z,be,fun p np=>k.fq hl hI N3 jn sn (aa.upd np) np (by rw[ah];rfl)⟩⟩
    |some i=>
     rw[e]at k;exact⟨Z,_,Z,cV ⟨be,fun p np=>k.fq hl hI N3 jn sn (aa.upd np) np (by rw[ah];rfl)⟩⟩
def fB(H H':Hp):Prop:=∀b o,H b=some o→(∀C dx fs,o=.ins C dx fs→fs.length≠5∧fs.length≠6)→H' b=some o
theorem fB.trans(a:fB H H1)(b:fB H1 H2):fB H H2:=fun c o e n=>b c o (a c o e n) n
theorem fB.upd(e:H x=some (.ins C dx fs))(h:fs.length=5∨fs.length=6):fB H (L2.upd H x o):=fun b u q n=>by
 rw[ao]
 ·exact q
 ·rintro rfl;rw[e]at q;have:=n _ _ _ (bS q).symm;rcases h with h|h
  ·exact this.1 h
  ·exact this.2 h
theorem fB.off(s:fB H H'):fB (Off O H) (Off O H'):=fun b o e n=>by
 unfold Off at e ⊢;split at e
 ·cases e
 ·rename_i hb;rw[if_neg hb];exact s b o e n
theorem pW:∀C dx fs,HO.lst xs=.ins C dx fs→fs.length≠5∧fs.length≠6:=fun _ _ _ z=>nomatch z
theorem amT:∀C dx fs,HO.tup xs=.ins C dx fs→fs.length≠5∧fs.length≠6:=fun _ _ _ z=>nomatch z
theorem W0:∀C dx fs,HO.dT xs=.ins C dx fs→fs.length≠5∧fs.length≠6:=fun _ _ _ z=>nomatch z
theorem rP(h5:f0.length≠5)(h6:f0.length≠6):∀C dx fs,HO.ins C0 d0 f0=.ins C dx fs→fs.length≠5∧fs.length≠6:=fun _ _ _ z=>by cases z;exact⟨h5,h6⟩
theorem dO.dE(s:fB H H')(h:dO A H a x):dO A H' a x:=let ⟨d,e⟩:=h;⟨d,s _ _ e (rP (by show(4:Nat)≠5;decide) (by show(4:Nat)≠6;decide))⟩
theorem c9.dE(s:fB H H')(h:c9 A H a x):c9 A H' a x:=let ⟨d,e⟩:=h;⟨d,s _ _ e (rP (by show(4:Nat)≠5;decide) (by show(4:Nat)≠6;decide))⟩
theorem mO.dE(s:fB H H')(h:mO A H a x):mO A H' a x:=let ⟨d,e⟩:=h;⟨d,s _ _ e (rP (by show(3:Nat)≠5;decide) (by show(3:Nat)≠6;decide))⟩
theorem W1 x:(Uu x).length=3:=by cases x <;>rfl
theorem eL.dE(s:fB H H')(h:eL A H a x):eL A H' a x:=let ⟨d,e⟩:=h;⟨d,s _ _ e (rP (by rw[W1];decide) (by rw[W1];decide))⟩
theorem gq.dE(s:fB H H')(h:gq A H a x):gq A H' a x:=
 let ⟨u,e,q⟩:=h;⟨u,e,⟨s _ _ q.ins (rP (by show(4:Nat)≠5;decide) (by show(4:Nat)≠6;decide)),s _ _ q.cl pW,cG (R:=eL A) (fun _ _ z=>z.dE s) q.cs,s _ _ q.kl pW⟩⟩
theorem eM.dE(s:fB H H')(h:eM A H u r l pl):eM A H' u r l pl:=
 ⟨s _ _ h.ins (rP (by show(2:Nat)≠5;decide) (by show(2:Nat)≠6;decide)),s _ _ h.rl pW,cG (R:=fun H=>gq A (Off [u.lr] H)) (fun _ _ z=>z.dE s.off) h.rs,h.k_,h.ok⟩
theorem bq.dE(s:fB H H')(h:bq A H r l):bq A H' r l:=
 ⟨s _ _ h.ins (rP (by show(7:Nat)≠5;decide) (by show(7:Nat)≠6;decide)),s _ _ h.pl pW,s _ _ h.lg pW,cG (R:=dO A) (fun _ _ z=>z.dE s) h.gs,s _ _ h.ch pW,cG (R:=mO A) (fun _ _ z=>z.dE s) h.cs,h.ok⟩
theorem bR.dE(s:fB H H')(h:bR A H n r l):bR A H' n r l:=
 ⟨s _ _ h.ins (rP (by show(3:Nat)≠5;decide) (by show(3:Nat)≠6;decide)),s _ _ h.lv W0,s _ _ h.cs W0,h.ne,
  fun k v e=>let ⟨s0,b,a,q1,q2,q3,q4,q5⟩:=h.pB k v e;⟨s0,b,a,q1,q2,q3,q4,s _ _ q5 pW⟩,
  fun k v e=>let ⟨s0,b,a,q1,q2,q3,q4,q5⟩:=h.pC k v e;⟨s0,b,a,q1,q2,q3,q4,s _ _ q5 pW⟩,h.both,h.qZ,h.q_⟩
inductive W2(A:aR)(vs:List V)(H:Hp)(Q:VK)(E:XK):Prop
 |mk:∀(d:DA) (st:cM) (l:aJ) (j:ly) (t:Nat) (b:ae) (g:cK),vs=[.ref d.a,.int t,.ref b]→g0 A H d l st→st.journey=some j→t<2^l.caches.length→t≤j.at_.s→dO A H b g→g∈l.legs→(∀H' n',bR A H' n' d.r l→dk d.n n'→ba H H'→Q (ov (fG l j.at_ t g)) H')→W2 A vs H Q E
theorem W3(T:Txt K mg A):T.Ce.Ok P w mg base 10 (W2 A):=by
 refine T.Ce.go aeR fun _ _ _ _ H _ Q E hr h=>?_;obtain⟨d,st,l,j,t,b,g,rfl,hI,ej,wX,wQ,hG,gm,k⟩:=h;refine⟨_,(ak (ax (aI (JE T) hr T.yY (gh (aj 0) (c8 (aj 0) (iw (aj 0) Z) (pv 1) (pv 2)))))),?_⟩
 try dsimp only[aO,Cx.aQ]
 have hJ:=hI.jr j ej;have ev:jv d st=.ref d.w.a:=by unfold jv;rw[ej]
 refine(ag hI.ins T.iB Z (ag hI.ins T.nR Z (ag hI.ins T.o8 Z ⟨d.w.a,A.Journey,d.w.dx,_,_,ev,hJ.ins,T.je.1,T.je.2,Z,d.n,d.r,l,d.w.pa,j.at_,t,b,g,Z,hI.fq,hI.fI,hJ.io,hJ.ok,wX,wQ,hG,gm,k⟩)))
theorem fB.ofO(so:bJ [x] H H')(e:H x=some (.ins C dx fs))(h:fs.length=5∨fs.length=6):fB H H':=fun b u q n=>so b u q (fun m=>by
 have m:=cA.mp m;subst m;rw[e]at q;have:=n _ _ _ (bS q).symm;rcases h with h|h
 ·exact this.1 h
 ·exact this.2 h)
theorem amV{st:cM}(hl:st.land=some (l,a8 l)){p s b f x:Nat}(ok:fw l ⟨p,s,b,f⟩)(fm:f≤l.most):cv st (.begin_ p s b f x)=(if x=1∧ku (a8 l) ⟨p,s,b,f⟩=false then(st,[-4])else({st with journey:=some {at_:=⟨p,s,b,f⟩,strict:=decide (x=1)}},[0])):=by
 unfold cv;simp only;rw[rM hl ok fm];have e:((x:Int)=1)↔x=1:=by lia
 have e2:((x:Int)==1)=decide (x=1):=by
  rw[iJ,beq_iff_eq,decide_eq_true_eq];exact e
 simp only[e,e2]
set_option tactic.hygienic true in
theorem amW(T:Txt K mg A):T.Cd.Ok P w mg base 10 (g6 A 13):=by
 refine T.Cd.go G0 fun _ _ _ _ H _ Q E hr h=>?_;obtain⟨d,st,c,vc,rfl,hn,hD,hC,hR,fJ,hlen,k⟩:=h;have hu:=d6 hr;cases vc <;>cases hn;obtain⟨l,hl,eX⟩:=hR.land (by show(13:Nat)≠0;decide);have hI:=(hD.fz _ hl).2;have hL:=hI.fI;obtain⟨dc,dt,fi,bh,hc,bF,dD⟩:=id hC;rename_i p0 s0 b0 f0 x0;obtain⟨r1,r2⟩:=cC hR.g8;obtain⟨r2,r3⟩:=cC r2;obtain⟨r3,r4⟩:=cC r3;obtain⟨r4,r5⟩:=cC r4;obtain⟨pN,sN,bN,fN,rfl,rfl,rfl,rfl,eU,fm⟩:=rL (p:=p0) (s:=s0) (b:=b0) (f:=f0) (eX _ Z) (by rw[r1,r2,r3,r4];rfl);obtain⟨xN,rfl,hx1⟩:=iW (m:=1) r5;rw[amV hl eU fm]at hlen k;refine⟨_,(af (aE 2 G0 (aI (uJ T) hr T.oX (aF (pv 1)))) (af (aE 3 G0 (eD hu (aj 1) bG)) (af (cJ<|aV (PW.pt (jW (aL cO (pv 3) aH) (jV (jX (gg (aI (C6 T) hr T.wt (aX (aj 0) (pv 2)))))))) (ak (ax (bi (aF (jZ j0 aH))))) aW) (af (bC (pv 0) (gk (al1 T) hr T.ahU T.HP (aX (pv 2) (pv 3))) Z) (ak (ax (bi (aF aH)))))))),?_⟩
 try dsimp only[aO,Cx.aQ]
 refine⟨c,_,pN,sN,bN,fN,Z,hC,Z,Z,Z,Z,fun H0 z s0 nz hP=>?_⟩;have DS:=hI.same s0;refine(ag (s0 _ _ hc) T.gS Z ⟨dt,_,Z,fA (s0 _ _ bF) Z,?_⟩);refine⟨fun(σ:L2.St) H'=>∃n',σ=[some (.ref d.a),some (.ref c),some (.ref z),some (.int (xN:Nat))]∧bR A H' n' d.r l∧dk d.n n'∧ba H H'∧c9 A H' z ⟨pN,sN,bN,fN⟩∧¬(xN=1∧ku (a8 l) ⟨pN,sN,bN,fN⟩=false),?_,?_⟩
 ·refine⟨Z,_,Z,bK (fun h=>?_) (fun h=>?_)⟩
  ·have x1:xN=1:=KA (V.int.inj h);refine(ag DS.ins T.nR Z ⟨d.n,d.r,l,z,_,Z,DS.fq,DS.fI,hP,eU,fun H1 n1 N1 eK dm=>⟨_,Z,?_⟩⟩);have sn:=(ba.of s0).trans dm;refine bj (fun h=>?_) (fun h=>?_)
   ·rw[h8]at h;rw[if_pos ⟨x1,h⟩]at k;exact⟨_,Z,be,fun p np=>k.fq hl hI N1 eK sn (aa.upd np) np (by rw[ah];rfl)⟩
   ·rw[gU]at h;exact⟨n1,Z,N1,eK,sn,hP.ei dm,fun q=>by rw[h]at q;cases q.2⟩
  ·exact cV ⟨d.n,Z,DS.fq,dk.refl _,ba.of s0,hP,fun q=>h (by rw[q.1];rfl)⟩
 rintro σ H1 ⟨n1,rfl,N1,eK,dm,wU,dh⟩;rw[if_neg dh]at k;have iX:H1 d.a=some (.ins A.cf d.dx (gc d st)):=dm _ _ hI.ins (by intro kv w;cases w);have cu:=hL.ei dm;have eG:=hI.xi.ei dm;refine(fun x dx nx pX xj=>⟨x,dx,_,_,Z,ah,fun H2 jl DT A3 xk keep=>⟨Z,?_⟩⟩);have s2:aa H1 H2:=fun b o e=>keep b o (cy e nx) (by rw[ao (cy e nx),ao (cy e pX)];exact e);have njx:jl≠x:=fun e=>by subst e;rw[ah]at xk;cases xk
 have njd:jl≠dx:=fun e=>by subst e;rw[ao xj,ah]at xk;cases xk
 have W4:H1 jl=none:=by rw[ao njx,ao njd]at xk;exact xk
 have ju:=s2 _ _ iX;refine(bD ju T.o8 ?_);refine⟨be,fun p np=>?_⟩
 let w1:JA:=⟨x,dx,z,jl,.aC,[],0⟩
 let d1:DA:=⟨d.a,d.dx,d.r,n1,d.u,w1⟩
 let eJ:cM:={st with journey:=some {at_:=⟨pN,sN,bN,fN⟩,strict:=decide (xN=1)}}
 have eF:dZ (aZ "journey") (V.ref x) (gc d st)=gc d1 eJ:=by
  show([("land",V.ref d.r.a),("needs",V.ref d.n.a),("plan",V.ref d.u.a),("plan_told",V.bl st.planned),("journey",V.ref x)]:List (Str×V))=([("land",V.ref d.r.a),("needs",V.ref n1.a),("plan",V.ref d.u.a),("plan_told",V.bl st.planned),("journey",V.ref x)]:List (Str×V));rw[eK.1]
 rw[eF]at np ⊢;have sf:fB H2 (upd H2 d.a (.ins A.cf d.dx (gc d1 eJ))):=fB.upd ju (.inl Z);have W5:(upd H2 d.a (.ins A.cf d.dx (gc d1 eJ))) d.a=some (.ins A.cf d.dx (gc d1 eJ)):=ah;have nxd:x≠d.a:=tZ DT ju (by show(6:Nat)≠5;decide);have am0:jl≠d.a:=cE A3 ju (by intro w;cases w);have hx3:(upd H2 d.a (.ins A.cf d.dx (gc d1 eJ))) x=_:=(ao nxd).trans DT;have hj3:(upd H2 d.a (.ins A.cf d.dx (gc d1 eJ))) jl=some (.lst []):=(ao am0).trans A3;have k3:∀b o,H1 b=some o→b≠d.a→(upd H2 d.a (.ins A.cf d.dx (gc d1 eJ))) b=some o:=fun b o e nb=>by rw[ao nb];exact s2 _ _ e
 generalize upd H2 d.a (.ins A.cf d.dx (gc d1 eJ))=H3 at*;have s4:aa H3 (upd H3 p (.lst [V.int 0])):=aa.upd np;have pd:H1 p=none:=by
  cases e:H1 p with
  |none=>rfl
  |some o=>
   by_cases q:p=d.a
   ·rw[q,W5]at np;cases np
   ·rw[k3 p o e q]at np;cases np
 have W6:aa H1 (Off [jl] H2):=Off.new s2 (fun b m=>by rw[cA.mp m];exact W4);have J3:gZ A H3 l w1 {at_:=⟨pN,sN,bN,fN⟩,strict:=decide (xN=1)}:=by
  refine⟨?_,(wU.same s2).dE sf,Z,fun q=>absurd Z q,fun q=>absurd Z q,hj3,.nil,eU,fm⟩;rw[hx3];show some (HO.ins A.Journey dx [("party",V.ref z),("strict",V.int (xN:Nat)),("leg",V.aC),("taking",V.int 0),("lost",V.bl false),("log",V.ref jl)])=some (HO.ins A.Journey dx [("party",V.ref z),("strict",V.int (if decide (xN=1)=true then 1 else 0)),("leg",V.aC),("taking",V.int ((0:Nat):Int)),("lost",V.bl false),("log",V.ref jl)]);have e:((xN:Nat):Int)=(if decide (xN=1)=true then 1 else 0):=by
   by_cases q:xN=1
   ·rw[decide_eq_true q,if_pos Z,q];rfl
   ·rw[decide_eq_false q,if_neg cb];lia
  rw[e];rfl
 have pY:g0 A H3 d1 l eJ:=⟨W5,(cu.same W6).dE sf.off,(N1.same s2).dE sf,(eG.same W6).dE sf.off,hI.x,hI.pos,fun j e=>by cases e;exact J3⟩
 refine k _ d1 p ((gd.of (st:=eJ) hl pY).same s4) Z ?_ ?_ (gM.rH dm pd) (by rw[ah];rfl)
 ·intro b m;have m:b∈[d.a,x,jl]:=m;rcases b_.mp m with rfl|m
  ·exact .inl cI
  ·rcases b_.mp m with rfl|m
   ·exact .inr (gM.rH dm nx)
   ·rw[cA.mp m];exact .inr (gM.rH dm W4)
 ·intro b o e nb hn;exact s4 _ _ (k3 b o (dm b o e hn) (fun q=>nb (by rw[q];exact cI)))
theorem W7{st:cM}(hl:st.land=some (l,a8 l))(h:refusal l st.journey t q<0):cv st (.move t q)=(st,[refusal l st.journey t q])∧cv st (.bear t q)=(st,[refusal l st.journey t q]):=by
 unfold cv;simp only;unfold uL kG;rw[hl];simp only;cases ej:st.journey with
 |none=>exact⟨Z,Z⟩
 |some j=>
  rw[ej]at h;unfold refusal at h ⊢;simp only[ml]at h ⊢;by_cases c1:j.on.isSome=true∨j.lost=true∨j.at_.p=0
  ·simp only[if_pos c1];exact⟨by trivial,by trivial⟩
  ·simp only[if_neg c1]at h ⊢;by_cases c2:fY l j.at_.p j.at_.s t=false
   ·simp only[if_pos c2];exact⟨by trivial,by trivial⟩
   ·simp only[if_neg c2]at h ⊢;cases e:d9 l j.at_.p q with
    |none=>exact⟨Z,Z⟩
    |some g=>rw[e]at h;exact absurd h (show ¬((0:Int)<0) by decide)
theorem W8(h:¬refusal l oj t q<0):∃j g,oj=some j∧¬(j.on.isSome=true∨j.lost=true∨j.at_.p=0)∧fY l j.at_.p j.at_.s t=true∧d9 l j.at_.p q=some g:=by
 unfold refusal at h;cases oj with
 |none=>exact absurd (show(-3:Int)<0 by decide) h
 |some j=>
  simp only at h;by_cases c1:j.on.isSome=true∨j.lost=true∨j.at_.p=0
  ·rw[if_pos c1]at h;exact absurd (by decide) h
  ·rw[if_neg c1]at h;cases c2:fY l j.at_.p j.at_.s t with
   |false=>rw[if_pos c2]at h;exact absurd (by decide) h
   |true=>
    rw[c2,if_neg (by decide)]at h;cases e:d9 l j.at_.p q with
    |none=>rw[e]at h;exact absurd (by decide) h
    |some g=>exact⟨j,g,Z,c1,c2,e⟩
theorem am3{st:cM}(hl:st.land=some (l,a8 l))(ej:st.journey=some j)(c1:¬(j.on.isSome=true∨j.lost=true∨j.at_.p=0))(c2:fY l j.at_.p j.at_.s t=true)(e:d9 l j.at_.p q=some g):
  cv st (.move t q)=(if j.strict=true∧fG l j.at_ t g≠none then(st,[-7])else({st with journey:=some (DL l j t g)},[0,(dS l j.at_.f t:Int),(a_ g j.at_.b:Int)])):=by
 unfold cv;simp only;unfold uL kG;rw[hl];simp only[ej,ml];rw[if_neg c1,if_neg (by rw[c2];decide),e];simp only[WW];have eq:(j.strict=true∧(fG l j.at_ t g).isNone=false)↔(j.strict=true∧fG l j.at_ t g≠none):=by
  cases fG l j.at_ t g <;>simp
 simp only[eq];rfl
theorem am4{st:cM}{l:aJ}(hl:st.land=some (l,a8 l)){j:ly}{g:cK}{t q:Nat}(ej:st.journey=some j)(c1:¬(j.on.isSome=true∨j.lost=true∨j.at_.p=0))(c2:fY l j.at_.p j.at_.s t=true)(e:d9 l j.at_.p q=some g):
  cv st (.bear t q)=(match fG l j.at_ t g with|none=>(st,[1])|some k=>(st,[0,(k:Int)])):=by
 unfold cv;simp only;unfold uL kG;rw[hl];simp only[ej,ml];rw[if_neg c1,if_neg (by rw[c2];decide),e];simp only;rw[WZ e];cases fG l j.at_ t g <;>rfl
theorem W9{st:cM}(hI:g0 A H d l st):JV A H l (jv d st) d.w st.journey:=by
 cases e:st.journey with
 |none=>show jv d st=.aC;unfold jv;rw[e]
 |some j=>exact⟨by unfold jv;rw[e],hI.jr j e⟩
theorem am5(T:Txt K mg A):T.Cf.Ok P w mg base 11 (g6 A 14):=by
 refine T.Cf.go yN fun _ _ _ _ H _ Q E hr h=>?_;obtain⟨d,st,c,vc,rfl,hn,hD,hC,hR,fJ,hlen,k⟩:=h;have hu:=d6 hr;cases vc <;>cases hn;obtain⟨l,hl,eX⟩:=hR.land (by show(14:Nat)≠0;decide);have hI:=(hD.fz _ hl).2;have hL:=hI.fI;obtain⟨dc,dt,fi,bh,hc,bF,dD⟩:=id hC;rename_i t0 q0;obtain⟨r1,r2⟩:=cC hR.g8;obtain⟨tN,rfl,ht⟩:=iW (m:=15) r1;obtain⟨qN,rfl,hq⟩:=iW (m:=6) r2;have gW:tN<16:=by lia
 refine⟨_,(af (aE 2 yN (eD hu (aj 1) bG)) (af (aE 3 yN (aj 0)) (af (aE 4 yN (aI (WC T) hr T.B0 (c8 (aj 0) (pv 3) (pv 2) (eD hu (aj 1) bG)))) (af (aV (aL jz (pv 4) aH) (ak (ax (bi (aF (pv 4))))) aW) (af (aE 5 yN (aI (qU T) hr T.nP (cS (aj 0) (iw (aj 3) Z) (eD hu (aj 1) bG)))) (af (cJ<|aV (PW.pt (jW (aL cO (aj 3) aH) (jV (aL xJ (aI (W3 T) hr T.Ce (cS (pv 0) (pv 2) (pv 5))) bp)))) (ak (ax (bi (aF (jZ j0 aH))))) aW) (af (dH (aI (al2 T) hr T.HQ (c8 (aj 0) (pv 3) (pv 2) (pv 5)))) (ak (ax (bi (cS aH (iw (aj 3) Z) (aI (ue T) hr T.oW (aX (pv 5) (iw (aj 3) Z)))))))))))))),?_⟩
 try dsimp only[aO,Cx.aQ]
 refine(ag hc T.gS Z ⟨dt,_,Z,fA bF Z,ag hI.ins T.o8 Z ?_⟩);refine(ag hI.ins T.iB Z (ag hc T.gS Z ⟨dt,_,Z,fA bF Z,d.r,l,jv d st,d.w,st.journey,tN,qN,Z,hL,W9 hI,gW,fun H1 s1=>?_⟩));refine⟨_,_,Z,Z,_,Z,bK (fun h=>?_) (fun h=>?_)⟩
 ·rw[(W7 hl h).1]at k;exact⟨be,fun p np=>k.same hD (s1.trans (aa.upd np)) (aa.free s1 np) (by rw[ah];rfl)⟩
 obtain⟨j,g,ej,c1,c2,eg⟩:=W8 h;rw[am3 hl ej c1 c2 eg]at hlen k;have tl:=xa gW c2;have gm:=(rF eg).1;have dj:=hL.ok.dJ g gm;have iX:=hI.same s1;have kD:=iX.jr j ej;have ev:jv d st=.ref d.w.a:=by unfold jv;rw[ej]
 have Ag:j.lost=false:=by
  cases e:j.lost with
  |false=>rfl
  |true=>exact absurd (iO (j7 e)) c1
 rw[ev];obtain⟨dp,eG⟩:=id kD.io;refine(ag iX.ins T.iB Z (ag kD.ins T.je Z (ag eG T.fQ Z (ag (s1 _ _ hc) T.gS Z ⟨dt,_,Z,fA (s1 _ _ bF) Z,d.r,l,j.at_.p,qN,Z,iX.fI,fun e=>(by rw[eg]at e;cases e),fun g' i bb e fF mE hG=>?_⟩))));rw[eg]at e;have e:=bS e;subst e;refine⟨fun(σ:L2.St) H'=>∃n',σ=[some (.ref d.a),some (.ref c),some (.int (tN:Nat)),some (.ref d.w.a),some (.int (refusal l st.journey tN qN)),some (.ref bb)]∧bR A H' n' d.r l∧dk d.n n'∧ba H H'∧dO A H' bb g∧¬(j.strict=true∧fG l j.at_ tN g≠none),?_,?_⟩
 ·refine(ag kD.ins T.Io Z ⟨Z,_,Z,?_⟩);have es:decide (V.int (if j.strict=true then 1 else 0)=V.int 1)=j.strict:=by cases j.strict <;>rfl
  refine dR es (bj (fun h=>?_) (fun h=>?_))
  ·refine⟨d,st,l,j,tN,bb,g,Z,iX,ej,tl.2,tl.1,hG,gm,fun H2 n2 N2 ko kq=>?_⟩;have sn:=(ba.of s1).trans kq;refine⟨Z,_,Z,?_⟩;rw[kg];refine bj (fun q=>?_) (fun q=>?_)
   ·rw[h8]at q;rw[if_pos ⟨h,fun z=>by rw[z]at q;cases q⟩]at k;exact⟨_,Z,be,fun p np=>k.fq hl hI N2 ko sn (aa.upd np) np (by rw[ah];rfl)⟩
   ·rw[gU,zi]at q;exact⟨n2,Z,N2,ko,sn,hG.ei kq,fun z=>z.2 q⟩
  ·exact cV ⟨d.n,Z,iX.fq,dk.refl _,ba.of s1,hG,fun z=>by rw[h]at z;cases z.1⟩
 rintro σ H2 ⟨n2,rfl,N2,ko,kq,W_,dh⟩;rw[if_neg dh]at k;have ju:=hI.pS N2 ko kq;have rG:=ju.jr j ej;have KC:H2 d.a=some (.ins A.cf d.dx (gc d st)):=kq _ _ hI.ins (by intro kv w;cases w);refine(ag KC T.iB Z ⟨d.r,l,d.w,j,tN,bb,g,Z,ju.fI,rG,Ag,tl.2,tl.1,W_,gm,fun H3 w3 so ew uM J3=>?_⟩);have sf:=fB.ofO so rG.ins (.inr Z);obtain⟨d3,li⟩:=id J3.io;have iU:H3 d.w.a=some (.ins A.Journey w3.dx (jF w3 j.strict j.lost)):=by rw[←ew];exact J3.ins
 have KD:d.a≠d.w.a:=tZ KC rG.ins (by show(5:Nat)≠6;decide);have am6:H3 d.a=some (.ins A.cf d.dx (gc d st)):=so _ _ KC (by simpa using KD);refine(ag iU T.je Z (ag li T.qL Z ?_));refine(ag iU T.je Z (ag li T.jK Z ⟨bb,g,j.at_.b,Z,W_.dE sf,dj.2.1,be,fun p np=>?_⟩))
 let d1:DA:=⟨d.a,d.dx,d.r,n2,d.u,w3⟩
 let eJ:cM:={st with journey:=some (DL l j tN g)}
 have eF:gc d1 eJ=gc d st:=by
  show([("land",V.ref d.r.a),("needs",V.ref n2.a),("plan",V.ref d.u.a),("plan_told",V.bl st.planned),("journey",V.ref w3.a)]:List (Str×V))=([("land",V.ref d.r.a),("needs",V.ref d.n.a),("plan",V.ref d.u.a),("plan_told",V.bl st.planned),("journey",jv d st)]:List (Str×V));rw[ko.1,ew,ev]
 have KG:kE d st=[w3.jl]:=by unfold kE;rw[ej,uM]
 have Ai:own d st=[d.a,d.w.a,d.w.jl]:=by unfold own;rw[ej]
 have dn:=ju.land;have cX:=ju.plan;change bq A (Off (kE d st) H2) d.r l at dn;change eM A (Off (kE d st) H2) d.u d.r l st.plan at cX;rw[KG]at dn cX;have pY:g0 A H3 d1 l eJ:=⟨by rw[eF];exact am6,dn.dE sf.off,N2.dE sf,cX.dE sf.off,hI.x,hI.pos,fun j e=>by cases e;exact J3⟩
 have s4:=aa.upd (o:=.lst [V.int 0,V.int (dS l j.at_.f tN:Nat),V.int (a_ g j.at_.b:Nat)]) np;have rC:H2 p=none:=by
  cases e:H2 p with
  |none=>rfl
  |some o=>
   by_cases q:p=d.w.a
   ·rw[q,iU]at np;cases np
   ·rw[so p o e (by simpa using q)]at np;cases np
 refine k _ d1 p ((gd.of (st:=eJ) hl pY).same s4) Z ?_ ?_ (gM.rH kq rC) (by rw[ah];rfl)
 ·intro b m;have m:b∈[d.a,w3.a,w3.jl]:=m;rw[ew,uM]at m;exact .inl (by rw[Ai];exact m)
 ·intro b o e nb hn;rw[Ai]at nb;exact s4 _ _ (so b o (kq b o e hn) (fun q=>nb (by rw[cA.mp q];simp)))
theorem am7(T:Txt K mg A):T.Ck.Ok P w mg base 11 (g6 A 18):=by
 refine T.Ck.go yP fun _ _ _ _ H _ Q E hr h=>?_;obtain⟨d,st,c,vc,rfl,hn,hD,hC,hR,fJ,hlen,k⟩:=h;have hu:=d6 hr;cases vc <;>cases hn;obtain⟨l,hl,eX⟩:=hR.land (by show(18:Nat)≠0;decide);have hI:=(hD.fz _ hl).2;have hL:=hI.fI;obtain⟨dc,dt,fi,bh,hc,bF,dD⟩:=id hC;rename_i t0 q0;obtain⟨r1,r2⟩:=cC hR.g8;obtain⟨tN,rfl,ht⟩:=iW (m:=15) r1;obtain⟨qN,rfl,hq⟩:=iW (m:=6) r2;have gW:tN<16:=by lia
 refine⟨_,(af (aE 2 yP (eD hu (aj 1) bG)) (af (aE 3 yP (aj 0)) (af (aE 4 yP (aI (WC T) hr T.B0 (c8 (aj 0) (pv 3) (pv 2) (eD hu (aj 1) bG)))) (af (aV (aL jz (pv 4) aH) (ak (ax (bi (aF (pv 4))))) aW) (af (aE 5 yP (aI (W3 T) hr T.Ce (cS (pv 0) (pv 2) (aI (qU T) hr T.nP (cS (aj 0) (iw (aj 3) Z) (eD hu (aj 1) bG)))))) (af (aV (aL de (pv 5) bp) (ak (ax (bi (aF aH)))) aW) (ak (ax (bi (aX aH (pv 5))))))))))),?_⟩
 try dsimp only[aO,Cx.aQ]
 refine(ag hc T.gS Z ⟨dt,_,Z,fA bF Z,ag hI.ins T.o8 Z ?_⟩);refine(ag hI.ins T.iB Z (ag hc T.gS Z ⟨dt,_,Z,fA bF Z,d.r,l,jv d st,d.w,st.journey,tN,qN,Z,hL,W9 hI,gW,fun H1 s1=>?_⟩));refine⟨_,_,Z,Z,_,Z,bK (fun h=>?_) (fun h=>?_)⟩
 ·rw[(W7 hl h).2]at k;exact⟨be,fun p np=>k.same hD (s1.trans (aa.upd np)) (aa.free s1 np) (by rw[ah];rfl)⟩
 obtain⟨j,g,ej,c1,c2,eg⟩:=W8 h;rw[am4 hl ej c1 c2 eg]at hlen k;have tl:=xa gW c2;have gm:=(rF eg).1;have iX:=hI.same s1;have kD:=iX.jr j ej;have ev:jv d st=.ref d.w.a:=by unfold jv;rw[ej]
 rw[ev];obtain⟨dp,eG⟩:=id kD.io;refine(ag iX.ins T.iB Z (ag kD.ins T.je Z (ag eG T.fQ Z (ag (s1 _ _ hc) T.gS Z ⟨dt,_,Z,fA (s1 _ _ bF) Z,d.r,l,j.at_.p,qN,Z,iX.fI,fun e=>(by rw[eg]at e;cases e),fun g' i bb e fF mE hG=>?_⟩))));rw[eg]at e;have e:=bS e;subst e;refine⟨d,st,l,j,tN,bb,g,Z,iX,ej,tl.2,tl.1,hG,gm,fun H2 n2 N2 ko kq=>?_⟩;have sn:=(ba.of s1).trans kq;cases eh:fG l j.at_ tN g with
 |none=>
  rw[eh]at k;exact⟨Z,_,Z,cP ⟨be,fun p np=>k.fq hl hI N2 ko sn (aa.upd np) np (by rw[ah];rfl)⟩⟩
 |some i=>
  rw[eh]at k;exact⟨Z,_,Z,cV ⟨be,fun p np=>k.fq hl hI N2 ko sn (aa.upd np) np (by rw[ah];rfl)⟩⟩
theorem bR.off(h:bR A H n r l){as:List ae}(hp:H p=some (.lst (as.map V.ref)))(df:0<l.places.length)(JH:l.legs≠[]):bR A (Off [p] H) n r l:=by
 have row:∀s b a,H a=some (.lst (lZ l s b))→a≠p:=fun s b a ha e=>by
  subst e;rw[hp]at ha;have ha:=bS ha;injection ha with ha;have e0:∃i ys,lZ l s b=V.int i::ys:=by
   unfold lZ;obtain⟨m,hm⟩:∃m,l.places.length=m+1:=⟨l.places.length-1,by lia⟩
   rw[hm,E9,dw];exact⟨_,_,Z⟩
  obtain⟨i,ys,e0⟩:=e0;exact Dd e0 ha
 have cst:∀s b a,H a=some (.lst (mR l s b))→a≠p:=fun s b a ha e=>by
  subst e;rw[hp]at ha;have ha:=bS ha;injection ha with ha;have e0:∃i ys,mR l s b=V.int i::ys:=by
   unfold mR;cases hl:l.legs with
   |nil=>exact absurd hl JH
   |cons g gs=>exact⟨_,_,Z⟩
  obtain⟨i,ys,e0⟩:=e0;exact Dd e0 ha
 have at_:∀b,b≠p→Off [p] H b=H b:=fun b nb=>Off.at (by simpa using nb);exact⟨by rw[at_ _ (cE h.ins hp (by intro z;cases z))];exact h.ins,by rw[at_ _ (cE h.lv hp (by intro z;cases z))];exact h.lv,by rw[at_ _ (cE h.cs hp (by intro z;cases z))];exact h.cs,h.ne,
  fun k v e=>let ⟨s,b,a,q1,q2,q3,q4,q5⟩:=h.pB k v e;⟨s,b,a,q1,q2,q3,q4,by rw[at_ _ (row s b a q5)];exact q5⟩,
  fun k v e=>let ⟨s,b,a,q1,q2,q3,q4,q5⟩:=h.pC k v e;⟨s,b,a,q1,q2,q3,q4,by rw[at_ _ (cst s b a q5)];exact q5⟩,h.both,h.qZ,h.q_⟩
theorem am8{st:cM}{l:aJ}(hl:st.land=some (l,a8 l)){i:Nat}:cv st (.weather i)=(match st.journey with
  |none=>(st,[-3])
  |some j=>match j.on with
   |none=>(st,[-4])
   |some g=>if a_ g j.at_.b<i then(st,[-5])else({st with journey:=some (gL j g i)},(if j.at_.f<g.least+i then 1 else 0)::jw (gL j g i).at_)):=by
 unfold cv;simp only;unfold uL kG;rw[hl];simp only;cases st.journey with
 |none=>rfl
 |some j=>
  simp only[ml];cases j.on with
  |none=>rfl
  |some g=>
   simp only;split
   ·rfl
   ·unfold gL;simp only[decide_eq_true_eq];rfl
theorem am9(T:Txt K mg A):T.Cg.Ok P w mg base 11 (g6 A 15):=by
 refine T.Cg.go BI fun _ _ _ _ H _ Q E hr h=>?_;obtain⟨d,st,c,vc,rfl,hn,hD,hC,hR,fJ,hlen,k⟩:=h;have hu:=d6 hr;cases vc <;>cases hn;obtain⟨l,hl,eX⟩:=hR.land (by show(15:Nat)≠0;decide);have hI:=(hD.fz _ hl).2;have hL:=hI.fI;obtain⟨dc,dt,fi,bh,hc,bF,dD⟩:=id hC;rename_i i0;obtain⟨iN,rfl,aqu⟩:=iW (m:=12) hR.g8;rw[am8 hl]at hlen k;refine⟨_,(af (aE 2 BI (eD hu (aj 1) bG)) (af (aE 3 BI (aj 0)) (af (aV (aL de (pv 3) bp) (ak (ax (bi (aF (a6 T.BM))))) aW) (af (aV (aL de (aj 3) bp) (ak (ax (bi (aF (jZ j0 aH))))) aW) (af (aV (aL kN (pv 2) (aI (ue T) hr T.oW (aX (aj 3) (iw (aj 3) Z)))) (ak (ax (bi (aF (jZ j0 aH))))) aW) (af (dH (aI (al4 T) hr T.HR (cS (aj 0) (pv 3) (pv 2)))) (af (aE 4 BI (AE (gg (aj 3)) aH aH)) (ak (ax (br my (bi (aF (pv 4))) (oJ Mr (by rfl) T.RT am_ (aF (aI (CU T) hr T.wo (aF (aj 3))))))))))))))),?_⟩
 try dsimp only[aO,Cx.aQ]
 refine(ag hc T.gS Z ⟨dt,_,Z,fA bF Z,ag hI.ins T.o8 Z ?_⟩);cases ej:st.journey with
 |none=>
  rw[ej]at k;have ev:jv d st=.aC:=by unfold jv;rw[ej]
  rw[ev];exact⟨Z,_,Z,cP ⟨be,fun p np=>k.same hD (aa.upd np) np (by rw[ah];rfl)⟩⟩
 |some j=>
  rw[ej]at k;simp only at k;have ev:jv d st=.ref d.w.a:=by unfold jv;rw[ej]
  rw[ev];have hJ:=hI.jr j ej;refine⟨Z,_,Z,cV ?_⟩;refine(ag hJ.ins T.tV Z ⟨Z,_,Z,?_⟩);have pR:=hJ.dJ;cases KH:j.on with
  |none=>
   rw[KH]at k pR;have pR:d.w.lv=.aC:=pR;rw[pR];exact cP ⟨_,Z,be,fun p np=>k.same hD (aa.upd np) np (by rw[ah];rfl)⟩
  |some g=>
   rw[KH]at k pR;simp only at k;obtain⟨bb,Ah,hG,gm⟩:=pR;have dj:=hL.ok.dJ g gm;obtain⟨dp,hp⟩:=id hJ.io;refine dR (d:=false) (by rw[Ah];rfl) (cV ?_);have ui:H d.w.a=some (.ins A.Journey d.w.dx [("party",.ref d.w.pa),("strict",.int (if j.strict=true then 1 else 0)),("leg",.ref bb),("taking",.int (d.w.tk:Nat)),("lost",.bl j.lost),("log",.ref d.w.jl)]):=by rw[←Ah];exact hJ.ins
   refine(ag ui T.tV Z (ag ui T.je Z (ag hp T.jK Z ⟨bb,g,j.at_.b,Z,hG,dj.2.1,_,_,Z,Z,_,Z,bK (fun h=>?_) (fun h=>?_)⟩)))
   ·rw[if_pos (show a_ g j.at_.b<iN by lia)]at k;exact⟨_,Z,be,fun p np=>k.same hD (aa.upd np) np (by rw[ah];rfl)⟩
   rw[if_neg (show ¬a_ g j.at_.b<iN by lia)]at k;refine(ag hI.ins T.iB Z ⟨d.r,l,d.w,j,g,iN,Z,hL,hJ,KH,by lia,fJ j ej,fun H1 w1 so ew uM J1=>?_⟩);have Ai:own d st=[d.a,d.w.a,d.w.jl]:=by unfold own;rw[ej]
   have KG:kE d st=[d.w.jl]:=by unfold kE;rw[ej]
   have KD:d.a≠d.w.a:=tZ hI.ins hJ.ins (by show(5:Nat)≠6;decide);have ndl:d.a≠d.w.jl:=cE hI.ins hJ.log (by intro w;cases w);have anb:H1 d.a=some (.ins A.cf d.dx (gc d st)):=so _ _ hI.ins (by simp[KD,ndl]);have fT:H1 d.w.a=some (.ins A.Journey w1.dx (jF w1 j.strict (decide (j.at_.f<g.least+iN)))):=by rw[←ew];exact J1.ins
   obtain⟨d1p,eG⟩:=id J1.io
   let d1:DA:=⟨d.a,d.dx,d.r,d.n,d.u,w1⟩
   let eJ:cM:={st with journey:=some (gL j g iN)}
   have eF:gc d1 eJ=gc d st:=by
    show([("land",V.ref d.r.a),("needs",V.ref d.n.a),("plan",V.ref d.u.a),("plan_told",V.bl st.planned),("journey",V.ref w1.a)]:List (Str×V))=([("land",V.ref d.r.a),("needs",V.ref d.n.a),("plan",V.ref d.u.a),("plan_told",V.bl st.planned),("journey",jv d st)]:List (Str×V));rw[ew,ev]
   have sf:fB (Off [d.w.jl] H) (Off [d.w.jl] H1):=fun b o e n=>by
    unfold Off at e ⊢;split at e
    ·cases e
    ·rename_i hb;rw[if_neg hb];refine so b o e (fun m=>?_);rcases b_.mp m with rfl|m
     ·rw[hJ.ins]at e;exact(n _ _ _ (bS e).symm).2 Z
     ·exact hb m
   have lX:=hI.land;have uF:=hI.plan;rw[KG]at lX uF;have lne:l.legs≠[]:=fun z=>by rw[z]at gm;cases gm
   have N1:bR A H1 d.n d.r l:=((hI.fq.off hJ.log hI.pos lne).dE sf).same (Off.sub _ _);have pY:g0 A H1 d1 l eJ:=⟨by rw[eF];exact anb,by show bq A (Off [w1.jl] H1) d.r l;rw[uM];exact lX.dE sf,N1,by show eM A (Off [w1.jl] H1) d.u d.r l st.plan;rw[uM];exact uF.dE sf,hI.x,hI.pos,fun j e=>by cases e;exact J1⟩
   have fin:∀(H5:Hp) (p:ae),aa H1 H5→H1 p=none→H5 p=some (.lst ((((if j.at_.f<g.least+iN then 1 else 0:Int))::jw (gL j g iN).at_).map V.int))→Q (.ref p) H5:=fun H5 p s5 np rm=>by
    refine k H5 d1 p ((gd.of (st:=eJ) hl pY).same s5) Z ?_ ?_ ?_ rm
    ·intro b m;have m:b∈[d.a,w1.a,w1.jl]:=m;rw[ew,uM]at m;exact .inl (by rw[Ai];exact m)
    ·intro b o e nb hn;rw[Ai]at nb;exact s5 _ _ (so b o e (fun q=>nb (c_ _ q)))
    ·refine gM.of ?_;cases e:H p with
     |none=>rfl
     |some o=>
      by_cases q1:p=d.w.a
      ·rw[q1,fT]at np;cases np
      ·by_cases q2:p=d.w.jl
       ·rw[q2,←uM,J1.log]at np;cases np
       ·rw[so p o e (by simp[q1,q2])]at np;cases np
   refine(ag fT T.Cr Z ⟨_,Z,?_⟩);have tail:∀(x:Int),x=(if j.at_.f<g.least+iN then 1 else 0)→∀q,H1 q=none→AR (fun xs H Q=>∃p ys,xs=[.ref p]∧(ai K H p ys∨bV K H p ys)∧∀l,H l=none→Q (.ref l) (upd H l (.lst ys))) (j1 (EI (Jf A) [] E0 (j1 (AO K (AA 3) "party") nh)) nh) [some (.ref d.a),some (.ref c),some (.int (iN:Nat)),some (.ref d.w.a),some (.int x)] (upd H1 q (.lst [V.int x])) (fun y H2=>E4 (.ref q) y H2 Q):=fun x ex q nq=>by
    have s2:=aa.upd (o:=.lst [V.int x]) nq;have Ka:(upd H1 q (.lst [V.int x])) q=some (.lst [V.int x]):=ah;generalize upd H1 q (.lst [V.int x])=H2 at*;refine(ag (s2 _ _ fT) T.je Z ⟨w1.pa,(gL j g iN).at_,Z,J1.io.same s2,fun t nt=>?_⟩);have s3:=aa.upd (o:=.tup [.int ((gL j g iN).at_.p:Nat),.int ((gL j g iN).at_.s:Nat),.int ((gL j g iN).at_.b:Nat),.int ((gL j g iN).at_.f:Nat)]) nt;refine⟨t,_,Z,.inr (bV.of ah),fun q2 xb=>?_⟩;have s4:=aa.upd (o:=.lst [.int ((gL j g iN).at_.p:Nat),.int ((gL j g iN).at_.s:Nat),.int ((gL j g iN).at_.b:Nat),.int ((gL j g iN).at_.f:Nat)]) xb;refine⟨q,q2,_,_,Z,Z,s4 _ _ (s3 _ _ Ka),ah,(by show 1+4≤bf;decide),fun p np=>?_⟩;have rB:=s2.trans (s3.trans s4);refine fin _ p (rB.trans (aa.upd np)) (aa.free rB np) ?_;rw[ah,ex];rfl
   by_cases lost:j.at_.f<g.least+iN
   ·rw[decide_eq_true lost];exact cP ⟨be,fun q nq=>tail 1 (by rw[if_pos lost]) q nq⟩
   ·rw[decide_eq_false lost];exact cV ⟨be,fun q nq=>tail 0 (by rw[if_neg lost]) q nq⟩
theorem ane{st:cM}{l:aJ}(hl:st.land=some (l,a8 l)):cv st .journey=(match st.journey with
  |none=>(st,[-3])
  |some j=>(st,(e9 j:Int)::((if j.strict=true then 1 else 0)::jw j.at_++(if j.on.isSome=true∨j.lost=true then[]else rK (cq (a8 l) j.at_.s j.at_.b j.at_.p))))):=by
 unfold cv;simp only;unfold uL kG;rw[hl];simp only;cases st.journey with
 |none=>rfl
 |some j=>
  simp only;have e:(if j.lost=true then(3:Int)else if j.on.isSome=true then 1 else if j.at_.p=0 then 2 else 0)=(e9 j:Int):=by
   unfold e9;split
   ·rfl
   ·split
    ·rfl
    ·split <;>rfl
  rw[e];rfl
theorem anf(T:Txt K mg A):T.Ci.Ok P w mg base 11 (g6 A 16):=by
 refine T.Ci.go yO fun _ _ _ _ H _ Q E hr h=>?_;obtain⟨d,st,c,vc,rfl,hn,hD,hC,hR,fJ,hlen,k⟩:=h;have hu:=d6 hr;cases vc <;>cases hn;obtain⟨l,hl,eX⟩:=hR.land (by show(16:Nat)≠0;decide);have hI:=(hD.fz _ hl).2;have hL:=hI.fI;obtain⟨dc,dt,fi,bh,hc,bF,dD⟩:=id hC;rw[ane hl]at hlen k;refine⟨_,(af (aE 2 yO (aj 0)) (af (aV (aL de (pv 2) bp) (ak (ax (bi (aF (a6 T.BM))))) aW) (af (aE 3 yO (aj 2)) (af (aE 4 yO (aI (Wy T) hr T.BZ (aF (pv 2)))) (af (aE 5 yO (br my (bi (aX (pv 4) (aj 2))) (oJ Mr (by rfl) T.RT am_ (aF (aI (CU T) hr T.wo (aF (pv 3))))))) (af (aV (oE vD (pv 4) (jA (aX (a6 T.G8) (a6 T.RZ))) (by rfl)) (ak (dH (d4 PySem.F.plainAttrs_list PySem.F.slot_list_extend PySem.F.type_list_extend qm (pv 5) (aF (FE (aI (Ku T) hr T.y2 (aF (qj (aj 0) T.qO T.Ct (JD T) (hr.mono (by decide)) T.qJ.b .nil jG (cS (aj 3) (aj 3) (aj 3)))))))))) aW) (ak (ax (pv 5))))))))),?_⟩
 try dsimp only[aO,Cx.aQ]
 refine(ag hI.ins T.o8 Z ?_);cases ej:st.journey with
 |none=>
  rw[ej]at k;have ev:jv d st=.aC:=by unfold jv;rw[ej]
  rw[ev];exact⟨Z,_,Z,cP ⟨be,fun p np=>k.same hD (aa.upd np) np (by rw[ah];rfl)⟩⟩
 |some j=>
  rw[ej]at k;simp only at k;have ev:jv d st=.ref d.w.a:=by unfold jv;rw[ej]
  rw[ev];have hJ:=hI.jr j ej;obtain⟨dp,hp⟩:=id hJ.io;refine⟨Z,_,Z,cV ?_⟩;refine(ag hJ.ins T.je Z ⟨l,d.w,j,Z,hJ,?_⟩);refine(ag hJ.ins T.Io Z ⟨be,fun q1 mW=>?_⟩);have s1:=aa.upd (o:=.lst [V.int (e9 j:Nat),V.int (if j.strict=true then 1 else 0)]) mW;refine⟨d.w.pa,j.at_,Z,hJ.io.same s1,fun t nt=>?_⟩;have s2:=aa.upd (o:=.tup [.int (j.at_.p:Nat),.int (j.at_.s:Nat),.int (j.at_.b:Nat),.int (j.at_.f:Nat)]) nt;refine⟨t,_,Z,.inr (bV.of ah),fun q2 xb=>?_⟩;have s3:=aa.upd (o:=.lst [.int (j.at_.p:Nat),.int (j.at_.s:Nat),.int (j.at_.b:Nat),.int (j.at_.f:Nat)]) xb;refine⟨q1,q2,_,_,Z,Z,s3 _ _ (s2 _ _ ah),ah,(by show 2+4≤bf;decide),fun D nD=>?_⟩;have s4:=aa.upd (o:=.lst ([V.int (e9 j:Nat),V.int (if j.strict=true then 1 else 0)]++[.int (j.at_.p:Nat),.int (j.at_.s:Nat),.int (j.at_.b:Nat),.int (j.at_.f:Nat)])) nD;have rB:=s1.trans (s2.trans (s3.trans s4));have km:=aa.free (s1.trans (s2.trans s3)) nD;have N4:=(hI.fq.same (s1.trans (s2.trans s3))).same (Off.new (O:=[D]) s4 (fun b m=>by rw[cA.mp m];exact nD));have jP:(upd (upd (upd (upd H q1 (.lst [V.int (e9 j:Nat),V.int (if j.strict=true then 1 else 0)])) t (.tup [.int (j.at_.p:Nat),.int (j.at_.s:Nat),.int (j.at_.b:Nat),.int (j.at_.f:Nat)])) q2 (.lst [.int (j.at_.p:Nat),.int (j.at_.s:Nat),.int (j.at_.b:Nat),.int (j.at_.f:Nat)])) D (.lst ([V.int (e9 j:Nat),V.int (if j.strict=true then 1 else 0)]++[.int (j.at_.p:Nat),.int (j.at_.s:Nat),.int (j.at_.b:Nat),.int (j.at_.f:Nat)]))) D=some (.lst (((e9 j:Int)::(if j.strict=true then 1 else 0)::jw j.at_).map V.int)):=by rw[ah];rfl
  generalize upd (upd (upd (upd H q1 (.lst [V.int (e9 j:Nat),V.int (if j.strict=true then 1 else 0)])) t (.tup [.int (j.at_.p:Nat),.int (j.at_.s:Nat),.int (j.at_.b:Nat),.int (j.at_.f:Nat)])) q2 (.lst [.int (j.at_.p:Nat),.int (j.at_.s:Nat),.int (j.at_.b:Nat),.int (j.at_.f:Nat)])) D (.lst ([V.int (e9 j:Nat),V.int (if j.strict=true then 1 else 0)]++[.int (j.at_.p:Nat),.int (j.at_.s:Nat),.int (j.at_.b:Nat),.int (j.at_.f:Nat)]))=H4 at*;refine⟨be,fun t5 nt5=>?_⟩;have s5:=aa.upd (o:=.tup [V.int 0,V.int 2]) nt5;refine⟨t5,_,Z,.inr (bV.of ah),Z,Z,_,Z,?_⟩;have ein:gC (V.int (e9 j:Nat)) [V.int 0,V.int 2]= !decide (j.on.isSome=true∨j.lost=true):=by
   unfold e9;cases j.lost <;>cases j.on.isSome <;>by_cases q:j.at_.p=0 <;>simp[q,gC,mq]
  refine dR (d:= !decide (j.on.isSome=true∨j.lost=true)) ein ?_;have jm:=s5 _ _ jP;have N5:=N4.same (Off.of (O:=[D]) s5);have z7:=rB.trans s5;generalize upd H4 t5 (.tup [V.int 0,V.int 2])=H5 at*;refine jL (fun h=>?_) (fun h=>?_)
  ·rw[if_neg h]at k;refine⟨.inl ⟨Z,_,ai.of jm⟩,D,_,jm,trivial,fun od=>?_⟩;have bs:∀b o,H b=some o→(upd H5 D (.bE od (.lst (((e9 j:Int)::(if j.strict=true then 1 else 0)::jw j.at_).map V.int)))) b=some o:=fun b o e=>by
    rw[ao (cy e km)];exact z7 b o e
   have mz:(upd H5 D (.bE od (.lst (((e9 j:Int)::(if j.strict=true then 1 else 0)::jw j.at_).map V.int)))) D=some (.bE od (.lst (((e9 j:Int)::(if j.strict=true then 1 else 0)::jw j.at_).map V.int))):=ah;have NL:=N5.same (Off.lock (o:=.bE od (.lst (((e9 j:Int)::(if j.strict=true then 1 else 0)::jw j.at_).map V.int))));generalize upd H5 D (.bE od (.lst (((e9 j:Int)::(if j.strict=true then 1 else 0)::jw j.at_).map V.int)))=HL at*;have sL:aa H HL:=bs;have KI:=bs _ _ hp;refine(ag (bs _ _ hI.ins) T.nR Z ⟨d.n.a,d.n.dx,_,Z,NL.ins,Z,ag KI T.fQ Z (ag KI T.jJ Z (ag KI T.jK Z ⟨d.n,d.r,l,j.at_.p,j.at_.s,j.at_.b,Z,NL,hL.same sL,hJ.ok.p,hJ.ok.s,hJ.ok.b,fun H6 n6 N6 Di nY=>?_⟩))⟩);have pU:=nY _ _ mz (by intro kv w;cases w);refine⟨_,Z,fun m e=>dU (WS hJ.ok.s hJ.ok.b e) hL.ok.most,fun H7 p7 s7 Xa KJ=>?_⟩;have zz:=s7 _ _ pU;refine⟨zz,?_⟩;have N8:=(N6.same s7).WX (u':=.lst (((e9 j:Int)::(if j.strict=true then 1 else 0)::jw j.at_).map V.int)) zz;have hD8:(upd H7 D (.lst (((e9 j:Int)::(if j.strict=true then 1 else 0)::jw j.at_).map V.int))) D=some (.lst (((e9 j:Int)::(if j.strict=true then 1 else 0)::jw j.at_).map V.int)):=ah;have anj:p7≠D:=fun e=>by subst e;rw[pU]at Xa;cases Xa
   have hp8:(upd H7 D (.lst (((e9 j:Int)::(if j.strict=true then 1 else 0)::jw j.at_).map V.int))) p7=some (.lst ((rK (cq (a8 l) j.at_.s j.at_.b j.at_.p)).map V.int)):=by rw[ao anj];exact KJ
   have sn8:ba H (upd H7 D (.lst (((e9 j:Int)::(if j.strict=true then 1 else 0)::jw j.at_).map V.int))):=fun b o e hn=>by
    rw[ao (cy e km)];exact s7 _ _ (nY _ _ (bs _ _ e) hn)
   generalize upd H7 D (.lst (((e9 j:Int)::(if j.strict=true then 1 else 0)::jw j.at_).map V.int))=H8 at*;refine⟨D,p7,_,_,Z,Z,hD8,hp8,?_,?_⟩
   ·rw[aB,aB];have:(rK (cq (a8 l) j.at_.s j.at_.b j.at_.p)).length≤2:=by
     cases cq (a8 l) j.at_.s j.at_.b j.at_.p <;>(unfold rK;simp)
    show 6+_≤16777216
    lia
   ·refine ?_;have N9:bR A (upd H8 D (.lst (((e9 j:Int)::(if j.strict=true then 1 else 0)::jw j.at_).map V.int++(rK (cq (a8 l) j.at_.s j.at_.b j.at_.p)).map V.int))) n6 d.r l:=N8.same Off.lock;have Xb:ba H (upd H8 D (.lst (((e9 j:Int)::(if j.strict=true then 1 else 0)::jw j.at_).map V.int++(rK (cq (a8 l) j.at_.s j.at_.b j.at_.p)).map V.int))):=ba.bI sn8 km;refine k _ (d.pS n6) D (gd.of hl (hI.pS N9 Di Xb)) Z (fun b m=>.inl m) (kF.rH Xb) (gM.of km) ?_;rw[ah,←b9];rfl
  ·rw[if_pos h,gi]at k;exact(k.same hD z7 km jm)
def Xc(A:aR):Bool→ae
 |true=>A.G1
 |false=>A.G2
def Xd(A:aR):Bool→aM
 |true=>A.QS
 |false=>A.QX
def Xe:Bool→List Str
 |true=>["land","words"]
 |false=>["plan","words"]
def tkS(A:aR):Bool→Sp
 |true=>CL A
 |false=>Du A
theorem Xf(T:Txt K mg A):∀j,fC P w K mg base jE 6 (Xc A j) (Xd A j) (Xe j) (tkS A j)
 |true=>(ai2 T).mono (by decide)
 |false=>akQ T
theorem Xg(T:Txt K mg A):∀j,PySem.W.keepIn K (.ref (Xc A j))=true
 |true=>T.yU.kp
 |false=>T.yZ.kp
theorem Xh(T:Txt K mg A):∀j,Binds K (Xd A j) (Xe j) []
 |true=>T.yU.b
 |false=>T.yZ.b
theorem DU{S:Type}{step:S→List (List Nat)→Option S}:∀{ls}{n m}{st},ji step n st ls=.error m→n≤m
 |[],_,_,_,h=>by cases h
 |ws::r,n,m,st,h=>by
  unfold ji at h;by_cases c:ws=[]
  ·rw[if_pos c]at h;have:=DU h;lia
  ·rw[if_neg c]at h;cases e:step st ws with
   |none=>rw[e]at h;cases h;exact a9 _
   |some ci=>
    rw[e]at h;have:=DU h;lia
theorem Xi(h:Xj t=true):∃L:List Nat,t=Vbexab.ints L∧L.length≤2000:=by
 unfold Xj at h;obtain⟨h1,h2⟩:=cC h;obtain⟨L,rfl⟩:=ints_of h2;have:=of_decide_eq_true h1;rw[uK]at this;exact⟨L,Z,this⟩
theorem Off.nil:aa H (Off [] H):=fun b o e=>by unfold Off;rw[if_neg (by intro m;cases m)];exact e
theorem bJ.new(s:aa H H1)(h:∀b∈O,H b=none)(so:bJ O H1 H2):aa H H2:=fun b o e=>so b o (s b o e) (fun m=>by rw[h b m]at e;cases e)
theorem ano{r:LA}:Jb (CL A) (.ref r.a) (fun H l=>∃r',r'.own=r.own∧bq A H r' l∧Sep r') r.own gH:=by
 refine⟨fun H H' st s ⟨r',q1,q2,q3⟩=>⟨r',q1,q2.same s,q3⟩,fun H st b ⟨r',q1,q2,q3⟩ m=>?_,fun H st a ws Q ⟨r',q1,q2,q3⟩ ha cU hW _ na k1 k0=>?_⟩
 ·rw[←q1]at m;rcases b_.mp m with rfl|m
  ·exact⟨_,q2.ins⟩
  ·rcases b_.mp m with rfl|m
   ·exact⟨_,q2.pl⟩
   ·rcases b_.mp m with rfl|m
    ·exact⟨_,q2.lg⟩
    ·rw[cA.mp m];exact⟨_,q2.ch⟩
 ·have ea:r'.a=r.a:=by
   have:=q1;unfold LA.own at this;injection this
  refine⟨r',st,a,ws,by rw[ea],ha,cU,hW,by rw[q1];exact na,q2,q3,?_⟩;cases e:gH st ws with
  |none=>exact fun H' so=>k0 e H' (fun b o z n=>so b o z (by rw[q1];exact n))
  |some l1=>exact fun H' r2 e2 so hL hS=>k1 l1 e H' (fun b o z n=>so b o z (by rw[q1];exact n)) ⟨r2,e2.trans q1,hL,hS⟩
theorem anp{u:PA}:Jb (Du A) (.ref u.a) (fun H pl=>∃rs,bq A (Off [u.lr] H) r l∧eM A (Off O H) (u.with rs) r l pl∧∀b∈O,∃o,H b=some o) [u.lr] (og l):=by
 refine⟨fun H H' st s ⟨rs,q1,q2,q3⟩=>⟨rs,q1.same (Off.of s),q2.same (Off.of s),fun b m=>let ⟨o,e⟩:=q3 b m;⟨o,s _ _ e⟩⟩,fun H st b ⟨rs,q1,q2,q3⟩ m=>?_,fun H st a ws Q ⟨rs,q1,q2,q3⟩ ha cU hW iU na k1 k0=>?_⟩
 ·rw[cA.mp m];exact⟨_,Off.sub _ _ _ _ q2.rl⟩
 ·have hlr:∀b∈O,b≠u.lr:=fun b m e=>by
   have:=q2.rl;unfold Off at this;rw[if_pos (show(u.with rs).lr∈O by rw[show(u.with rs).lr=u.lr from Z,←e];exact m)]at this;cases this
  refine⟨O,u.with rs,r,l,st,a,ws,rfl,q1,q2,q3,ha,hW,iU,fun e H' s=>k0 e H' (bJ.of s),fun Dv e H' rs' so hL hP=>k1 Dv e H' so ⟨rs',hL,hP,fun b m=>?_⟩⟩;obtain⟨o,e⟩:=q3 b m;exact⟨o,so _ _ e (fun z=>hlr b m (cA.mp z))⟩
theorem uN(e:H a=some (.ins C dx fs))(h5:fs.length=5):fB H (upd H a o)∧bJ [a] H (upd H a o)∧(upd H a o) a=some o:=
 ⟨fB.upd e (.inl h5),fun b u z n=>(by rw[ao (fun q=>n (cA.mpr q))];exact z),ah⟩
theorem gZ.dE(s:fB H H'){w:JA}(h:gZ A H l w j)(hi:∀o,H w.a=some o→H' w.a=some o):gZ A H' l w j:=
 ⟨hi _ h.ins,h.io.dE s,by
  have:=h.dJ;cases e:j.on with
  |none=>rw[e]at this;exact this
  |some g=>rw[e]at this;exact let ⟨b,e,q,m⟩:=this;⟨b,e,q.dE s,m⟩,h.tk,h.nl,s _ _ h.log pW,cG (R:=ma) (fun _ _ z=>s _ _ z amT) h.ents,h.ok,h.fm⟩
theorem gr.nil:gr {}:=⟨bu _,fun _ m=>(by cases m),fun _ m=>(by cases m)⟩
theorem ant(T:Txt K mg A):T.B1.Ok P w mg base 9 (g6 A 0):=by
 refine T.B1.go GW fun _ _ _ _ H _ Q E hr h=>?_;obtain⟨d,st,c,vc,rfl,hn,hD,hC,hR,fJ,hlen,k⟩:=h;have hu:=d6 hr;cases vc <;>cases hn;rename_i b0;obtain⟨L,rfl,anu⟩:=Xi hR.g8;obtain⟨dc,dt,fi,bh,hc,bF,dD⟩:=id hC;have ea:cv st (.land (Vbexab.ints L))=(match zQ 1 {} (jN L)with
  | .error n=>(st,[-1000-(n:Int)])
  | .ok l=>if l.places.isEmpty=true then(st,[-4])else({land:=some (l,a8 l)},[0,(l.places.length:Int),l.legs.length,l.caches.length,l.most,l.bad])):=by
  show(match zQ 1 {} (jN ((Vbexab.ints L).map DQ))with| .error n=>_| .ok l=>_)=_;rw[Kx]
 rw[ea]at hlen k;obtain⟨v1,v2,v3,v4,v5,DV⟩:∃v1 v2 v3 v4 v5,H d.a=some (.ins A.cf d.dx [("land",v1),("needs",v2),("plan",v3),("plan_told",v4),("journey",v5)]):=by
  cases e:st.land with
  |none=>exact⟨_,_,_,_,_,(hD.aC e).1⟩
  |some x=>exact⟨_,_,_,_,_,(hD.fz x e).2.ins⟩
 refine⟨_,(af (aE 2 GW (Od (aiL T) hr T.ahS T.Hi)) (af (aE 3 GW (EL (Tp T (Xf T) (Xg T) (Xh T)) (hr.mono (by decide)) Z T.tR.m T.tR.kp T.tR.b .nil jG (cS (aj 1) (pv 2) (Eg (v:=.ref A.G1) Z T.yU.m Z)))) (af (aV (aL kN (pv 3) aH) (ak (ax (bi (aF (br iu (a6 T.R0) (pv 3)))))) aW) (af (aV (aL cO (cT T.cH (aj 2)) aH) (ak (ax (bi (aF (jZ j0 aH))))) aW) (af (bC (pv 0) (pv 2) Z) (af (bC (pv 0) (gk (aj9 T) hr T.ahV T.HS (aF (pv 2))) Z) (af (bC (pv 0) (gk (UI T) hr T.R4 T.BU (aF (pv 2))) Z) (af (bC (pv 0) dv Z) (af (bC (pv 0) bp Z) (ak (ax (bi (gh aH (gh (cT T.cH (aj 2)) (c8 (cT T.cH (aj 2)) (cT T.cH (aj 2)) (aj 2) (aj 2)))))))))))))))),?_⟩
 try dsimp only[aO,Cx.aQ]
 intro x dx nx pX xj;refine⟨x,dx,Z,ah,fun H1 r ex cu IU KL np nl nc=>⟨Z,?_⟩⟩;have s1:aa H H1:=fun b o e=>KL b o (cy e nx) (by rw[ao (cy e nx),ao (cy e pX)];exact e);have new:∀b∈r.own,H b=none:=by
  have back:∀b,(upd (upd H dx (.own x)) x (.ins A.Land dx [])) b=none→H b=none:=fun b e=>by
   have q1:b≠x:=fun z=>by subst z;rw[ah]at e;cases e
   have q2:b≠dx:=fun z=>by subst z;rw[ao q1,ah]at e;cases e
   rw[ao q1,ao q2]at e;exact e
  intro b m;rcases b_.mp m with rfl|m
  ·rw[ex];exact nx
  ·rcases b_.mp m with rfl|m
   ·exact back _ np
   ·rcases b_.mp m with rfl|m
    ·exact back _ nl
    ·rw[cA.mp m];exact back _ nc
 subst ex;refine(ag (s1 _ _ hc) T.wu Z ?_);refine⟨aJ,fun H l=>∃r':LA,r'.own=r.own∧bq A H r' l∧Sep r',r.own,gH,true,fi,.ref r.a,L,{},Z,ai.of (s1 _ _ (by rw[dD];show _=some (HO.lst (nats L));rw[uE];rfl)),by lia,ano,⟨r,Z,cu,IU⟩,fun l e H2 uO=>?_,fun n e H2 uO=>?_⟩;rotate_left
 ·have n1:=DU e;rw[Dn]at e;rw[e]at k;have s2:=bJ.new s1 new uO;refine⟨_,_,Z,Z,_,Z,bK (fun h=>?_) (fun h=>absurd (show(0:Int)<((n:Nat):Int) by lia) h)⟩;exact⟨_,_,Z,Z,be,fun p np=>k.same hD (s2.trans (aa.upd np)) (aa.free s2 np) (by rw[ah];rfl)⟩
 ·rintro⟨r2,eo,dn,S9⟩;rw[Dn]at e;rw[e]at k;simp only at k;have s2:=bJ.new s1 new uO;have er:r2.a=r.a:=by
   have:=eo;unfold LA.own at this;injection this
  have tY:H2 r.a=some (.ins A.Land r2.dx (CC r2 l)):=by rw[←er];exact dn.ins
  refine⟨_,_,Z,Z,_,Z,bK (fun h=>absurd (show(0:Int)<0 from h) (by decide)) (fun _=>?_)⟩;refine(ag tY T.jd Z ⟨_,_,Z,.inl (ai.of dn.pl),Z,_,Z,bK (fun h=>?_) (fun h=>?_)⟩)
  ·have e0:l.places.isEmpty=true:=by
    have:=KA (V.int.inj h);rw[l8]at this;rw[F2];exact anv this
   rw[if_pos e0]at k;exact⟨_,Z,be,fun p np=>k.same hD (s2.trans (aa.upd np)) (aa.free s2 np) (by rw[ah];rfl)⟩
  have e0:¬l.places.isEmpty=true:=fun z=>h (by rw[F2.mp z];rfl);have anw:0<l.places.length:=by
   rw[F2]at e0;exact vU.mpr e0
  rw[if_neg e0]at k;have hd2:=s2 _ _ DV;refine(bD hd2 T.iB ?_);obtain⟨f3,kX,rQ⟩:=uN hd2 Z (o:=.ins A.cf d.dx (dZ (aZ "land") (V.ref r.a) [("land",v1),("needs",v2),("plan",v3),("plan_told",v4),("journey",v5)]));generalize upd H2 d.a (.ins A.cf d.dx (dZ (aZ "land") (V.ref r.a) [("land",v1),("needs",v2),("plan",v3),("plan_told",v4),("journey",v5)]))=H3 at*;have rQ:H3 d.a=some (.ins A.cf d.dx [("land",(V.ref r.a)),("needs",v2),("plan",v3),("plan_told",v4),("journey",v5)]):=rQ;have L3:=dn.dE f3;refine(fun xn dxn Xk anz aqw=>⟨xn,dxn,r2,l,by rw[er];rfl,ah,fun H4 n en N4 anA=>⟨Z,?_⟩⟩);have s4:aa H3 H4:=fun b o e=>anA b o (cy e Xk) (by rw[ao (cy e Xk),ao (cy e anz)];exact e);subst en;have uP:=s4 _ _ rQ;refine(bD uP T.nR ?_);obtain⟨f5,so5,KN⟩:=uN uP Z (o:=.ins A.cf d.dx (dZ (aZ "needs") (V.ref n.a) [("land",(V.ref r.a)),("needs",v2),("plan",v3),("plan_told",v4),("journey",v5)]));generalize upd H4 d.a (.ins A.cf d.dx (dZ (aZ "needs") (V.ref n.a) [("land",(V.ref r.a)),("needs",v2),("plan",v3),("plan_told",v4),("journey",v5)]))=H5 at*;have KN:H5 d.a=some (.ins A.cf d.dx [("land",(V.ref r.a)),("needs",(V.ref n.a)),("plan",v3),("plan_told",v4),("journey",v5)]):=KN;have L5:=(L3.same s4).dE f5;have N5:=N4.dE f5;refine(fun xu dxu Xl anD aqx=>⟨xu,dxu,r2,l,by rw[er];rfl,ah,fun H6 u eu U6 mY pP=>⟨Z,?_⟩⟩);have s6:aa H5 H6:=fun b o e=>mY b o (cy e Xl) (by rw[ao (cy e Xl),ao (cy e anD)];exact e);subst eu;have Xm:=s6 _ _ KN;refine(bD Xm T.qQ ?_);obtain⟨f7,so7,DW⟩:=uN Xm Z (o:=.ins A.cf d.dx (dZ (aZ "plan") (V.ref u.a) [("land",(V.ref r.a)),("needs",(V.ref n.a)),("plan",v3),("plan_told",v4),("journey",v5)]));generalize upd H6 d.a (.ins A.cf d.dx (dZ (aZ "plan") (V.ref u.a) [("land",(V.ref r.a)),("needs",(V.ref n.a)),("plan",v3),("plan_told",v4),("journey",v5)]))=H7 at*;have DW:H7 d.a=some (.ins A.cf d.dx [("land",(V.ref r.a)),("needs",(V.ref n.a)),("plan",(V.ref u.a)),("plan_told",v4),("journey",v5)]):=DW;refine(bD DW T.Cu ?_);obtain⟨f8,so8,DX⟩:=uN DW Z (o:=.ins A.cf d.dx (dZ (aZ "plan_told") (V.bl false) [("land",(V.ref r.a)),("needs",(V.ref n.a)),("plan",(V.ref u.a)),("plan_told",v4),("journey",v5)]));generalize upd H7 d.a (.ins A.cf d.dx (dZ (aZ "plan_told") (V.bl false) [("land",(V.ref r.a)),("needs",(V.ref n.a)),("plan",(V.ref u.a)),("plan_told",v4),("journey",v5)]))=H8 at*;have DX:H8 d.a=some (.ins A.cf d.dx [("land",(V.ref r.a)),("needs",(V.ref n.a)),("plan",(V.ref u.a)),("plan_told",(V.bl false)),("journey",v5)]):=DX;refine(bD DX T.o8 ?_);obtain⟨f9,so9,DY⟩:=uN DX Z (o:=.ins A.cf d.dx (dZ (aZ "journey") V.aC [("land",(V.ref r.a)),("needs",(V.ref n.a)),("plan",(V.ref u.a)),("plan_told",(V.bl false)),("journey",v5)]));generalize upd H8 d.a (.ins A.cf d.dx (dZ (aZ "journey") V.aC [("land",(V.ref r.a)),("needs",(V.ref n.a)),("plan",(V.ref u.a)),("plan_told",(V.bl false)),("journey",v5)]))=H9 at*;have DY:H9 d.a=some (.ins A.cf d.dx [("land",(V.ref r.a)),("needs",(V.ref n.a)),("plan",(V.ref u.a)),("plan_told",(V.bl false)),("journey",V.aC)]):=DY;have KO:=f7.trans (f8.trans f9);have L9:=(L5.same s6).dE KO;have N9:=(N5.same s6).dE KO;have U9:=U6.dE KO;have so:bJ [d.a] H H9:=(bJ.of s2).trans (kX.trans ((bJ.of s4).trans (so5.trans ((bJ.of s6).trans (so7.trans (so8.trans so9))))));have Aj:H9 r.a=some (.ins A.Land r2.dx (CC r2 l)):=by rw[←er];exact L9.ins
  refine(ag Aj T.jd Z ⟨_,_,Z,.inl (ai.of L9.pl),ag Aj T.qK Z ⟨_,_,Z,.inl (ai.of L9.lg),ag Aj T.lP Z ⟨_,_,Z,.inl (ai.of L9.ch),ag Aj T.o6 Z (ag Aj T.Co Z ⟨be,fun p np=>?_⟩)⟩⟩⟩)
  let d1:DA:=⟨d.a,d.dx,r2,n,u,d.w⟩
  let eJ:cM:={land:=some (l,a8 l)}
  have pY:g0 A H9 d1 l eJ:=⟨?_,L9.same Off.nil,N9,U9.same Off.nil,UZ _ _ gr.nil e,anw,fun j z=>by cases z⟩
  ·have Fu:=aa.upd (o:=.lst [V.int 0,V.int ((cn l.places).length:Nat),V.int ((r2.gs.map V.ref).length:Nat),V.int ((r2.cs.map V.ref).length:Nat),V.int (l.most:Nat),V.int (l.bad:Nat)]) np;refine k _ d1 p ((gd.of (st:=eJ) Z pY).same Fu) Z (fun b m=>.inl ?_) (fun b o e nb _=>Fu _ _ (so b o e (fun m=>nb ?_))) (gM.of ?_) ?_
   ·have m:b∈[d.a]:=m;rw[cA.mp m];exact cI
   ·rw[cA.mp m];exact cI
   ·cases e:H p with
    |none=>rfl
    |some o=>
     by_cases q:p=d.a
     ·rw[q,DY]at np;cases np
     ·rw[so p o e (fun m=>q (cA.mp m))]at np;cases np
   ·rw[ah,l8,aB,aB,Paired.length L9.gs,Paired.length L9.cs];rfl
  ·show H9 d.a=some (.ins A.cf d.dx [("land",.ref r2.a),("needs",.ref n.a),("plan",.ref u.a),("plan_told",.bl false),("journey",.aC)]);rw[er];exact DY
theorem anH(T:Txt K mg A):T.B8.Ok P w mg base 9 (g6 A 7):=by
 refine T.B8.go GY fun _ _ _ _ H _ Q E hr h=>?_;obtain⟨d,st,c,vc,rfl,hn,hD,hC,hR,fJ,hlen,k⟩:=h;have hu:=d6 hr;cases vc <;>cases hn;obtain⟨l,hl,eX⟩:=hR.land (by show(7:Nat)≠0;decide);have hI:=(hD.fz _ hl).2;have hL:=hI.fI;obtain⟨dc,dt,fi,bh,hc,bF,dD⟩:=id hC;rename_i b0;obtain⟨L,rfl,anu⟩:=Xi hR.g8;have ea:cv st (.plan (Vbexab.ints L))=(match J0 l 1 [] (jN L)with
  | .error n=>(st,[-1000-(n:Int)])
  | .ok r=>({st with plan:=r,planned:=true},[0,(r.length:Int)])):=by
  unfold cv kG;rw[hl];simp only;rw[Kx];cases J0 l 1 [] (jN L)<;>rfl
 rw[ea]at hlen k;refine⟨_,(af (aE 2 GY (gk (UI T) hr T.R4 T.BU (aF (aj 0)))) (af (aE 3 GY (EL (Tp T (Xf T) (Xg T) (Xh T)) (hr.mono (by decide)) Z T.tR.m T.tR.kp T.tR.b .nil jG (cS (aj 1) (pv 2) (Eg (v:=.ref A.G2) Z T.yZ.m Z)))) (af (aV (aL kN (pv 3) aH) (ak (ax (bi (aF (br iu (a6 T.R0) (pv 3)))))) aW) (af (bC (pv 0) (pv 2) Z) (af (bC (pv 0) dv Z) (ak (ax (bi (aX aH (cT T.cH (aj 2))))))))))),?_⟩
 try dsimp only[aO,Cx.aQ]
 refine(ag hI.ins T.iB Z (fun x dx nx pX xj=>⟨x,dx,d.r,l,Z,ah,fun H1 u ex U1 KL pP=>⟨Z,?_⟩⟩));have s1:aa H H1:=fun b o e=>KL b o (cy e nx) (by rw[ao (cy e nx),ao (cy e pX)];exact e);have nlx:u.lr≠x:=fun z=>by rw[z,ah]at pP;cases pP
 have nld:u.lr≠dx:=fun z=>by rw[z,ao xj,ah]at pP;cases pP
 have nl:H u.lr=none:=by rw[ao nlx,ao nld]at pP;exact pP
 subst ex;have new:∀b∈[u.lr],H b=none:=fun b m=>by rw[cA.mp m];exact nl
 have Xn:∀b∈kE d st,∃o,H b=some o:=fun b m=>by
  unfold kE at m;cases ej:st.journey with
  |none=>rw[ej]at m;cases m
  |some j=>
   rw[ej]at m;rw[cA.mp m];exact⟨_,(hI.jr j ej).log⟩
 have Xo:∀b o,H b=none→H1 b=some o→Off (kE d st) H1 b=some o:=fun b o e e1=>by
  unfold Off;rw[if_neg (fun m=>by obtain⟨o',z⟩:=Xn b m;rw[e]at z;cases z)];exact e1
 have hrs:u.rs=[]:=by
  have:=U1.rs;cases h:u.rs with
  |nil=>rfl
  |cons a b=>rw[h]at this;cases this
 have U1':eM A (Off (kE d st) H1) (u.with u.rs) d.r l []:=⟨Xo _ _ nx U1.ins,Xo _ _ nl U1.rl,by show Paired _ u.rs [];rw[hrs];exact .nil,bu _,fun _ m=>nomatch m⟩
 have L1:bq A (Off [u.lr] H1) d.r l:=hL.same (Off.new s1 new);refine(ag (s1 _ _ hc) T.wu Z ?_);refine⟨iE,fun H pl=>∃rs,bq A (Off [u.lr] H) d.r l∧eM A (Off (kE d st) H) (u.with rs) d.r l pl∧∀b∈kE d st,∃o,H b=some o,[u.lr],og l,false,fi,.ref u.a,L,[],Z,ai.of (s1 _ _ (by rw[dD];show _=some (HO.lst (nats L));rw[uE];rfl)),by lia,anp,⟨u.rs,L1,U1',fun b m=>let ⟨o,e⟩:=Xn b m;⟨o,s1 _ _ e⟩⟩,fun pl e H2 uO=>?_,fun n e H2 uO=>?_⟩;rotate_left
 ·have n1:=DU e;rw[Dt hI.x _ _ _ (bu _)]at e;rw[e]at k;have s2:=bJ.new s1 new uO;refine⟨_,_,Z,Z,_,Z,bK (fun h=>?_) (fun h=>absurd (show(0:Int)<((n:Nat):Int) by lia) h)⟩;exact⟨_,_,Z,Z,be,fun p np=>k.same hD (s2.trans (aa.upd np)) (aa.free s2 np) (by rw[ah];rfl)⟩
 ·rintro⟨rs,_,U2,_⟩;rw[Dt hI.x _ _ _ (bu _)]at e;rw[e]at k;simp only at k;have s2:=bJ.new s1 new uO;refine⟨_,_,Z,Z,_,Z,bK (fun h=>absurd (show(0:Int)<0 from h) (by decide)) (fun _=>?_)⟩;have hd2:H2 d.a=some (.ins A.cf d.dx [("land",V.ref d.r.a),("needs",V.ref d.n.a),("plan",V.ref d.u.a),("plan_told",V.bl st.planned),("journey",jv d st)]):=s2 _ _ hI.ins;refine(bD hd2 T.qQ ?_);obtain⟨f3,kX,rQ⟩:=uN hd2 Z (o:=.ins A.cf d.dx (dZ (aZ "plan") (V.ref u.a) [("land",(V.ref d.r.a)),("needs",(V.ref d.n.a)),("plan",(V.ref d.u.a)),("plan_told",(V.bl st.planned)),("journey",(jv d st))]));generalize upd H2 d.a (.ins A.cf d.dx (dZ (aZ "plan") (V.ref u.a) [("land",(V.ref d.r.a)),("needs",(V.ref d.n.a)),("plan",(V.ref d.u.a)),("plan_told",(V.bl st.planned)),("journey",(jv d st))]))=H3 at*;have rQ:H3 d.a=some (.ins A.cf d.dx [("land",(V.ref d.r.a)),("needs",(V.ref d.n.a)),("plan",(V.ref u.a)),("plan_told",(V.bl st.planned)),("journey",(jv d st))]):=rQ;refine(bD rQ T.Cu ?_);obtain⟨f4,DM,uP⟩:=uN rQ Z (o:=.ins A.cf d.dx (dZ (aZ "plan_told") (V.bl true) [("land",(V.ref d.r.a)),("needs",(V.ref d.n.a)),("plan",(V.ref u.a)),("plan_told",(V.bl st.planned)),("journey",(jv d st))]));generalize upd H3 d.a (.ins A.cf d.dx (dZ (aZ "plan_told") (V.bl true) [("land",(V.ref d.r.a)),("needs",(V.ref d.n.a)),("plan",(V.ref u.a)),("plan_told",(V.bl st.planned)),("journey",(jv d st))]))=H4 at*;have uP:H4 d.a=some (.ins A.cf d.dx [("land",(V.ref d.r.a)),("needs",(V.ref d.n.a)),("plan",(V.ref u.a)),("plan_told",(V.bl true)),("journey",(jv d st))]):=uP;have DZ:=f3.trans f4;have U4:=U2.dE DZ.off;have L4:=(hI.land.same (Off.of s2)).dE DZ.off;have N4:=(hI.fq.same s2).dE DZ;have so:bJ [d.a] H H4:=(bJ.of s2).trans (kX.trans DM);have KP:=U4.same (Off.sub _ _);refine(ag KP.ins T.qM Z ⟨_,_,Z,.inl (ai.of KP.rl),be,fun p np=>?_⟩)
  let d1:DA:=⟨d.a,d.dx,d.r,d.n,u.with rs,d.w⟩
  let eJ:cM:={st with plan:=pl,planned:=true}
  have pY:g0 A H4 d1 l eJ:=⟨uP,L4,N4,U4,hI.x,hI.pos,fun j z=>?_⟩
  ·have s5:=aa.upd (o:=.lst [V.int 0,V.int ((((u.with rs).rs).map V.ref).length:Nat)]) np;refine k _ d1 p ((gd.of (st:=eJ) hl pY).same s5) Z (fun b m=>.inl m) (fun b o e nb _=>s5 _ _ (so b o e (fun m=>nb ?_))) (gM.of ?_) ?_
   ·rw[cA.mp m];exact cI
   ·cases e:H p with
    |none=>rfl
    |some o=>
     by_cases q:p=d.a
     ·rw[q,uP]at np;cases np
     ·rw[so p o e (fun m=>q (cA.mp m))]at np;cases np
   ·rw[ah,aB,Paired.length KP.rs];rfl
  ·have J2:=(hI.jr j z).same s2;have nd:d.w.a∉[d.a]:=fun m=>tZ J2.ins hd2 (by show(6:Nat)≠5;decide) (cA.mp m);exact J2.dE DZ (fun o e=>DM _ _ (kX _ _ e nd) nd)
def rR:Nat→Option (Nat×Nat×Nat)
 |0=>some (2000,255,1)
 |7=>some (2000,255,1)
 |11=>some (40,12,1)
 |12=>some (24,15,2)
 |_=>none
theorem o9.row(TD:o9 P w K A B)(h:rR n=some t):bw (Iv B) (bL (n:Int))=some (.ref (B n))∧(t.2.2=1∨t.2.2=2)∧∀H,bV K H (B n) [.int (t.1:Nat),.int (t.2.1:Nat),.int (t.2.2:Nat)]:=by
 unfold rR at h;split at h <;>cases h
 ·exact⟨Z,.inl Z,TD.r0⟩
 ·exact⟨Z,.inl Z,TD.r7⟩
 ·exact⟨Z,.inl Z,TD.r11⟩
 ·exact⟨Z,.inr Z,TD.r12⟩
theorem Xp vc B:(bw (Iv B) (bL (numOf vc:Int))).isSome=(rR (numOf vc)).isSome:=by cases vc <;>rfl
def uQ(t:Nat×Nat×Nat)(L:List Int):Bool:=decide (L.length≤t.1)&&(decide (L.length%t.2.2=0)&&L.all fun v=>me v 0 t.2.1)
inductive Xq(vs:List V)(H:Hp)(Q:VK)(E:XK):Prop
 |mk:∀(n:Nat) (t:Nat×Nat×Nat) (rw:ae) (L:List Int),vs=[.int n,.ref rw]→rR n=some t→H rw=some (.lst (L.map V.int))→L.length≤16000→(∀H',aa H H'→Q (.bl (uQ t L)) H')→Xq vs H Q E
theorem all_bools(L:List Int)f:(L.map f).all id=L.all f:=by rw[sO];rfl
theorem anM(T:Txt K mg A)(TD:o9 P w K A B):T.Ha.Ok P w mg base 1 Xq:=by
 refine T.Ha.go wc fun _ _ _ _ H _ Q E hr h=>?_;obtain⟨n,t,rw,L,rfl,ht,dD,hL,k⟩:=h;have hu:=d6 hr;obtain⟨hv,Kk,hT⟩:=TD.row ht;refine⟨_,(af (aE 2 wc (bM vw (vY TD.y6 (a6 T.yQ) (pv 0) (fun _ _=>rfl)) aH)) (af (aE 3 wc (bM vw (vY TD.y6 (a6 T.yQ) (pv 0) (fun _ _=>rfl)) aH)) (af (aE 4 wc (bM vw (vY TD.y6 (a6 T.yQ) (pv 0) (fun _ _=>rfl)) aH)) (af (aV (fk (PW.pt (eO (aL kN (cT T.cH (pv 1)) (pv 2)) (gz (aL kM (br Zb (cT T.cH (pv 1)) (pv 4)) aH))))) (ak (ax dv)) aW) (ak (ax (gB (aaS Z) (by rfl) T.ahc aqy (aF (i8 Z wc.nd (fL (pv 1)) (hZ (N:=["number","row","most_numbers","top","together","value"]) (sc:=aG Gv) (own:=[("value",5)]) (by decide+kernel)) (fun _ _ _ _ _=>(bY 5 wc)) (fun _ _ _ _ _=>j6) (fun _ _ _ _ _=>(Zf qh qh aH (pv 5) (pv 3)))))))))))),?_⟩
 try dsimp only[aO,Cx.aQ]
 refine⟨_,_,Z,hv,B n,_,_,_,Z,Z,hT _,Z,?_⟩;refine⟨_,_,Z,hv,B n,_,_,_,Z,Z,hT _,Z,?_⟩;refine⟨_,_,Z,hv,B n,_,_,_,Z,Z,hT _,Z,?_⟩;refine⟨decide (t.1<L.length)|| !decide (L.length%t.2.2=0),fun Q' q=>?_,fun H1 s1=>?_⟩
 ·refine⟨_,_,Z,.inl (ai.of dD),_,_,Z,Z,_,Z,bK (fun h=>?_) (fun h=>?_)⟩
  ·have h:((t.1:Nat):Int)<((L.map V.int).length:Nat):=h;rw[aB]at h;have:=q H (aa.refl _);rw[decide_eq_true (show t.1<L.length by lia),abl]at this;exact this
  ·have h:¬((t.1:Nat):Int)<((L.map V.int).length:Nat):=h;rw[aB]at h;have:=q H (aa.refl _);rw[decide_eq_false (show ¬t.1<L.length by lia),gE]at this;refine⟨_,_,Z,.inl (ai.of dD),_,_,Z,Z,?_,Z,_,Z,?_⟩
   ·show(0:Int)<((t.2.2:Nat):Int)
    lia
   ·rw[aB];have e:(decide (V.int (((L.length:Nat):Int)%((t.2.2:Nat):Int))=V.int 0))=decide (L.length%t.2.2=0):=by
     refine decide_eq_decide.mpr ⟨fun z=>?_,fun z=>?_⟩
     ·have z:=V.int.inj z
      lia
     ·have:(((L.length:Nat):Int)%((t.2.2:Nat):Int))=((L.length%t.2.2:Nat):Int):=by lia
      rw[this,z];rfl
    show Q' (!decide (V.int (((L.length:Nat):Int)%((t.2.2:Nat):Int))=V.int 0)) H;rw[e];exact this
 ·refine bj (fun h=>?_) (fun h=>?_)
  ·have e:uQ t L=false:=by
    unfold uQ;rw[mC,decide_eq_true_eq,h8,decide_eq_false_iff_not]at h;rcases h with h|h
    ·rw[decide_eq_false (show ¬L.length≤t.1 by lia),i3]
    ·rw[decide_eq_false h,i3,xW]
   have:=k H1 s1;rw[e]at this;exact this
  ·have e:uQ t L=L.all fun v=>me v 0 t.2.1:=by
    unfold uQ;rw[lV,decide_eq_false_iff_not,gU,decide_eq_true_eq]at h;rw[decide_eq_true h.2,decide_eq_true (show L.length≤t.1 by lia),eE,eE]
   rw[e]at k;refine⟨rw,Z,⟨_,ai.of (s1 _ _ dD)⟩,fun D nD=>wC (n:=L.length)
    (fun i H2=>aa H1 H2∧H2 D=some (.lst (((L.take i).map fun v=>me v 0 t.2.1).map V.bl))) ⟨aa.upd nD,ah⟩ ?_ ?_ ?_ ?_⟩
   ·rintro i H2 hi ⟨s2,h2⟩;exact⟨_,V.int L[i],ai.of (s2 _ _ (s1 _ _ dD)),by rw[cR,di hi];rfl⟩
   ·rintro H2 ⟨s2,h2⟩;exact⟨_,ai.of (s2 _ _ (s1 _ _ dD)),by rw[aB];exact a9 _⟩
   ·rintro i H2 x H3 hi ⟨s2,h2⟩ ⟨rfl,hy⟩;have hy:=hy _ (ai.of (s2 _ _ (s1 _ _ dD)));obtain⟨v,hv,rfl⟩:=cY hy;have fin:∀b:Bool,b=me v 0 t.2.1→∃acc,H3 D=some (.lst acc)∧acc.length<bf∧(aa H1 (upd H3 D (.lst (acc++[V.bl b])))∧(upd H3 D (.lst (acc++[V.bl b]))) D=some (.lst (((L.take (i+1)).map fun v=>me v 0 t.2.1).map V.bl))):=fun b eb=>by
     refine⟨_,h2,?_,aa.bI s2 nD,?_⟩
     ·rw[aB,aB,eW];show _<16777216;lia
     ·rw[ah,Xr,hv,b9,b9,eb];rfl
    refine⟨Z,_,_,Z,Z,_,Z,bK (fun h=>?_) (fun h=>?_)⟩
    ·refine⟨_,_,Z,Z,fin _ ?_⟩;unfold me;rw[decide_eq_true h,eE]
    ·refine fin false ?_;unfold me;rw[decide_eq_false h,i3]
   ·rintro H2 ⟨s2,h2⟩;rw[fD]at h2;refine⟨D,_,Z,ai.of h2,?_⟩;rw[all_bools];exact k H2 (s1.trans s2)
def Ak(vc:gN):Bool:=(rR (numOf vc)).isSome
def iF(vc:gN):List Int:=(numOf vc:Int)::((cp vc).map (·.2)++(if Ak vc=true then((fh vc).length:Int)::fh vc else[]))
def Al(vc:gN):Str:=match bw Iu (bL (numOf vc:Int))with
 |some (.str x)=>x
 |_=>""
theorem anN vc:bw Iu (bL (numOf vc:Int))=some (.str (Al vc)):=by cases vc <;>rfl
theorem Xs vc:((Al vc).cps.toList.map fun c=>(⟨#[c]⟩:Str))=(cp vc).map (·.1):=by cases vc <;>rfl
theorem Xt vc:((cp vc).map (·.1)).Nodup:=by cases vc <;>exact of_decide_eq_true Z
theorem anO(h:Ak vc=false):fh vc=[]:=by cases vc <;>first|rfl|cases h
theorem KQ(s:aa H H')(h:ai K H a xs):ai K H' a xs:=by
 rcases h with(h|⟨o,h⟩)|h
 ·exact .inl (.inl (s _ _ h))
 ·exact .inl (.inr ⟨o,s _ _ h⟩)
 ·exact .inr h
theorem anP{ns x t:List Int}(h:ns.drop k=x++t)(hk:k≤ns.length):iM (ns.map V.int) (some (k:Int)) (some ((k+x.length:Nat):Int))=x.map V.int:=by
 have hl:=congrArg i5 h;rw[gj,bT]at hl;unfold iM;rw[HT.AS,HT.AS,aB,Ds hk,Ds (by lia),←akA,h,←akB,show k+x.length-k=x.length by lia,aks]
theorem anQ{L:List (Str×Int)}(nd:(L.map (·.1)).Nodup)(h:L[i]?=some y):putK (aq (L.take i)) (dq y.1) (V.int y.2)=aq (L.take (i+1)):=by
 have hi:=(du.mp h).1;unfold putK;rw[if_neg]
 ·rw[Xr,h];unfold aq;rw[b9];rfl
 ·rw[acX];rintro⟨z,hz,e⟩;have e:=of_decide_eq_true e;unfold aq at hz;obtain⟨u,hu,rfl⟩:=mB.mp hz;have e:u.1=y.1:=K8 e;obtain⟨j,hj,eu⟩:=List.mem_take_iff_getElem.mp hu;have hj2:j<L.length:=by lia
  have:j=i:=by
   refine(Yj (xs:=L.map (·.1)) (h₀:=by rw[aB];exact hj2) (h₁:=by rw[aB];exact hi) nd).mp ?_;rw[anS,anS,eu,e];rw[di hi]at h;rw[bS h]
  lia
def anT(A:aR)(H H':Hp)(c:ae)(vc:gN)(bh:Nat):Prop:=∃dx dt rw,H c=none∧H dt=none∧H rw=none∧H' c=some (.ins A.Call dx [("number",.int (numOf vc:Nat)),("told",.ref dt),("row",.ref rw),("behind",.int (bh:Nat))])∧H' dt=some (.dK (aq (cp vc)))∧H' rw=some (.lst ((fh vc).map V.int))
inductive Xu(A:aR)(K:PySem.W.Frag)(vs:List V)(H:Hp)(Q:VK)(E:XK):Prop
 |mk:∀(a:ae) (ns:List Int) (at_:Nat) (vc:gN) (t:List Int),vs=[.ref a,.int (at_:Nat)]→ai K H a (ns.map V.int)→ns.drop at_=iF vc++t→(∀H' c,aa H H'→anT A H H' c vc (at_+(iF vc).length)→Q (.ref c) H')→Xu A K vs H Q E
inductive I65_(H:Hp)(a:ae)(at_:Nat)(vc:Vbexab.Call)(dt:ae)(σ:L2.St)(H':Hp):Prop|mk v4:σ=[some (.ref a),some (.int ((at_+1+(cp vc).length:Nat):Int)),some (.int (numOf vc:Nat)),some (.ref dt),v4,none]→aa H H'→H' dt=some (.dK (aq (cp vc)))→I65_ H a at_ vc dt σ H'
inductive I66_(H:Hp)(a:ae)(at_:Nat)(vc:Vbexab.Call)(dt:ae)(i:Nat)(σ:L2.St)(H':Hp):Prop|mk v4:σ=[some (.ref a),some (.int ((at_+1+i:Nat):Int)),some (.int (numOf vc:Nat)),some (.ref dt),v4,none]→aa H H'→H' dt=some (.dK (aq ((cp vc).take i)))→I66_ H a at_ vc dt i σ H'
inductive I67_(H:Hp)(a:ae)(at_:Nat)(vc:Vbexab.Call)(dt:ae)(v4:Option V)(σ:L2.St)(H':Hp):Prop|mk q:σ=[some (.ref a),some (.int ((at_+(iF vc).length:Nat):Int)),some (.int (numOf vc:Nat)),some (.ref dt),v4,some (.ref q)]→aa H H'→H' dt=some (.dK (aq (cp vc)))→H' q=some (.lst ((fh vc).map V.int))→H q=none→I67_ H a at_ vc dt v4 σ H'
theorem anU(T:Txt K mg A)(TD:o9 P w K A B):T.G_.Ok P w mg base 3 (Xu A K):=by
 refine T.G_.go oU fun _ _ _ _ H _ Q E hr h=>?_;obtain⟨a,ns,at_,vc,t,rfl,ha,hd,k⟩:=h;have hu:=d6 hr;have Xv:∀j,ns[at_+j]?=(iF vc++t)[j]?:=fun j=>by rw[←hd,uw]
 have Vd:ns[at_]?=some (numOf vc:Int):=Xv 0;have hni:∀i y,(cp vc)[i]?=some y→ns[at_+1+i]?=some y.2:=fun i y e=>by
  rw[anW,Xv,A0 1 i];show(((cp vc).map (·.2)++_)++t)[i]?=_;have hi:=(du.mp e).1;rw[mx,EO (by rw[aB];exact hi),cR,e];rfl
 refine⟨_,(af (aE 2 oU (bM cF (pv 0) (pv 1))) (af (tD 1 oU aH u9) (af (aE 3 oU abF) (af (cJ<|eV d8 rfl (Na (vY TD.ah2 (a6 T.ahg) (pv 2) (fun _ _=>rfl))) (bY 4 oU) (af (Ba hu (pv 3) (pv 4) (bM cF (pv 0) (pv 1)) Z) (ak (tD 1 oU aH u9)))) (af (aE 5 oU (bi gA)) (af (cJ<|aV (uZ (adt TD.y6 (pv 2) (a6 T.yQ))) (af (aE 5 oU (sG vB (pv 0) (qk (br dX (pv 1) aH)) (qk (br dX (br dX (pv 1) aH) (bM cF (pv 0) (pv 1)))))) (ak (tD 1 oU (br dX aH (cT T.cH (pv 5))) u9))) aW) (ak (ax (gk (aiK T) hr T.ahP T.G9 (c8 (pv 2) (pv 3) (pv 5) (pv 1))))))))))),?_⟩
 try dsimp only[aO,Cx.aQ]
 refine⟨a,_,_,_,Z,Z,ha,bX (j:=at_) (by rw[cR,Vd];rfl),?_⟩;refine⟨_,Z,_,_,Z,Z,?_⟩;intro dt Am;have s1:=aa.upd (o:=.dK []) Am;have rO:(upd H dt (.dK [])) dt=some (.dK []):=ah;generalize upd H dt (.dK [])=H1 at*;refine⟨I65_ H a at_ vc dt,?_,?_⟩
 ·have hsz:(Al vc).cps.size=(cp vc).length:=by
   have:=congrArg i5 (Xs vc);rw[aB,aB,u1]at this;exact this
  refine⟨bL (numOf vc:Int),_,Z,anN vc,_,Z,qT (n:=(cp vc).length)
   (I66_ H a at_ vc dt) ⟨none,Z,s1,rO⟩ ?_ ?_ ?_ ?_⟩
  ·rintro i σ H' hi _;show i<(Al vc).cps.size
   lia
  ·rintro σ H' _;show(Al vc).cps.size≤_
   lia
  ·rintro i σ H' x lT hi ⟨v4,rfl,s2,h2⟩ ⟨rfl,c,hc,rfl⟩;obtain⟨y,hy⟩:∃y,(cp vc)[i]?=some y:=⟨_,di hi⟩
   have hk:(⟨#[c]⟩:Str)=y.1:=by
    have:=congrArg (fun l=>l[i]?) (Xs vc);simp only[cR,hy,Array.getElem?_toList,hc,i_,gF]at this;exact this
   refine⟨a,_,_,_,Z,Z,KQ s2 ha,bX (j:=at_+1+i) (by rw[cR,hni i y hy];rfl),dt,_,Z,nA.k (k:=dq (⟨#[c]⟩:Str)) h2 ?_,?_⟩
   ·unfold aq;rw[aB,eW];have:(cp vc).length≤6:=by cases vc <;>exact of_decide_eq_true Z
    show _<16777216;lia
   ·rw[hk,anQ (Xt vc) hy];refine⟨_,Z,_,_,Z,Z,some (.str y.1),Z,aa.bI s2 Am,ah⟩
  ·rintro σ H' ⟨v4,rfl,s2,h2⟩;rw[fD]at h2;exact⟨v4,Z,s2,h2⟩
 rintro σ H2 ⟨v4,rfl,s2,h2⟩;refine⟨bu _,fun q1 mW=>?_⟩;have nq0:=aa.free s2 mW;have s3:=aa.bI (o:=.lst []) s2 (aa.free s2 mW);have Xw:(upd H2 q1 (.lst [])) dt=some (.dK (aq (cp vc))):=aa.upd mW _ _ h2;have hq3:(upd H2 q1 (.lst [])) q1=some (.lst []):=ah;generalize upd H2 q1 (.lst [])=H3 at*;refine⟨I67_ H a at_ vc dt v4,?_,?_⟩
 ·refine⟨bL (numOf vc:Int),Z,_,Z,dR (Xp vc B) ?_⟩;refine bj (fun h=>?_) (fun h=>?_)
  ·have cz:iF vc=(numOf vc:Int)::((cp vc).map (·.2)++((fh vc).length:Int)::fh vc):=by
    unfold iF;rw[if_pos (show Ak vc=true from h)]
   have DJ:ns.drop (at_+1+(cp vc).length)=((fh vc).length:Int)::(fh vc++t):=by
    rw[anW,←yl,hd,cz,A0 1];show List.drop (cp vc).length (((cp vc).map (·.2)++((fh vc).length:Int)::fh vc)++t)=_;have e:=anZ (l₁:=(cp vc).map (·.2)) (l₂:=((fh vc).length:Int)::(fh vc++t));rw[aB]at e;rw[mx];exact e
   have Xx:ns[at_+1+(cp vc).length]?=some ((fh vc).length:Int):=by
    have:=congrArg (fun l=>l[0]?) DJ;simp only[uw]at this;exact this
   have an0:ns.drop (at_+1+(cp vc).length+1)=fh vc++t:=by
    rw[←yl,DJ];rfl
   have cW:=(du.mp Xx).1;refine⟨_,_,Z,Z,((at_+1+(cp vc).length+1:Nat):Int),Z,?_⟩;refine⟨_,_,Z,Z,a,_,_,_,Z,Z,KQ s3 ha,bX (j:=at_+1+(cp vc).length) (by rw[cR,Xx];rfl),_,_,Z,Z,((at_+1+(cp vc).length+1+(fh vc).length:Nat):Int),Z,a,_,Z,KQ s3 ha,fun q nq=>?_⟩;rw[anP an0 cW];refine⟨_,Z,_,_,Z,.inl (ai.of ah),_,_,Z,Z,_,_,Z,Z,q,?_,s3.trans (aa.upd nq),aa.upd nq _ _ Xw,ah,aa.free s3 nq⟩;have e1:(((at_+1+(cp vc).length:Nat):Int)+(1+(((fh vc).map V.int).length:Nat)))=((at_+(iF vc).length:Nat):Int):=by
    rw[cz,b6,bT,b6,aB,aB];lia
   show([some (.ref a),some (.int (((at_+1+(cp vc).length:Nat):Int)+(1+(((fh vc).map V.int).length:Nat)))),some (.int (numOf vc:Nat)),some (.ref dt),v4,some (.ref q)]:L2.St)=_;rw[e1]
  ·refine⟨q1,?_,s3,Xw,?_,nq0⟩
   ·have e1:(at_+1+(cp vc).length:Nat)=at_+(iF vc).length:=by
     unfold iF;rw[if_neg (show ¬Ak vc=true by rw[show Ak vc=false from h];decide),gi,b6,aB];lia
    show([some (.ref a),some (.int ((at_+1+(cp vc).length:Nat):Int)),some (.int (numOf vc:Nat)),some (.ref dt),v4,some (.ref q1)]:L2.St)=_;rw[e1]
   ·rw[anO h];exact hq3
 rintro σ H4 ⟨q,rfl,s4,an1,hq4,nq4⟩;refine(fun x dx nx pX xj=>⟨x,dx,_,_,_,_,Z,ah,fun H5 hx Kp=>⟨Z,?_⟩⟩);have s5:aa H4 H5:=aa.make (C:=A.Call) (fs:=[]) nx pX Kp;exact k H5 x (s4.trans s5) ⟨dx,dt,q,aa.free s4 nx,Am,nq4,hx,s5 _ _ an1,s5 _ _ hq4⟩
def lA(x:Str):Int:=match bw Cv (dq x)with
 |some (.int t)=>t
 |_=>0
theorem an4 vc:∀y∈cp vc,bw Cv (dq y.1)=some (.int (lA y.1)):=by
 have h:∀x∈(["p","s","b","f","t","q","k","x"]:List Str),bw Cv (dq x)=some (.int (lA x)):=by
  intro x m;simp only[b_,List.not_mem_nil,or_false]at m;rcases m with rfl|rfl|rfl|rfl|rfl|rfl|rfl|rfl <;>rfl
 have k:((cp vc).map (·.1)).all (fun x=>(["p","s","b","f","t","q","k","x"]:List Str).contains x)=true:=by cases vc <;>rfl
 intro y m;rw[jC]at k;exact h _ (zf.mp (k _ (an5 m)))
def D0(vc:gN):Bool:=match rR (numOf vc)with
 |none=>true
 |some t=>uQ t (fh vc)
def pZ(y:Str×Int):Bool:=me y.2 0 (lA y.1)
theorem an6 vc:Kt vc=((cp vc).all pZ&&D0 vc):=by
 have e1:lA "p"=6:=Z;have e2:lA "s"=15:=Z;have e3:lA "b"=8:=Z;have e4:lA "f"=60:=Z;have e5:lA "t"=15:=Z;have e6:lA "q"=6:=Z;have e7:lA "k"=12:=Z;have e8:lA "x"=1:=Z;cases vc <;>delta Kt cp D0 rR numOf fh <;>simp only[mr,List.all_nil,pZ,e1,e2,e3,e4,e5,e6,e7,e8,uQ,IF,eE,Bool.and_assoc,Nat.mod_one,decide_true,WQ,WR,amg,amh,Xj,Bool.decide_and]<;>rfl
theorem Xy:∀{L},(L.map (·.1)).Nodup→y∈L→bw (aq L) (dq y.1)=some (V.int y.2)
 |[],_,m=>nomatch m
 |z::L,nd,m=>by
  rw[dw,vm]at nd;rcases b_.mp m with rfl|m
  ·exact kP Z
  ·refine(kQ (fun e=>?_)).trans (Xy nd.2 m);have e:z.1=y.1:=K8 e;exact nd.1 (by rw[e];exact an5 m)
inductive Xz(A:aR)(vs:List V)(H:Hp)(Q:VK)(E:XK):Prop
 |mk:∀(c:ae) (vc:gN),vs=[.ref c]→rJ A H c vc→(fh vc).length≤16000→(∀H',aa H H'→Q (.bl (Kt vc)) H')→Xz A vs H Q E
inductive I68_(H:Hp)(c:ae)(vc:Vbexab.Call)(σ:L2.St)(H':Hp):Prop|mk v1:σ=[some (.ref c),v1]→aa H H'→(cp vc).all pZ=true→I68_ H c vc σ H'
inductive I69_(c:ae)(vc:Vbexab.Call)(HL:Hp)(i:Nat)(σ:L2.St)(H':Hp):Prop|mk v1:σ=[some (.ref c),v1]→aa HL H'→((cp vc).take i).all pZ=true→I69_ c vc HL i σ H'
theorem an7(T:Txt K mg A)(TD:o9 P w K A B):T.Hb.Ok P w mg base 2 (Xz A):=by
 refine T.Hb.go Qp fun _ _ _ _ H _ Q E hr h=>?_;obtain⟨c,vc,rfl,hC,hl,k⟩:=h;have hu:=d6 hr;obtain⟨dc,dt,fi,bh,hc,bF,dD⟩:=id hC;rw[an6]at k;refine⟨_,(af (cJ<|abK<|eV d8 rfl (aco (aj 0)) (bY 1 Qp) (ak (aV (fk (PW.pt (eO (aL jz (eD hu (aj 0) (pv 1)) aH) (gz (aL kN (eD hu (aj 0) (pv 1)) (vY TD.ah3 (a6 T.ahh) (pv 1) (fun _ _=>rfl))))))) (ak (ax dv)) aW))) (ak (ax (IG (Ll (Lk (adu TD.y6 (aj 0) (a6 T.yQ))) (xD (aI (anM T TD) hr T.Ha (aX (aj 0) (aj 0))))))))),?_⟩
 try dsimp only[aO,Cx.aQ]
 refine⟨I68_ H c vc,?_,?_⟩
 ·refine⟨dt,_,bF,trivial,fun od=>?_⟩;have ncd:c≠dt:=cE hc bF (by intro z;cases z);have back:∀H',(∀b o,H b=some o→b≠dt→H' b=some o)→aa H (upd H' dt (.dK (aq (cp vc)))):=fun H' q b o e=>by
   by_cases z:b=dt
   ·subst z;rw[ah,←bF,e]
   ·rw[ao z];exact q b o e z
  have An:(upd H dt (.bE od (.dK (aq (cp vc))))) c=some (.ins A.Call dc [("number",.int (numOf vc:Nat)),("told",.ref dt),("row",.ref fi),("behind",.int (bh:Nat))]):=(ao ncd).trans hc;have xm:(upd H dt (.bE od (.dK (aq (cp vc))))) dt=some (.bE od (.dK (aq (cp vc)))):=ah;have sL:∀b o,H b=some o→b≠dt→(upd H dt (.bE od (.dK (aq (cp vc))))) b=some o:=fun b o e n=>(ao n).trans e;generalize upd H dt (.bE od (.dK (aq (cp vc))))=HL at*;refine(ag An T.gS Z ⟨dt,od,Z,.inl ⟨_,xm,qT (n:=(cp vc).length)
   (I69_ c vc HL) ⟨none,Z,aa.refl _,Z⟩ ?_ ?_ ?_ ?_⟩⟩)
  ·rintro i σ H' hi ⟨v1,rfl,s1,_⟩;exact⟨s1 _ _ xm,by unfold aq;rw[aB];exact hi⟩
  ·rintro σ H' ⟨v1,rfl,s1,_⟩;exact⟨s1 _ _ xm,by unfold aq;rw[aB];exact a9 _⟩
  ·rintro i σ H' x lT hi ⟨v1,rfl,s1,d7⟩ ⟨rfl,kk,v,qv,rfl⟩;unfold aq at qv;obtain⟨y,hy,e⟩:=cY qv;cases e;have hm:=dI hy;have hg:fW lT dt (V.str y.1) (some (V.int y.2)):=.inl ⟨_,dq y.1,.inr ⟨od,s1 _ _ xm⟩,Z,(Xy (Xt vc) hm).symm⟩;have an9:=an4 vc y hm;have pV:=s1 _ _ An;refine⟨!pZ y,fun Q' q=>?_,fun H2 s2=>?_⟩
   ·have q:=q lT (aa.refl _);unfold pZ me at q;refine(ag pV T.gS Z ⟨dt,_,Z,hg,_,_,Z,Z,_,Z,bK (fun h=>?_) (fun h=>?_)⟩)
    ·rw[decide_eq_false (show ¬0≤y.2 by lia),i3]at q;exact q
    ·rw[decide_eq_true (show 0≤y.2 by lia),eE]at q;refine(ag pV T.gS Z ⟨dt,_,Z,hg,dq y.1,_,Z,an9,_,_,Z,Z,_,Z,?_⟩);have e:(!decide (y.2≤lA y.1))=decide (lA y.1<y.2):=by
      rw[←decide_not];exact decide_eq_decide.mpr (by lia)
     rw[e]at q;exact q
   ·refine bj (fun h=>?_) (fun h=>?_)
    ·rw[h8]at h;have e:(cp vc).all pZ=false:=by
      cases z:(cp vc).all pZ with
      |false=>rfl
      |true=>rw[jC.mp z y hm]at h;cases h
     rw[e,i3]at k;exact⟨s2 _ _ (s1 _ _ xm),k _ (back H2 (fun b o e n=>s2 _ _ (s1 _ _ (sL b o e n))))⟩
    ·rw[gU]at h;refine⟨some (.str y.1),Z,s1.trans s2,?_⟩;rw[Xr,hy,aj3,d7];show(true&&(pZ y&&true))=true;rw[h];rfl
  ·rintro σ H' ⟨v1,rfl,s1,d7⟩;rw[fD]at d7;exact⟨s1 _ _ xm,v1,Z,back H' (fun b o e n=>s1 _ _ (sL b o e n)),d7⟩
 rintro σ H1 ⟨v1,rfl,s1,d7⟩;rw[d7,eE]at k;have pV:=s1 _ _ hc;refine⟨.bl (D0 vc),fun Q' q=>?_,fun H2 s2=>k H2 (s1.trans s2)⟩;unfold D0 at q;have Bc:=Xp vc B;refine(ag pV T.y3 Z ⟨bL (numOf vc:Int),Z,_,Z,dR (congrArg (!·) Bc) ?_⟩);cases e:rR (numOf vc)with
 |none=>
  rw[e]at q;exact cP (q H1 (aa.refl _))
 |some t=>
  rw[e]at q;refine cV ?_;exact(ag pV T.y3 Z (ag pV T.wu Z ⟨_,t,fi,fh vc,Z,e,s1 _ _ dD,hl,q⟩))
inductive XA(A:aR)(vs:List V)(H:Hp)(Q:VK)(E:XK):Prop
 |mk:∀(r:LA) (l:aJ) (dt:ae) (vc:gN) (y:Int×Int×Option Int),vs=[.ref r.a,.ref dt]→bq A H r l→H dt=some (.dK (aq (cp vc)))→om vc=some y→(∀H',aa H H'→Q (.bl (pT l y)) H')→XA A vs H Q E
theorem an_(h:om vc=some y):bw (aq (cp vc)) (dq "p")=some (.int y.1)∧bw (aq (cp vc)) (dq "s")=some (.int y.2.1)∧bw (aq (cp vc)) (dq "f")=y.2.2.map V.int:=by
 cases vc <;>first|(cases h;done)|(cases h;exact⟨rfl,rfl,rfl⟩)
theorem aoa vc:(bw (aq (cp vc)) (dq "p")).isSome=(om vc).isSome:=by cases vc <;>rfl
theorem aob(T:Txt K mg A):T.Ic.Ok P w mg base 2 (XA A):=by
 refine T.Ic.go aeS fun _ _ _ _ H _ Q E hr h=>?_;obtain⟨r,l,dt,vc,y,rfl,hL,bF,hy,k⟩:=h;have hu:=d6 hr;obtain⟨kp,ks,kf⟩:=an_ hy;refine⟨_,(af (aV (fk (PW.pt (eO (aL xI (eD hu (pv 1) bG) (cT T.cH (aj 0))) (gz (aL kN (eD hu (pv 1) bG) (aI (aki T) hr T.Hr (aF (pv 0)))))))) (ak (ax dv)) aW) (ak (ax (IG (Ll (Lk (yc hu bG (pv 1))) (xD (nI qh (eD hu (pv 1) bG) (aj 0)))))))),?_⟩
 try dsimp only[aO,Cx.aQ]
 refine⟨!Vbexab.there l y.1 y.2.1,fun Q' q=>?_,fun H1 s1=>?_⟩
 ·unfold Ks at q;refine⟨dt,_,Z,fA bF kp,ag hL.ins T.jd Z ⟨_,_,Z,.inl (ai.of hL.pl),_,_,Z,Z,_,Z,bK (fun h=>?_) (fun h=>?_)⟩⟩
  ·have q:=q H (aa.refl _);rw[l8]at h;rw[decide_eq_false (show ¬y.1<(l.places.length:Int) by lia),i3]at q;exact q
  ·rw[l8]at h;rw[decide_eq_true (show y.1<(l.places.length:Int) by lia),eE]at q;refine⟨dt,_,Z,fA bF ks,r,l,Z,hL,fun H1 s1=>⟨_,_,Z,Z,_,Z,?_⟩⟩;have q:=q H1 s1;have e:(!decide (y.2.1<((2^l.caches.length:Nat):Int)))=decide (((2^l.caches.length-1:Nat):Int)<y.2.1):=by
    have:=Nat.two_pow_pos l.caches.length;rw[←decide_not];exact decide_eq_decide.mpr (by lia)
   rw[e]at q;exact q
 ·unfold pT at k;refine bj (fun h=>?_) (fun h=>?_)
  ·rw[h8]at h;rw[h,i3]at k;exact k H1 s1
  ·rw[gU]at h;rw[h,eE]at k;refine⟨.bl (match y.2.2 with|none=>true|some f=>decide (f≤(l.most:Int))),fun Q' q=>?_,fun H2 s2=>k H2 (s1.trans s2)⟩;refine⟨dt,_,Z,fW.k (k:=dq "f") (s1 _ _ bF),_,Z,?_⟩;rw[kf];cases e:y.2.2 with
   |none=>
    rw[e]at q;exact cP (q H1 (aa.refl _))
   |some f=>
    rw[e]at q kf;refine cV ?_;exact⟨dt,_,Z,fA (s1 _ _ bF) kf,ag (s1 _ _ hL.ins) T.o6 Z ⟨_,_,Z,Z,q H1 (aa.refl _)⟩⟩
def XB(A:aR):Nat→aM
 |0=>A.Q_
 |1=>A.Rb
 |2=>A.Rf
 |3=>A.Rh
 |4=>A.Rj
 |5=>A.Rl
 |6=>A.Rn
 |7=>A.Rp
 |8=>A.Rr
 |9=>A.Ru
 |10=>A.Rw
 |11=>A.Ry
 |12=>A.RB
 |13=>A.RD
 |14=>A.RF
 |15=>A.RH
 |16=>A.RJ
 |17=>A.RL
 |_=>A.RN
def XC:Nat→Nat
 |0=>0
 |1=>1
 |2=>2
 |3=>3
 |4=>4
 |5=>5
 |6=>6
 |7=>7
 |8=>8
 |9=>9
 |10=>10
 |11=>11
 |12=>12
 |13=>13
 |14=>14
 |15=>15
 |16=>16
 |17=>17
 |_=>18
theorem aoc(T:Txt K mg A):∀j,fC P w K mg base jE 11 (gn A j) (XB A j) ["desk","call"] (g6 A (XC j))
 |0=>(ant T).mono (by decide)
 |1=>(amo T).mono (by decide)
 |2=>(amr T).mono (by decide)
 |3=>(amC T).mono (by decide)
 |4=>(amF T).mono (by decide)
 |5=>(amP T).mono (by decide)
 |6=>(amS T).mono (by decide)
 |7=>(anH T).mono (by decide)
 |8=>(amq T).mono (by decide)
 |9=>(ams T).mono (by decide)
 |10=>(amt T).mono (by decide)
 |11=>(amu T).mono (by decide)
 |12=>(amv T).mono (by decide)
 |13=>(amW T).mono (by decide)
 |14=>(am5 T).mono (by decide)
 |15=>(am9 T).mono (by decide)
 |16=>(anf T).mono (by decide)
 |17=>(amx T).mono (by decide)
 |_+18=>(am7 T).mono (by decide)
theorem aod(T:Txt K mg A):∀j,PySem.W.keepIn K (.ref (gn A j))=true
 |0=>T.B1.kp
 |1=>T.B2.kp
 |2=>T.B3.kp
 |3=>T.B4.kp
 |4=>T.B5.kp
 |5=>T.B6.kp
 |6=>T.B7.kp
 |7=>T.B8.kp
 |8=>T.B9.kp
 |9=>T.B_.kp
 |10=>T.Ca.kp
 |11=>T.Cb.kp
 |12=>T.Cc.kp
 |13=>T.Cd.kp
 |14=>T.Cf.kp
 |15=>T.Cg.kp
 |16=>T.Ci.kp
 |17=>T.Cj.kp
 |_+18=>T.Ck.kp
theorem aoe(T:Txt K mg A):∀j,Binds K (XB A j) ["desk","call"] []
 |0=>T.B1.b
 |1=>T.B2.b
 |2=>T.B3.b
 |3=>T.B4.b
 |4=>T.B5.b
 |5=>T.B6.b
 |6=>T.B7.b
 |7=>T.B8.b
 |8=>T.B9.b
 |9=>T.B_.b
 |10=>T.Ca.b
 |11=>T.Cb.b
 |12=>T.Cc.b
 |13=>T.Cd.b
 |14=>T.Cf.b
 |15=>T.Cg.b
 |16=>T.Ci.b
 |17=>T.Cj.b
 |_+18=>T.Ck.b
theorem aof A vc:bw (R7 A) (bL (numOf vc:Int))=some (.ref (gn A (numOf vc)))∧numOf vc=XC (numOf vc):=by cases vc <;>exact⟨Z,Z⟩
theorem aog{st:cM}(h:st.land=none)(n:numOf vc≠0):cv st vc=(st,[-2]):=by
 cases vc <;>first
  |exact absurd rfl n
  |(unfold cv;simp only[DP,uL,kG,h])
theorem aoh{st:cM}(h:st.land=some (l,t))(e:om vc=some y)(hf:pT l y=false):cv st vc=(st,[-3]):=by
 unfold pT at hf;rw[Bool.and_eq_false_iff]at hf;cases vc <;>first
  |(cases e;done)
  |(cases e
    simp only at hf;unfold cv;simp only[DP,kG,h];rw[if_pos (by
    rcases hf with q|q
    ·first|exact .inl q|exact q
    ·first|(cases q;done)|exact .inr (by have:=of_decide_eq_false q;lia))])
theorem Out.at{st ci:cM}(k:Out A H d st ci uI Q)(s:aa H H1):Out A H1 d st ci uI Q:=fun H' d' p q1 q2 q3 q4 q5 q6=>
 k H' d' p q1 q2 (fun b m=>(q3 b m).imp_right (gM.back (ba.of s))) ((kF.of s).trans q4) (gM.back (ba.of s) q5) q6
inductive XD(A:aR)(vs:List V)(H:Hp)(Q:VK)(E:XK):Prop
 |mk:∀(d:DA) (st:cM) (c:ae) (vc:gN),vs=[.ref d.a,.ref c]→gd A H d st→rJ A H c vc→(fh vc).length≤16000→(∀j,st.journey=some j→j.log.length≤1000)→(gv st vc).2.length≤10000000→Out A H d st (gv st vc).1 (gv st vc).2 Q→XD A vs H Q E
theorem aoi(T:Txt K mg A)(TD:o9 P w K A B):T.Ie.Ok P w mg base 12 (XD A):=by
 refine T.Ie.go QL fun _ _ _ _ H _ Q E hr h=>?_;obtain⟨d,st,c,vc,rfl,hD,hC,zm,fJ,hlen,k⟩:=h;have hu:=d6 hr;refine⟨_,(af (aV (jX (gg (aI (an7 T TD) hr T.Hb (aF (pv 1))))) (ak (ax (bi (aF (a6 T.ahJ))))) aW) (af (aV (fk (PW.pt (jW (aL kM (aj 1) (a6 T.ahN)) (jV (aL de (aj 0) bp))))) (ak (ax (bi (aF (a6 T.ahK))))) aW) (af (aV (fk (PW.pt (jW (uZ (abB hu bG (aj 1))) (jV (jX (gg (aI (aob T) hr T.Ic (aX (aj 0) (aj 1))))))))) (ak (ax (bi (aF (a6 T.ahL))))) aW) (af (aE 2 QL (vY TD.ah4 (a6 T.ahO) (aj 1) (fun _ _=>rfl))) (ak (ax (Ob 2 (aoc T) (hr.mono (by decide)) (aod T) (aoe T) .nil jG (aX (pv 0) (pv 1))))))))),?_⟩
 try dsimp only[aO,Cx.aQ]
 refine⟨c,vc,Z,hC,zm,fun H1 s1=>⟨_,Z,?_⟩⟩;have k1:=k.at s1;have rN:=hD.same s1;have KR:=hC.same s1;clear hD hC k;refine bj (fun h=>?_) (fun h=>?_)
 ·rw[h8]at h;have e:gv st vc=(st,[-1]):=by unfold gv;rw[if_pos h]
  rw[e]at k1;exact⟨be,fun p np=>k1.same rN (aa.upd np) np (by rw[ah];rfl)⟩
 rw[gU]at h;have e:gv st vc=cv st vc:=by unfold gv;rw[if_neg (by rw[h];decide)]
 rw[e]at k1 hlen;clear e;obtain⟨v1,v2,v3,v4,v5,DV,xh⟩:∃v1 v2 v3 v4 v5,H1 d.a=some (.ins A.cf d.dx [("land",v1),("needs",v2),("plan",v3),("plan_told",v4),("journey",v5)])∧v1=(match st.land with|none=>V.aC|some _=>.ref d.r.a):=by
  cases e:st.land with
  |none=>exact⟨_,_,_,_,_,(rN.aC e).1,Z⟩
  |some x=>exact⟨_,_,_,_,_,(rN.fz x e).2.ins,Z⟩
 obtain⟨dc,dt,fi,bh,hc,bF,dD⟩:=id KR;refine⟨!decide (numOf vc=0)&&st.land.isNone,fun Q' q=>?_,fun H2 s2=>?_⟩
 ·have q:=q H1 (aa.refl _);refine(ag hc T.y3 Z ⟨Z,_,Z,jL (fun z=>?_) (fun z=>?_)⟩)
  ·rw[decide_eq_false (show ¬numOf vc=0 from fun w=>z (by rw[w];rfl)),aoj,eE]at q;refine(ag DV T.iB Z ⟨Z,_,Z,?_⟩);rw[xh];cases e:st.land with
   |none=>rw[e]at q;exact q
   |some x=>rw[e]at q;exact q
  ·rw[decide_eq_true (show numOf vc=0 from KA (V.int.inj z)),OF,i3]at q;exact q
 have k2:=k1.at s2;have D1:=rN.same s2;refine bj (fun z=>?_) (fun z=>?_)
 ·obtain⟨z1,z2⟩:=cC z;rw[h8,decide_eq_false_iff_not]at z1;rw[aog (zi.mp z2) z1]at k2;exact⟨be,fun p np=>k2.same D1 (aa.upd np) np (by rw[ah];rfl)⟩
 have KS:numOf vc≠0→∃l,st.land=some (l,a8 l):=fun n=>by
  rw[decide_eq_false n,aoj,eE]at z;cases e:st.land with
  |none=>rw[e]at z;cases z
  |some x=>
   have:=(D1.fz x e).1;exact⟨x.1,by rw[←this]⟩
 have XE:(om vc).isSome=true→numOf vc≠0:=by cases vc <;>intro a b <;>first|(cases b;done)|(cases a;done)
 have aok:=s2 _ _ DV;have vZ:=s2 _ _ hc;have XF:=s2 _ _ bF;have hC2:=KR.same s2;clear rN k1 KR;refine⟨(om vc).isSome&& !(match st.land,om vc with|some x,some y=>pT x.1 y|_,_=>true),fun Q' q=>?_,fun H3 s3=>?_⟩
 ·refine(ag vZ T.gS Z ⟨dt,_,Z,fW.k (k:=dq "p") XF,_,Z,?_⟩);rw[aoa];cases e:om vc with
  |none=>
   rw[e]at q;exact cV (q H2 (aa.refl _))
  |some y=>
   obtain⟨l,hl⟩:=KS (XE (by rw[e];rfl));rw[e,hl]at q;rw[hl]at xh;simp only at xh;subst xh;refine cP ?_;exact(ag aok T.iB Z (ag vZ T.gS Z ⟨d.r,l,dt,vc,y,Z,(D1.fz _ hl).2.fI,XF,e,fun H3 s3=>⟨_,Z,q H3 s3⟩⟩))
 have k3:=k2.at s3;have iT:=D1.same s3;refine bj (fun z3=>?_) (fun z3=>?_)
 ·obtain⟨z1,z2⟩:=cC z3;obtain⟨l,hl⟩:=KS (XE z1);cases e:om vc with
  |none=>rw[e]at z1;cases z1
  |some y=>
   rw[hl,e,h8]at z2;rw[aoh hl e z2]at k3;exact⟨be,fun p np=>k3.same iT (aa.upd np) np (by rw[ah];rfl)⟩
 obtain⟨av,an⟩:=aof A vc;refine(ag (s3 _ _ vZ) T.y3 Z ⟨bL (numOf vc:Int),_,Z,av,?_⟩);refine⟨numOf vc,Z,d,st,c,vc,Z,an,iT,hC2.same s3,⟨h,fun n=>?_⟩,fJ,hlen,k3⟩;obtain⟨l,hl⟩:=KS n;refine⟨l,hl,fun y ey=>?_⟩;rw[hl,ey]at z3;cases f:pT l y with
 |true=>rfl
 |false=>simp only[f]at z3;cases z3
def mf(H H':Hp):Prop:=∀b o,H b=some o→(∀od u,o≠.bE od u)→H' b=some o
theorem Off.gO(s:mf H H'):mf (Off O H) (Off O H'):=fun b o e n=>by
 unfold Off at e ⊢;split at e
 ·cases e
 ·rename_i hb;rw[if_neg hb];exact s b o e n
theorem c9.gO(s:mf H H')(h:c9 A H a x):c9 A H' a x:=let ⟨d,e⟩:=h;⟨d,s _ _ e (by intro od u z;cases z)⟩
theorem dO.gO(s:mf H H')(h:dO A H a x):dO A H' a x:=let ⟨d,e⟩:=h;⟨d,s _ _ e (by intro od u z;cases z)⟩
theorem bq.gO(s:mf H H')(h:bq A H r l):bq A H' r l:=
 ⟨s _ _ h.ins (by intro od u z;cases z),s _ _ h.pl (by intro od u z;cases z),s _ _ h.lg (by intro od u z;cases z),cG (fun _ _ q=>let ⟨d,e⟩:=q;⟨d,s _ _ e (by intro od u z;cases z)⟩) h.gs,
  s _ _ h.ch (by intro od u z;cases z),cG (fun _ _ q=>let ⟨d,e⟩:=q;⟨d,s _ _ e (by intro od u z;cases z)⟩) h.cs,h.ok⟩
theorem eL.gO(s:mf H H')(h:eL A H a x):eL A H' a x:=let ⟨d,e⟩:=h;⟨d,s _ _ e (by intro od u z;cases z)⟩
theorem gq.gO(s:mf H H')(h:gq A H a x):gq A H' a x:=
 let ⟨u,e,q⟩:=h;⟨u,e,⟨s _ _ q.ins (by intro od u z;cases z),s _ _ q.cl (by intro od u z;cases z),cG (R:=eL A) (fun _ _ z=>z.gO s) q.cs,s _ _ q.kl (by intro od u z;cases z)⟩⟩
theorem eM.gO(s:mf H H')(h:eM A H u r l pl):eM A H' u r l pl:=
 ⟨s _ _ h.ins (by intro od u z;cases z),s _ _ h.rl (by intro od u z;cases z),cG (R:=fun H=>gq A (Off [u.lr] H)) (fun _ _ z=>z.gO (Off.gO s)) h.rs,h.k_,h.ok⟩
theorem bR.gO(s:mf H H')(h:bR A H n r l):bR A H' n r l:=
 ⟨s _ _ h.ins (by intro od u z;cases z),s _ _ h.lv (by intro od u z;cases z),s _ _ h.cs (by intro od u z;cases z),h.ne,fun k v e=>let ⟨s0,b,a,q1,q2,q3,q4,q5⟩:=h.pB k v e;⟨s0,b,a,q1,q2,q3,q4,s _ _ q5 (by intro od u z;cases z)⟩,
  fun k v e=>let ⟨s0,b,a,q1,q2,q3,q4,q5⟩:=h.pC k v e;⟨s0,b,a,q1,q2,q3,q4,s _ _ q5 (by intro od u z;cases z)⟩,h.both,h.qZ,h.q_⟩
theorem gZ.gO(s:mf H H'){w:JA}(h:gZ A H l w j):gZ A H' l w j:=
 ⟨s _ _ h.ins (by intro od u z;cases z),h.io.gO s,by
  have:=h.dJ;cases e:j.on with
  |none=>rw[e]at this;exact this
  |some g=>rw[e]at this;exact let ⟨b,e,q,m⟩:=this;⟨b,e,q.gO s,m⟩,h.tk,h.nl,s _ _ h.log (by intro od u z;cases z),cG (R:=ma) (fun _ _ z=>s _ _ z (by intro od u z;cases z)) h.ents,h.ok,h.fm⟩
theorem gd.gO(s:mf H H'){st:cM}(h:gd A H d st):gd A H' d st:=
 ⟨fun e=>⟨s _ _ (h.aC e).1 (by intro od u z;cases z),(h.aC e).2⟩,fun x e=>let ⟨q,z⟩:=h.fz x e;⟨q,⟨s _ _ z.ins (by intro od u z;cases z),z.land.gO (Off.gO s),z.fq.gO s,z.plan.gO (Off.gO s),z.x,z.pos,fun j e=>(z.jr j e).gO s⟩⟩⟩
theorem aom(e:H p=some (.bE od u)):mf H (Off [p] H):=fun b o q n=>by
 unfold Off;rw[if_neg (fun m=>by rw[cA.mp m,e]at q;exact n _ _ (bS q).symm)];exact q
theorem KU:Off [p] (upd H p o)=Off [p] H:=by
 funext b;unfold Off;by_cases m:b∈[p]
 ·rw[if_pos m,if_pos m]
 ·rw[if_neg m,if_neg m,ao (fun q=>m (cA.mpr q))]
theorem aon{st:cM}(h:∀j,st.journey=some j→j.log.length≤n):∀j,(cv st vc).1.journey=some j→j.log.length≤n+1:=by
 have h':∀j,st.journey=some j→j.log.length≤n+1:=fun j e=>aoo (h j e);cases vc <;>unfold cv <;>simp only[DP,uL,kG]<;>(repeat' split)<;>first
  |exact h'
  |(intro j e;cases e;done)
  |(intro j e;cases e;exact bu _)
  |(intro j e;cases e;have q:=h _ ‹st.journey=some _›;simp only[bT,jB];lia)
theorem len0{a:List Int}(h:a.length=0):a=[]:=anv h
theorem F1{a:List Int}(h:a.length=1):∃a0,a=[a0]:=match a,h with
 |[a0],_=>⟨a0,Z⟩
theorem XG{a:List Int}(h:a.length=2):∃a0 a1,a=[a0,a1]:=match a,h with
 |[a0,a1],_=>⟨a0,a1,Z⟩
theorem KW{a:List Int}(h:a.length=3):∃a0 a1 a2,a=[a0,a1,a2]:=match a,h with
 |[a0,a1,a2],_=>⟨a0,a1,a2,Z⟩
theorem Ao{a:List Int}(h:a.length=4):∃a0 a1 a2 a3,a=[a0,a1,a2,a3]:=match a,h with
 |[a0,a1,a2,a3],_=>⟨a0,a1,a2,a3,Z⟩
theorem JI{a:List Int}(h:a.length=5):∃a0 a1 a2 a3 a4,a=[a0,a1,a2,a3,a4]:=match a,h with
 |[a0,a1,a2,a3,a4],_=>⟨a0,a1,a2,a3,a4,Z⟩
theorem aop{a:List Int}(h:a.length=6):∃a0 a1 a2 a3 a4 a5,a=[a0,a1,a2,a3,a4,a5]:=match a,h with
 |[a0,a1,a2,a3,a4,a5],_=>⟨a0,a1,a2,a3,a4,a5,Z⟩
theorem aoq(h:XH l=some (x,s)):l=(x.length:Int)::(x++s):=by
 cases l with
 |nil=>cases h
 |cons n r=>
  unfold XH at h;simp only at h;by_cases c:0≤n∧n.toNat≤r.length
  ·rw[if_pos c]at h;cases h;rw[zY,eW,Ds c.2];congr 1
   lia
  ·rw[if_neg c]at h;cases h
theorem D3 x:Ap ((x.length:Int)::x)=some (x,[]):=by
 unfold Ap;simp only;rw[if_pos ⟨by lia,by lia⟩,ml,fD,qw]
theorem aor(h:KY shape (p::r)=some (c,t)):∃n k a,shape p=some (n,k)∧a.length=n∧(k=0→c=[p::a]∧r=a++t)∧(k=1→∃x,c=[p::a,x]∧r=a++(x.length:Int)::(x++t)):=by
 unfold KY at h;simp only at h;cases hs:shape p with
 |none=>rw[hs]at h;cases h
 |some nk=>
  rw[hs]at h;obtain⟨n,k⟩:=nk;simp only at h;by_cases c1:r.length<n
  ·rw[if_pos c1]at h;cases h
  ·rw[if_neg c1]at h;refine⟨n,k,r.take n,Z,by rw[eW];lia,fun e=>?_,fun e=>?_⟩
   ·subst e;simp only[aos]at h;cases h;exact⟨Z,(zY n r).symm⟩
   ·subst e;simp only[aos]at h;cases hr:XH (r.drop n)with
    |none=>rw[hr]at h;cases h
    |some xs=>
     obtain⟨x,s⟩:=xs;rw[hr]at h;simp only at h;cases h;exact⟨x,Z,by rw[←aoq hr,zY]⟩
theorem aot(h:KY Aq (p::r)=some (c,t)):∃vc,p::r=iF vc++t∧aqz (D4 c)=iF vc∧Vbexab.decode (iF vc)=some vc∧(aou (D4 c)=true→(fh vc).length≤2098):=by
 obtain⟨n,k,a,hs,ha,h0,h1⟩:=aor h;unfold Aq at hs;by_cases hp:p=0
 ·rw[if_pos hp,gF,iG]at hs;subst hp;obtain⟨rfl,rfl⟩:=hs;obtain rfl:=len0 ha;obtain⟨x,rfl,rfl⟩:=h1 Z;refine⟨(.land x),Z,Z,?_,fun z=>?_⟩
  ·show(match Ap ((x.length:Int)::x)with|some (t,[])=>some (aqA t)|_=>none)=_;rw[D3]
  ·have z:=of_decide_eq_true (cC z).1;show x.length≤2098
   lia
 rw[if_neg hp]at hs;clear hp;by_cases hp:p=1
 ·rw[if_pos hp,gF,iG]at hs;subst hp;obtain⟨rfl,rfl⟩:=hs;obtain rfl:=len0 ha;obtain⟨rfl,rfl⟩:=h0 Z;exact⟨(.form),Z,Z,Z,fun _=>bu _⟩
 rw[if_neg hp]at hs;clear hp;by_cases hp:p=2
 ·rw[if_pos hp,gF,iG]at hs;subst hp;obtain⟨rfl,rfl⟩:=hs;obtain⟨a0,a1,a2,rfl⟩:=KW ha;obtain⟨rfl,rfl⟩:=h0 Z;exact⟨(.need a0 a1 a2),Z,Z,Z,fun _=>bu _⟩
 rw[if_neg hp]at hs;clear hp;by_cases hp:p=3
 ·rw[if_pos hp,gF,iG]at hs;subst hp;obtain⟨rfl,rfl⟩:=hs;obtain⟨a0,a1,a2,a3,rfl⟩:=Ao ha;obtain⟨rfl,rfl⟩:=h0 Z;exact⟨(.choices a0 a1 a2 a3),Z,Z,Z,fun _=>bu _⟩
 rw[if_neg hp]at hs;clear hp;by_cases hp:p=4
 ·rw[if_pos hp,gF,iG]at hs;subst hp;obtain⟨rfl,rfl⟩:=hs;obtain⟨a0,a1,a2,a3,rfl⟩:=Ao ha;obtain⟨rfl,rfl⟩:=h0 Z;exact⟨(.give a0 a1 a2 a3),Z,Z,Z,fun _=>bu _⟩
 rw[if_neg hp]at hs;clear hp;by_cases hp:p=5
 ·rw[if_pos hp,gF,iG]at hs;subst hp;obtain⟨rfl,rfl⟩:=hs;obtain⟨a0,a1,a2,rfl⟩:=KW ha;obtain⟨rfl,rfl⟩:=h0 Z;exact⟨(.stand a0 a1 a2),Z,Z,Z,fun _=>bu _⟩
 rw[if_neg hp]at hs;clear hp;by_cases hp:p=6
 ·rw[if_pos hp,gF,iG]at hs;subst hp;obtain⟨rfl,rfl⟩:=hs;obtain⟨a0,a1,a2,a3,a4,a5,rfl⟩:=aop ha;obtain⟨rfl,rfl⟩:=h0 Z;exact⟨(.resist a0 a1 a2 a3 a4 a5),Z,Z,Z,fun _=>bu _⟩
 rw[if_neg hp]at hs;clear hp;by_cases hp:p=7
 ·rw[if_pos hp,gF,iG]at hs;subst hp;obtain⟨rfl,rfl⟩:=hs;obtain rfl:=len0 ha;obtain⟨x,rfl,rfl⟩:=h1 Z;refine⟨(.plan x),Z,Z,?_,fun z=>?_⟩
  ·show(match Ap ((x.length:Int)::x)with|some (t,[])=>some (aqB t)|_=>none)=_;rw[D3]
  ·have z:=of_decide_eq_true (cC z).1;show x.length≤2098
   lia
 rw[if_neg hp]at hs;clear hp;by_cases hp:p=8
 ·rw[if_pos hp,gF,iG]at hs;subst hp;obtain⟨rfl,rfl⟩:=hs;obtain rfl:=len0 ha;obtain⟨rfl,rfl⟩:=h0 Z;exact⟨(.planForm),Z,Z,Z,fun _=>bu _⟩
 rw[if_neg hp]at hs;clear hp;by_cases hp:p=9
 ·rw[if_pos hp,gF,iG]at hs;subst hp;obtain⟨rfl,rfl⟩:=hs;obtain⟨a0,a1,a2,a3,rfl⟩:=Ao ha;obtain⟨rfl,rfl⟩:=h0 Z;exact⟨(.rule a0 a1 a2 a3),Z,Z,Z,fun _=>bu _⟩
 rw[if_neg hp]at hs;clear hp;by_cases hp:p=10
 ·rw[if_pos hp,gF,iG]at hs;subst hp;obtain⟨rfl,rfl⟩:=hs;obtain⟨a0,a1,a2,a3,rfl⟩:=Ao ha;obtain⟨rfl,rfl⟩:=h0 Z;exact⟨(.check a0 a1 a2 a3),Z,Z,Z,fun _=>bu _⟩
 rw[if_neg hp]at hs;clear hp;by_cases hp:p=11
 ·rw[if_pos hp,gF,iG]at hs;subst hp;obtain⟨rfl,rfl⟩:=hs;obtain⟨a0,a1,a2,a3,rfl⟩:=Ao ha;obtain⟨x,rfl,rfl⟩:=h1 Z;refine⟨(.follow a0 a1 a2 a3 x),Z,Z,?_,fun z=>?_⟩
  ·show(match Ap ((x.length:Int)::x)with|some (t,[])=>some (aqC a0 a1 a2 a3 t)|_=>none)=_;rw[D3]
  ·have z:=of_decide_eq_true (cC (cC (cC (cC (cC z).2).2).2).2).1;show x.length≤2098
   lia
 rw[if_neg hp]at hs;clear hp;by_cases hp:p=12
 ·rw[if_pos hp,gF,iG]at hs;subst hp;obtain⟨rfl,rfl⟩:=hs;obtain⟨a0,a1,a2,rfl⟩:=KW ha;obtain⟨x,rfl,rfl⟩:=h1 Z;refine⟨(.route a0 a1 a2 x),Z,Z,?_,fun z=>?_⟩
  ·show(match Ap ((x.length:Int)::x)with|some (t,[])=>some (aqD a0 a1 a2 t)|_=>none)=_;rw[D3]
  ·have z:=of_decide_eq_true (cC (cC (cC (cC z).2).2).2).1;show x.length≤2098
   lia
 rw[if_neg hp]at hs;clear hp;by_cases hp:p=13
 ·rw[if_pos hp,gF,iG]at hs;subst hp;obtain⟨rfl,rfl⟩:=hs;obtain⟨a0,a1,a2,a3,a4,rfl⟩:=JI ha;obtain⟨rfl,rfl⟩:=h0 Z;exact⟨(.begin_ a0 a1 a2 a3 a4),Z,Z,Z,fun _=>bu _⟩
 rw[if_neg hp]at hs;clear hp;by_cases hp:p=14
 ·rw[if_pos hp,gF,iG]at hs;subst hp;obtain⟨rfl,rfl⟩:=hs;obtain⟨a0,a1,rfl⟩:=XG ha;obtain⟨rfl,rfl⟩:=h0 Z;exact⟨(.move a0 a1),Z,Z,Z,fun _=>bu _⟩
 rw[if_neg hp]at hs;clear hp;by_cases hp:p=15
 ·rw[if_pos hp,gF,iG]at hs;subst hp;obtain⟨rfl,rfl⟩:=hs;obtain⟨a0,rfl⟩:=F1 ha;obtain⟨rfl,rfl⟩:=h0 Z;exact⟨(.weather a0),Z,Z,Z,fun _=>bu _⟩
 rw[if_neg hp]at hs;clear hp;by_cases hp:p=16
 ·rw[if_pos hp,gF,iG]at hs;subst hp;obtain⟨rfl,rfl⟩:=hs;obtain rfl:=len0 ha;obtain⟨rfl,rfl⟩:=h0 Z;exact⟨(.journey),Z,Z,Z,fun _=>bu _⟩
 rw[if_neg hp]at hs;clear hp;by_cases hp:p=17
 ·rw[if_pos hp,gF,iG]at hs;subst hp;obtain⟨rfl,rfl⟩:=hs;obtain rfl:=len0 ha;obtain⟨rfl,rfl⟩:=h0 Z;exact⟨(.log),Z,Z,Z,fun _=>bu _⟩
 rw[if_neg hp]at hs;clear hp;by_cases hp:p=18
 ·rw[if_pos hp,gF,iG]at hs;subst hp;obtain⟨rfl,rfl⟩:=hs;obtain⟨a0,a1,rfl⟩:=XG ha;obtain⟨rfl,rfl⟩:=h0 Z;exact⟨(.bear a0 a1),Z,Z,Z,fun _=>bu _⟩
 rw[if_neg hp]at hs;clear hp;cases hs
def mh(st:cM):List gN→List Int
 |[]=>[]
 |vc::r=>((gv st vc).2.length:Int)::((gv st vc).2++mh (gv st vc).1 r)
theorem XI:∀f l raw,KZ Aq f l=some raw→(raw.map D4).all aou=true→∃cs:List gN,l=cs.flatMap iF∧cs.length=raw.length∧(∀vc∈cs,(fh vc).length≤2098)∧∀st,XJ (aov XM st (raw.map D4))=mh st cs
 |f,[],raw,h,_=>by
  have h:some []=some raw:=by cases f <;>exact h
  cases h;exact⟨[],Z,Z,fun _ m=>(nomatch m),fun _=>rfl⟩
 |0,p::r,raw,h,_=>by cases h
 |f+1,p::r,raw,h,ha=>by
  unfold KZ at h;cases hc:KY Aq (p::r)with
  |none=>rw[hc]at h;cases h
  |some y=>
   obtain⟨c,t⟩:=y;rw[hc]at h;simp only at h;cases hr:KZ Aq f t with
   |none=>rw[hr]at h;cases h
   |some cs0=>
    rw[hr]at h;simp only at h;cases h;rw[dw,mr]at ha;obtain⟨a1,a2⟩:=cC ha;obtain⟨vc,e1,e2,e3,e4⟩:=aot hc;obtain⟨cs,q1,q2,q3,q4⟩:=XI f t cs0 hr a2;refine⟨vc::cs,by rw[e1,q1];rfl,by rw[b6,b6,q2],fun v m=>?_,fun st=>?_⟩
    ·rcases b_.mp m with rfl|m
     ·exact e4 a1
     ·exact q3 v m
    ·have es:XM st (D4 c)=gv st vc:=by
      unfold XM Vbexab.does;rw[e2,e3]
     have:=q4 (gv st vc).1;unfold XJ at this;unfold XJ mh;rw[dw];unfold aov;rw[pj,es,this];rfl
theorem aox(h:R8 ns=true):∃cs:List gN,ns=cs.flatMap iF∧cs.length≤60∧(∀vc∈cs,(fh vc).length≤2098)∧Iy ns=mh {} cs∧(mh {} cs).length≤10000000:=by
 unfold R8 at h;cases e:KZ Aq ns.length ns with
 |none=>rw[e]at h;cases h
 |some raw=>
  rw[e]at h;simp only at h;obtain⟨h,h5⟩:=cC h;obtain⟨h,h4⟩:=cC h;obtain⟨h,_⟩:=cC h;obtain⟨_,h2⟩:=cC h;unfold aqE at h4;obtain⟨cs,q1,q2,q3,q4⟩:=XI _ _ _ e (cC h4).1;have ea:Iy ns=mh {} cs:=by
   unfold Iy PyVbexab.calls;rw[e];exact q4 _
  refine⟨cs,q1,?_,q3,ea,?_⟩
  ·rw[q2];exact of_decide_eq_true h2
  ·rw[←ea];exact of_decide_eq_true h5
theorem aoy vc:0<(iF vc).length:=Nat.succ_pos _
theorem aoz{st:cM}(h:gd A H d st)(m:b∈own d st):∃o,H b=some o:=by
 cases e:st.land with
 |none=>
  obtain⟨q,z⟩:=h.aC e;subst z;have m:b∈[d.a]:=m;rw[cA.mp m];exact⟨_,q⟩
 |some x=>
  have hI:=(h.fz x e).2;unfold own at m;rcases b_.mp m with rfl|m
  ·exact⟨_,hI.ins⟩
  ·cases ej:st.journey with
   |none=>rw[ej]at m;cases m
   |some j=>
    rw[ej]at m;rcases b_.mp m with rfl|m
    ·exact⟨_,(hI.jr j ej).ins⟩
    ·rw[cA.mp m];exact⟨_,(hI.jr j ej).log⟩
def K1(K:PySem.W.Frag)(H:Hp)(a:ae)(xs:List V)(O:List ae):Prop:=(Rd H a (.lst xs)∧a∉O)∨
 ∃(o:Obj) (au:Array aA) (n:Nat),K.lookup a=some o∧o.cls=.type "list"∧o.dict=none∧o.data=.seq au n∧au.size≤bf∧a7 xs au.toList
theorem K1.sq(h:K1 K H a xs O):ai K H a xs:=h.imp_left And.left
structure XN(A:aR)(K:PySem.W.Frag)(a pt:ae)(ns:List Int)(cs:List gN)(σ:L2.St)(H:Hp)(d:DA)(st:cM)(r:List gN)(tl:List Int)(at_:Nat):Prop where
 loc:∃v4 v5,σ=[some (.ref a),some (.ref d.a),some (.ref pt),some (.int (at_:Nat)),v4,v5]
 drop:ns.drop at_=r.flatMap iF
 tld:mh {} cs=tl++mh st r
 aqG:gd A (Off [pt] H) d st
 tell:H pt=some (.lst (tl.map V.int))
 calls:K1 K H a (ns.map V.int) (pt::own d st)
 log:∀j,st.journey=some j→j.log.length+r.length≤60
 k_:r.length≤60
 rows:∀vc∈r,(fh vc).length≤2098
theorem Rd.keep{H H':Hp}{a:ae}{xs:List V}(h:Rd H a (.lst xs))(k:∀o,H a=some o→(∀kv,o≠.dT kv)→H' a=some o):Rd H' a (.lst xs):=by
 rcases h with h|⟨o,h⟩
 ·exact .inl (k _ h (by intro kv z;cases z))
 ·exact .inr ⟨o,k _ h (by intro kv z;cases z)⟩
theorem Rd.some(h:Rd H a (.lst xs)):∃o,H a=Option.some o∧∀kv,o≠.dT kv:=by
 rcases h with h|⟨o,h⟩
 ·exact⟨_,h,by intro kv z;cases z⟩
 ·exact⟨_,h,by intro kv z;cases z⟩
theorem aoA{st:cM}(h:∀j,st.journey=some j→j.log.length≤n):∀j,(gv st vc).1.journey=some j→j.log.length≤n+1:=by
 unfold gv;split
 ·exact fun j e=>aoo (h j e)
 ·exact aon h
theorem aoB(T:Txt K mg A)(TD:o9 P w K A B):T.Cm.Ok P w mg base 13 (Iw K):=by
 refine T.Cm.go tO fun _ _ _ _ H _ Q E hr h=>?_;obtain⟨a,ns,rfl,ha,K2,k⟩:=h;have hu:=d6 hr;obtain⟨cs,pG,Jv,aoC,aoD,sM⟩:=aox K2;rw[aoD]at k;refine⟨_,(af (aE 1 tO (Od (amf T) hr T.ah1 T.Ib)) (af (aE 2 tO (bi gA)) (af (aE 3 tO aH) (af (cJ<|AH d8 (aL jz (pv 3) (cT T.cH (pv 0))) (af (aE 4 tO (aI (anU T TD) hr T.G_ (aX (pv 0) (pv 3)))) (af (aE 5 tO (FE<|aI (aoi T TD) hr T.Ie (aX (pv 1) (pv 4)))) (af (dH (d4 PySem.F.plainAttrs_list PySem.F.slot_list_append PySem.F.type_list_append gQ (pv 2) (aF (cT T.cH (pv 5))))) (af (dH (d4 PySem.F.plainAttrs_list PySem.F.slot_list_extend PySem.F.type_list_extend qm (pv 2) (aF (pv 5)))) (ak (aE 3 tO (aj 4)))))))) (ak (ax (pv 2))))))),?_⟩
 try dsimp only[aO,Cx.aQ]
 intro x dx nx pX xj;refine⟨x,dx,Z,ah,fun H1 hx Ab=>⟨Z,?_⟩⟩;have s1:aa H H1:=aa.make (C:=A.cf) (fs:=[]) nx pX Ab;refine⟨bu _,fun pt xc=>?_⟩;have s2:=aa.upd (o:=.lst []) xc;have JY:(upd H1 pt (.lst [])) pt=some (.lst []):=ah;have DT:=s2 _ _ hx;have aoE:=aa.free s1 xc;have nxp:x≠pt:=fun e=>by subst e;rw[hx]at xc;cases xc
 have eI:=s1.trans s2;generalize upd H1 pt (.lst [])=H2 at*;refine⟨fun(σ:L2.St) H'=>σ[2]?=some (some (.ref pt))∧H' pt=some (.lst ((mh {} cs).map V.int)),?_,?_⟩
 ·refine⟨fun m σ H'=>∃d st r tl at_,m=r.length∧XN A K a pt ns cs σ H' d st r tl at_,⟨cs.length,⟨x,dx,⟨0,0,0,0,0,[],[]⟩,⟨0,0,0,0,[],[]⟩,⟨0,0,0,[]⟩,⟨0,0,0,0,.aC,[],0⟩⟩,{},cs,[],0,Z,?_⟩,?_⟩
  ·refine⟨⟨none,none,Z⟩,pG,Z,⟨fun _=>⟨?_,Z⟩,fun x z=>by cases z⟩,JY,?_,(fun j z=>by cases z),Jv,aoC⟩
   ·show Off [pt] H2 x=_;unfold Off;rw[if_neg (fun m=>nxp (cA.mp m))];exact DT
   ·rcases ha with ha|ha
    ·refine .inl ⟨Rd.keep ha (fun o e _=>eI _ _ e),?_⟩;obtain⟨o,e,_⟩:=Rd.some ha;intro m;rcases b_.mp m with rfl|m
     ·rw[aoE]at e;cases e
     ·have m:a∈[x]:=m;rw[cA.mp m,nx]at e;cases e
    ·exact .inr ha
  ·rintro m σ H3 ⟨d,st,r,tl,at_,rfl,W⟩;obtain⟨⟨v4,v5,rfl⟩,D6,K3,hD,K4,K5,fJ,AY,dD⟩:=W;refine⟨a,_,Z,.inl K5.sq,_,_,Z,Z,_,Z,bK (fun h=>?_) (fun h=>?_)⟩
   ·cases r with
    |nil=>
     have:=congrArg i5 D6;have h:((at_:Nat):Int)<((ns.map V.int).length:Nat):=h;rw[gj]at this;rw[aB]at h;have:ns.length-at_=0:=this
     lia
    |cons vc r=>
     refine⟨fun σ' H'=>∃d st tl at_,XN A K a pt ns cs σ' H' d st r tl at_,fun σ' H' ⟨d,st,tl,at_,w⟩=>⟨r.length,by rw[b6];lia,d,st,r,tl,at_,Z,w⟩,?_⟩;have hlen:(tl++mh st (vc::r)).length≤10000000:=by rw[←K3];exact sM
     rw[bT]at hlen;have hlen:tl.length+(((gv st vc).2++mh (gv st vc).1 r).length+1)≤10000000:=hlen;rw[bT]at hlen;refine⟨a,ns,at_,vc,r.flatMap iF,Z,K5.sq,D6,fun H4 c s4 ⟨dc,dt,fi,nc,Am,nrw,hc,bF,aoH⟩=>?_⟩;have np:∀b,H3 b=none→b≠pt:=fun b e z=>by subst z;rw[K4]at e;cases e
     refine⟨pt,_,s4 _ _ K4,trivial,fun od=>?_⟩;have mz:(upd H4 pt (.bE od (.lst (tl.map V.int)))) pt=some (.bE od (.lst (tl.map V.int))):=ah;have hDL:gd A (upd H4 pt (.bE od (.lst (tl.map V.int)))) d st:=(hD.same (Off.of s4)).same Off.lock;have nL:∀b o,b≠pt→H4 b=some o→(upd H4 pt (.bE od (.lst (tl.map V.int)))) b=some o:=fun b o n e=>(ao n).trans e;have An:=nL _ _ (np _ nc) hc;have hCL:rJ A (upd H4 pt (.bE od (.lst (tl.map V.int)))) c vc:=⟨dc,dt,fi,_,An,nL _ _ (np _ Am) bF,nL _ _ (np _ nrw) aoH⟩
     generalize upd H4 pt (.bE od (.lst (tl.map V.int)))=HL at*;refine⟨d,st,c,vc,Z,hDL,hCL,dU (dD vc cI) (by decide),fun j e=>dU (Nat.le_of_add_right_le (fJ j e)) (by decide),by lia,fun H5 d5 p jm ed yj keep aoK hp=>?_⟩;have XO:∀b,b∈own d st→b≠pt∧∃o,H3 b=some o:=fun b m=>by
      obtain⟨o,e⟩:=aoz hD m;unfold Off at e;split at e
      ·cases e
      ·rename_i q;exact⟨fun z=>q (by rw[z];exact cI),o,e⟩
     have XQ:=keep pt _ mz (fun m=>(XO _ m).1 Z) (by intro kv z;cases z);refine⟨XQ,?_⟩;have k6:p≠pt:=fun z=>by
      subst z;obtain⟨kv,z⟩:=aoK _ mz;cases z
     have rh:=keep c _ An (fun m=>by obtain⟨_,o,e⟩:=XO _ m;rw[nc]at e;cases e) (by intro kv z;cases z);have ncp:=np _ nc;have pU:gd A (Off [pt] H5) d5 (gv st vc).1:=jm.gO (aom XQ);have aoM:(Rd H5 a (.lst (ns.map V.int))∧a∉pt::own d5 (gv st vc).1)∨∃(o:Obj) (au:Array aA) (n:Nat),K.lookup a=some o∧o.cls=.type "list"∧o.dict=none∧o.data=.seq au n∧au.size≤bf∧a7 (ns.map V.int) au.toList:=by
      rcases K5 with⟨q1,q2⟩|q
      ·have XR:a≠pt:=fun z=>q2 (by rw[z];exact cI);have q3:Rd HL a (.lst (ns.map V.int)):=Rd.keep q1 (fun o e _=>nL _ _ XR (s4 _ _ e));refine .inl ⟨Rd.keep q3 (fun o e n=>keep a o e (fun m=>q2 (c_ _ m)) n),fun m=>?_⟩;rcases b_.mp m with z|m
       ·exact XR z
       ·rcases yj a m with m|m
        ·exact q2 (c_ _ m)
        ·obtain⟨o,e,n⟩:=Rd.some q3;obtain⟨kv,z⟩:=m o e;exact n kv z
      ·exact .inr q
     have h6:(upd H5 pt (.lst (tl.map V.int))) pt=some (.lst (tl.map V.int)):=ah;have DB:(upd H5 pt (.lst (tl.map V.int))) p=_:=(ao k6).trans hp;refine⟨.inl ⟨Z,_,ai.of h6⟩,p,_,Z,.inl (ai.of DB),pt,_,_,Z,Z,h6,?_,?_⟩
     ·rw[aB];show _<16777216;lia
     have h7:(upd (upd H5 pt (.lst (tl.map V.int))) pt (.lst (tl.map V.int++[V.int (((gv st vc).2.map V.int).length:Nat)]))) pt=_:=ah;have KJ:(upd (upd H5 pt (.lst (tl.map V.int))) pt (.lst (tl.map V.int++[V.int (((gv st vc).2.map V.int).length:Nat)]))) p=_:=(ao k6).trans DB;refine⟨.inl ⟨Z,_,ai.of h7⟩,pt,p,_,_,Z,Z,h7,KJ,?_,?_⟩
     ·rw[bT,aB,aB];show _+1+_≤16777216;lia
     have n8:∀b (X1 X2 X3:HO),b≠pt→(upd (upd (upd H5 pt X1) pt X2) pt X3) b=H5 b:=fun b X1 X2 X3 n=>by rw[ao n,ao n,ao n]
     refine(ag ((n8 _ _ _ _ ncp).trans rh) T.R1 Z ?_);refine⟨d5,(gv st vc).1,tl++(((gv st vc).2.length:Int)::(gv st vc).2),at_+(iF vc).length,⟨⟨_,_,by rw[ed];rfl⟩,?_,?_,?_,?_,?_,fun j ej=>?_,?_,fun v m=>dD v (c_ _ m)⟩⟩
     ·rw[←yl,D6,pj,anZ]
     ·rw[K3,mx];rfl
     ·rw[KU,KU,KU];exact pU
     ·rw[ah,aB,b9,mx];rfl
     ·rcases aoM with⟨q1,q2⟩|q
      ·exact .inl ⟨Rd.keep q1 (fun o e _=>(n8 _ _ _ _ (fun z=>q2 (by rw[z];exact cI))).trans e),q2⟩
      ·exact .inr q
     ·rw[b6]at AY;have:=aoA (n:=60-(r.length+1)) (vc:=vc) (fun j e=>(by have:=fJ j e;rw[b6]at this;lia)) j ej
      lia
     ·rw[b6]at AY;lia
   ·have e0:r=[]:=by
     have:=congrArg i5 D6;have h:¬((at_:Nat):Int)<((ns.map V.int).length:Nat):=h;rw[aB]at h;rw[gj]at this;cases r with
     |nil=>rfl
     |cons vc r=>
      have p:=aoy vc;rw[pj,bT]at this
      lia
    subst e0;have:mh {} cs=tl:=by rw[K3];exact gi tl
    exact⟨Z,by rw[this];exact K4⟩
 ·rintro σ H3 ⟨e,h3⟩;exact(Lh.mk _ (e) (k H3 pt h3))
section
variable {P:cQ}{w:cD}{K:PySem.W.Frag}{h:bU}{mg:Str→Option aA}{x q:Str}{f C:ae}{ps:List Str}{st:aK}{oc:aA}{od an:Option ae}{oI:Array (Option aA)}{kV doc pm dy ct:aA}
def BaA(f:aM)(ps:List Str)(us:List aA):Prop:=LW f ⟨us,[]⟩=pure (ps.zip us)
theorem aoN(l:K.lookup f=some ⟨oc,od,.func (PySem.W.fnOf x q (s_ st) (oS st) (aG st) .none kV doc pm an dy ct),oI⟩)
  (c:PySem.W.codeIn K dy q=true) (k:PySem.W.keepIn K (.ref f)=true) (b:∀(kV doc pm:aA) (an:Option ae) (dy ct:aA) (us:List aA),us.length=ps.length→BaA (PySem.W.fnOf x q (s_ st) (oS st) (aG st) .none kV doc pm an dy ct) ps us):Fb K x q ps st f (PySem.W.fnOf x q (s_ st) (oS st) (aG st) .none kV doc pm an dy ct):=⟨NM l c k,(NM l c k).binds b⟩
theorem aoO(KX:K.In h)(G:h.Ns jT mg)(a:PySem.W.nsIn K jT x=some (some (.ref f)))(F:Fb K x x ps st f fd):Fn K mg x ps st f fd:=⟨F,PySem.W.mg_of KX G a⟩
theorem aoP(KX:K.In h)(G:h.Ns jT mg)(a:PySem.W.nsIn K jT x=some (some (.ref C)))(m:Mk K C f):Km K mg x C f:=⟨m,PySem.W.mg_of KX G a⟩
theorem aoQ{u:aA}{v:V}(KX:K.In h)(G:h.Ns jT mg)(a:PySem.W.nsIn K jT x=some (some u))(r:RelV v u):GI mg x v:=⟨u,PySem.W.mg_of KX G a,r⟩
theorem aoR{au:Array aA}{n:Nat}{xs:List V}(l:K.lookup f=some {cls:=.type "tuple",data:=.seq au n})(hz:au.size≤1000)(v:a7 xs au.toList):∀H,bV K H f xs:=fun H=>.inr ⟨_,au,n,l,rfl,rfl,dU hz (by decide),v⟩
def aoS(w:cD)(e:sT)(kv:Key×V):Prop:=oo kv.1 e.key=true∧e.hash=K6 w kv.1∧RelV kv.2 e.val
theorem aoT{es:Array sT}{ep:Nat}{aq:List (Key×V)}(hn:(f==jx)=false)(l:K.lookup f=some {cls:=.type "dict",data:=.dict es ep})(p:Paired (fun e kv=>aoS w e kv) es.toList aq)(nd:(aq.map (·.1)).Nodup):nG P w K f aq:=by
 refine⟨hn,_,es,ep,es.toList.zipWith (fun e kv=>(kv.1,e.val)) aq,l,⟨rfl,rfl,rfl⟩,rfl,?_,?_,?_,?_⟩
 ·unfold KV;generalize es.toList=L at p;clear l nd;induction p with
  |nil=>exact .nil
  |cons r t ih=>exact .cons ⟨rfl,r.2.2⟩ ih
 ·intro e he;have he:e∈es.toList:=Zj.mpr he;generalize es.toList=L at p he;clear l nd;induction p with
  |nil=>cases he
  |cons r t ih=>
   rcases b_.mp he with rfl|he
   ·exact⟨_,r.1,r.2.1⟩
   ·exact ih he
 ·generalize es.toList=L at p;clear l nd;induction p with
  |nil=>exact .nil
  |cons r t ih=>exact .cons r.1 rfl ih
 ·have:(es.toList.zipWith (fun e kv=>(kv.1,e.val)) aq).map (·.1)=aq.map (·.1):=by
   generalize es.toList=L at p;clear l nd;induction p with
   |nil=>rfl
   |cons r t ih=>rw[List.zipWith_cons_cons,dw,dw,ih]
  rw[this];exact nd
theorem bt{x qual:Str}{f:ae}{fd:aM}(F:Fun K x qual GJ f fd)(s:aS)(us:List aA)(hu:us.length=(["calls"]:List Str).length):xO s fd ⟨us,[]⟩ ((["calls"]:List Str).zip us):=by
 obtain⟨oc,od,kV,doc,pm,an,dy,ct,oI,rfl,lk,gw⟩:=F.ex;exact match us,hu with|[_],_=>.of_eq rfl
protected def bB(a b c d:ae)(n:Nat):ae:=if n=0 then a else if n=7 then b else if n=11 then c else d
end
end S
end
open PySem PySem.W PyProof.Rows
set_option maxHeartbeats 0 in
theorem PySem.Challenge.cw_stormhome_s01_answers_holds : PySem.Challenge.rw_stormhome_s01_answers.Holds := by
 w_on;refine X.E0.2 ?_;delta X.E0;dsimp only
 k_fillS
 refine L2.ad3 (r:=PySem.Challenge.rw_stormhome_s01_answers) (k:=20) (CX:=L2.jE) (ps:=["calls"]) (sp:=S.Iw) Ws0_ rfl rfl ⟨rfl,by decide,by decide⟩ (fun w h Y=>PySem.W.kIn_of Y) ?F ?S (fun _ _ _ _ z=>z)
 case F=>
  intro w mg fa h Y KX G Gj;obtain⟨A,B,T,TD⟩:∃A B,S.Txt (L2.Bh KX) mg A∧S.o9 PySem.Challenge.rw_stormhome_s01_answers.prog w (L2.Bh KX) A B:=by
   dsimp only[L2.Bh];refine' ⟨⟨_,_,_,_,_,_,_,_,_,_,_,_,_,_,_,_,_,_,_,_,_,_,_,_,_,_,_,_,_,_,_,_,_,_,_,_,_,_,_,_,_,_,_,_,_,_,_,_,_,_,_,_,_,_,_,_,_,_,_,_,_,_,_,_,_,_,_,_,_,_,_,_,_,_,_,_,_,_,_,_,_,_,_,_,_,_,_,_,_,_,_,_,_,_,_,_,_,_,_,_,_,_,_,_,_,_,_,_,_,_,_,_,_,_,_,_,_,_,_,_,_,_,_,_,_,_,_,_,_,_,_,_,_,_,_,_,_,_,_,_,_,_,_,_,_,_,_,_,_,_,_,_,_,_,_,_,_,_,_,_,_,_,_,_,_,_,_,_,_,_,_,_,_,_,_,_,_,_,_,_,_,_,_,_,_,_,_,_,_,_,_,_,_,_,_,_,_,_,_,_,_,_,_,_,_,_,_,_,_,_,_,_,_,_,_,_,_,_,_,_,_,_,_,_,_,_,_,_,_,_,_,_,_,_⟩,S.bB 19 20 21 22,?T,?D⟩
   case' T=>constructor
   case' D=>constructor
   all_goals try dsimp only
   all_goals first
    |(as_aux_lemma=>refine' PySem.W.ns_none_of KX G ?_;k_is)
    |(as_aux_lemma=>refine' S.aoQ KX G ?a ?r;(case a=>k_is);(case r=>first|exact rfl|exact⟨_,rfl⟩))
    |(refine' S.aoO KX G ?a ?_;(case a=>as_aux_lemma=>k_is))
    |(refine' S.aoP KX G ?a ⟨?b,?c,?d,?e⟩;(case a=>as_aux_lemma=>k_is);(case b=>as_aux_lemma=>k_is);(case c=>as_aux_lemma=>k_is);(case d=>as_aux_lemma=>k_is);(case e=>as_aux_lemma=>k_is))
    |(refine' L2.oF.mk ?a ?b ?c;(case a=>as_aux_lemma=>k_is);(case b=>as_aux_lemma=>k_is);(case c=>as_aux_lemma=>k_is))
    |skip
   all_goals first
    |(as_aux_lemma=>refine' S.aoN ?a ?b ?c ?d;(case a=>k_is);(case b=>k_is);(case c=>k_is);(case d=>intro _ _ _ _ _ _ us hl;first|exact S.eA1 (C:=S.BaA _ _) hl fun _=>rfl|exact S.eA2 (C:=S.BaA _ _) hl fun _ _=>rfl|exact S.eA3 (C:=S.BaA _ _) hl fun _ _ _=>rfl|exact S.eA4 (C:=S.BaA _ _) hl fun _ _ _ _=>rfl|exact S.eA5 (C:=S.BaA _ _) hl fun _ _ _ _ _=>rfl))
    |(refine' And.intro (L2.bg.mk ?a ?b ?c ?d) ?e;(case a=>as_aux_lemma=>k_is);(case b=>as_aux_lemma=>k_is);(case c=>as_aux_lemma=>k_is);(case d=>as_aux_lemma=>k_is);(case e=>dsimp only[L2.bQ];as_aux_lemma=>k_is))
    |(refine' L2.bg.mk ?a ?b ?c ?d;(case a=>as_aux_lemma=>k_is);(case b=>as_aux_lemma=>k_is);(case c=>as_aux_lemma=>k_is);(case d=>as_aux_lemma=>k_is))
    |(as_aux_lemma=>refine' S.aoT ?a ?b ?c ?d;(case b=>k_is);(case a=>decide+kernel);(case c=>repeat (first|exact .nil|refine .cons ⟨rfl,rfl,rfl⟩ ?_|refine .cons ⟨rfl,rfl,_,rfl⟩ ?_));(case d=>first|decide+kernel|exact of_decide_eq_true rfl))
    |skip
   all_goals as_aux_lemma=>refine' S.aoR ?a ?b ?c;(case a=>k_is);(case b=>decide);(case c=>repeat (first|exact .nil|refine .cons ⟨_,rfl⟩ ?_))
  have e:=Gj.symm.trans T.Cm.m;cases e;exact⟨A.G3,fun s us hu=>S.bt T.Cm.toFun s us hu,fun base _ _=>((S.ah7 fun B T D=>S.aoB T D) ⟨w,L2.Bh KX,mg,base,A⟩ B T TD).mono (by decide)⟩
 case S=>
  intro K H xs a hO tF K2 hx;cases hx with
  |cons h1 h2=>
   cases h2;cases h1 with
   |lst hs ha=>
    have e:=L2.Og a.1 _ ha;subst e;exact⟨_,a.1,rfl,hs,K2,fun H' p hp=>.lst (L2.ai.of hp) (L2.Of _)⟩
