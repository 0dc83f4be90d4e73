import PyProof.Rows.All
import OpenK.KLine
import OpenK.KOwn
import KE.KNestM
import KE.KDictOf
import Wide.FinOn
import Lean
import PyProof.EqAt
import PyProof.EqKinds
import PyProof.TupleCall
import PyProof.NeKinds
import PyProof.NsDelKeeps
import KE.KTryMore
import PyProof.WalksMore
import PyProof.Rows.SetFrom
import KE.KEqDict
import PyProof.ToksMono
import PyProof.StrCalls6
import PyProof.StrBlock2
import PyProof.SliceStr2
import PyProof.StrLawsTight
import PyProof.InstStoreFacts
import PyProof.Rows.FStr
import PyProof.FactsAll.set
import KE.KDictLaws
import KE.KIntText
import PyProof.Rows.StrWeight2
import PyProof.StrWalks
import PyProof.StrBlockH
import PyProof.WalksEnum
import PyProof.ZipIter
import PyProof.EnumMake
import PyProof.FitsReplace
import PyProof.StrLawsIn
import PyProof.Rows.SortWalk
import PyProof.DictUpdate
import KE.KDictList
import KE.KDictSum
import KE.KPairComp
import PyProof.FactsAll.dict
import KE.KMinKey
import KE.KLam
import PyProof.DictWalks
import PyProof.DictValues
import PySem.Challenge.RW_sidebook_k53_days_and_looks
set_option Elab.async false
set_option linter.all false
set_option maxRecDepth 100000
def PySem.W.Fast.tw7284203191577940581:Nat:=0
def PySem.W.Fast.tw2570861966826594193:Nat:=0
def PySem.W.Fast.tw8701914372142170521:Nat:=0
def PySem.W.Fast.tw1119761579010253944:Nat:=0
def PySem.W.Fast.tw8505622059829535123:Nat:=0
def PySem.W.Fast.tw13487321009054303282:Nat:=0
def PySem.W.Fast.tw7284635932349711089:Nat:=0
def PySem.W.Fast.tw861502493610598483:Nat:=0
def PySem.W.Fast.tw10910116569886796342:Nat:=0
def PySem.W.Fast.tw5571941122713777233:Nat:=0
def PySem.W.Fast.tw18090264274711557029:Nat:=0
def PySem.W.Fast.tw13020854702466632800:Nat:=0
def PySem.W.Fast.tw887297739250893426:Nat:=0
def PySem.W.Fast.tw4899194941618596743:Nat:=0
def PySem.W.Fast.tw17880168534084667868:Nat:=0
def PySem.W.Fast.tw6910399968666045255:Nat:=0
def PySem.W.Fast.tw7774113678449685934:Nat:=0
def PySem.W.Fast.tw10214798723161860908:Nat:=0
def PySem.W.Fast.tw10916648911821922608:Nat:=0
def PySem.W.Fast.tw3451930472288970675:Nat:=0
def PySem.W.Fast.tw17606023666067251677:Nat:=0
def PySem.W.Fast.tw15275291021854500544:Nat:=0
def PySem.W.Fast.tw8728042847472895959:Nat:=0
def PySem.W.Fast.tw115167043885905223:Nat:=0
def PySem.W.Fast.tw11788636936952823106:Nat:=0
def PySem.W.Fast.tw9076787650804036852:Nat:=0
def PySem.W.Fast.tw5320619654261168702:Nat:=0
def PySem.W.Fast.tw10327671769042200128:Nat:=0
def PySem.W.Fast.tw10816252725775286513:Nat:=0
def PySem.W.Fast.tw12483548606279900826:Nat:=0
def PySem.W.Fast.tw5055593616971399804:Nat:=0
def PySem.W.Fast.tw12528221419883600679:Nat:=0
def PySem.W.Fast.tw10479991185640055810:Nat:=0
def PySem.W.Fast.tw15806707075529380192:Nat:=0
def PySem.W.Fast.tw5665240888008139550:Nat:=0
def PySem.W.Fast.tw13578020157988156910:Nat:=0
def PySem.W.Fast.tw9919147443128822593:Nat:=0
def PySem.W.Fast.tw15012102849882553082:Nat:=0
def PySem.W.Fast.tw4139333405863992284:Nat:=0
def PySem.W.Fast.tw8057509151949241040:Nat:=0
def PySem.W.Fast.tw2925816871977632210:Nat:=0
def PySem.W.Fast.tw13758190518337804936:Nat:=0
def PySem.W.Fast.tw2392593158011319353:Nat:=0
def PySem.W.Fast.tw4772062507164038959:Nat:=0
def PySem.W.Fast.tw16101134707931498060:Nat:=0
def PySem.W.Fast.tw8122695690928665766:Nat:=0
def PySem.W.Fast.tw238015897057467496:Nat:=0
def PySem.W.Fast.tw256976265262469064:Nat:=0
def PySem.W.Fast.tw8186657734068701312:Nat:=0
def PySem.W.Fast.tw6030501089693204938:Nat:=0
def PySem.W.Fast.tw14646812006431793189:Nat:=0
def PySem.W.Fast.tw6344153461787385748:Nat:=0
def PySem.W.Fast.tw9058675905521239271:Nat:=0
def PySem.W.Fast.tw4015202173357781934:Nat:=0
def PySem.W.Fast.tw14022695629967993375:Nat:=0
def PySem.W.Fast.tw4699756791338806529:Nat:=0
def PySem.W.Fast.tw15359611588545569252:Nat:=0
def PySem.W.Fast.tw3308634892276815127:Nat:=0
def PySem.W.Fast.tw9777985068195723015:Nat:=0
def PySem.W.Fast.tw8514659027417952518:Nat:=0
def PySem.W.Fast.tw3856712824231086281:Nat:=0
def PySem.W.Fast.tw8327717152232216106:Nat:=0
def PySem.W.Fast.tw15287547289013875721:Nat:=0
def PySem.W.Fast.tw10876078143196172821:Nat:=0
def PySem.W.Fast.tw1810505731646096427:Nat:=0
def PySem.W.Fast.tw8997383693586321770:Nat:=0
def PySem.W.Fast.tw2813801546833155447:Nat:=0
def PySem.W.Fast.tw10713865542653931438:Nat:=0
def PySem.W.Fast.tw4773484457636388862:Nat:=0
def PySem.W.Fast.tw6172094611929405055:Nat:=0
def PySem.W.Fast.tw15060872555676474952:Nat:=0
def PySem.W.Fast.tw2238811745713579835:Nat:=0
def PySem.W.Fast.tw17427164358705649990:Nat:=0
def PySem.W.Fast.tw8760152093665844161:Nat:=0
def PySem.W.Fast.tw1062514266329012355:Nat:=0
def PySem.W.Fast.tw2708214617527550399:Nat:=0
def PySem.W.Fast.tw11161164713144168021:Nat:=0
def PySem.W.Fast.tw9131994410762764641:Nat:=0
def PySem.W.Fast.tw785946285636773999:Nat:=0
def PySem.W.Fast.tw13299628023176669074:Nat:=0
def PySem.W.Fast.tw9869809959619462935:Nat:=0
def PySem.W.Fast.tw7424060955962978353:Nat:=0
def PySem.W.Fast.tw3831019782443316194:Nat:=0
def PySem.W.Fast.tw11153475782318119604:Nat:=0
def PySem.W.Fast.tw15565715512253457277:Nat:=0
def PySem.W.Fast.tw10911716485165742097:Nat:=0
def PySem.W.Fast.tw10137185776066577385:Nat:=0
def PySem.W.Fast.tw7039168609848515032:Nat:=0
def PySem.W.Fast.tw5388589039460942527:Nat:=0
def PySem.W.Fast.tw10888863842102328177:Nat:=0
def PySem.W.Fast.tw11317637306720784765:Nat:=0
def PySem.W.Fast.tw17937168697417666835:Nat:=0
def PySem.W.Fast.tw10295913840692754127:Nat:=0
def PySem.W.Fast.tw12559880474128369298:Nat:=0
def PySem.W.Fast.tw14173793092197918974:Nat:=0
def PySem.W.Fast.tw5221592684559293012:Nat:=0
def PySem.W.Fast.tw12307553483252862823:Nat:=0
def PySem.W.Fast.tw639924544979245993:Nat:=0
def PySem.W.Fast.tw3344036261162260069:Nat:=0
def PySem.W.Fast.tw9006961074152924250:Nat:=0
def PySem.W.Fast.tw908480701973217441:Nat:=0
def PySem.W.Fast.tw6191700953566675008:Nat:=0
def PySem.W.Fast.tw1683588176727124409:Nat:=0
def PySem.W.Fast.tw12936088452001202715:Nat:=0
def PySem.W.Fast.tw16457251377207888201:Nat:=0
def PySem.W.Fast.tw17859675296707892077:Nat:=0
def PySem.W.Fast.tw17137270108147033825:Nat:=0
def PySem.W.Fast.tw18048741565030583774:Nat:=0
def PySem.W.Fast.tw13705283562680751584:Nat:=0
def PySem.W.Fast.tw17871049288011112270:Nat:=0
def PySem.W.Fast.tw3719891259706897012:Nat:=0
def PySem.W.Fast.tw8272569733616993153:Nat:=0
def PySem.W.Fast.tw7592715696027808041:Nat:=0
def PySem.W.Fast.tw5289818103960998278:Nat:=0
def PySem.W.Fast.tw4340673293219707767:Nat:=0
def PySem.W.Fast.tw11384182702204212275:Nat:=0
def PySem.W.Fast.tw12517015155858063196:Nat:=0
def PySem.W.Fast.tw6162269159774324313:Nat:=0
def PySem.W.Fast.tw10576836333797772347:Nat:=0
def PySem.W.Fast.tw8179860101808600119:Nat:=0
def PySem.W.Fast.tw4704452742865826424:Nat:=0
def PySem.W.Fast.tw5376530373609499990:Nat:=0
def PySem.W.Fast.tw11215392098479208961:Nat:=0
def PySem.W.Fast.tw10310341975313369176:Nat:=0
def PySem.W.Fast.tw7050804516273991350:Nat:=0
def PySem.W.Fast.tw16493865465440409018:Nat:=0
def PySem.W.Fast.tw15418674001244492974:Nat:=0
def PySem.W.Fast.tw17852080271459398996:Nat:=0
def PySem.W.Fast.tw18105302477358141223:Nat:=0
def PySem.W.Fast.tw7001957589650049515:Nat:=0
def PySem.W.Fast.tw17435391645217708394:Nat:=0
def PySem.W.Fast.tw429539710256275620:Nat:=0
def PySem.W.Fast.tw2629151800749243262:Nat:=0
def PySem.W.Fast.tw9215358943560890414:Nat:=0
def PySem.W.Fast.tw8535803893964050539:Nat:=0
def PySem.W.Fast.tw13629772047308552242:Nat:=0
def PySem.W.Fast.tw2080317491765294665:Nat:=0
def PySem.W.Fast.tw14349632617732883400:Nat:=0
section
open PySem PySem.W PyProof.Rows
set_option maxHeartbeats 0
open_top hd for PySem.Challenge.rw_sidebook_k53_days_and_looks
end
def kc:=@beq_eq_false_iff_ne
def vf:=@beq_iff_eq
def Pp:=@beq_self_eq_true
def Ve:=@congrArg
def Pc:=@decide_eq_false
def Fg:=@decide_eq_true
def nc:=@decide_eq_true_eq
def Ph:=@if_false
def ga:=@if_neg
def da:=@if_pos
def ee:=@if_true
def N6:=@not_or
def Wk:=@or_false
open Array renaming append_assoc->rj,getElem?_eq_getElem->nb,getElem?_eq_none->yp,getElem?_eq_none_iff->Km,getElem?_eq_some_iff->Ac,getElem?_extract->xp,getElem?_push->Sq,getElem?_toList->Hc,length_toList->pb,toArray_toList->rg
open Bool renaming and_eq_true->Ma,and_false->ew,false_eq_true->wf,false_ne_true->Wa,false_or->qg,not_true->sj,or_eq_true->ci,true_or->Sy
open Classical renaming choose_spec->v4
open Function renaming comp_def->J6
open Int renaming emod_lt_of_pos->Ot,emod_nonneg->gw,toNat_natCast->Uf
open List renaming all_cons->lf,all_eq_true->jg,all_map->Qy,any_cons->yd,any_eq_true->kg,append_assoc->Ec,append_nil->Qd,cons_append->lg,drop_eq_getElem_cons->Wn,drop_eq_nil_of_le->Op,ext_getElem?->ih,filterMap_cons->bf,filter_cons->Eh,find?_cons->jd,foldl_cons->sf,getD_eq_getElem?_getD->Dd,getElem?_append_left->Ua,getElem?_append_right->Cd,getElem?_cons_succ->zp,getElem?_cons_zero->Gh,getElem?_eq_getElem->jb,getElem?_eq_none->eg,getElem?_eq_none_iff->Fb,getElem?_eq_some_iff->ka,getElem?_map->Xa,getElem?_of_mem->Qq,getElem?_replicate->vp,getElem?_set->Xc,getElem?_set_ne->Pq,getElem?_set_self->Mp,getElem?_take_of_lt->Fo,getElem?_toArray->dg,getElem_mem->re,length_append->Ya,length_cons->Ha,length_drop->vu,length_eq_zero_iff->Fh,length_eraseIdx_of_lt->jn,length_map->Ta,length_nil->di,length_range->jh,length_take->Vk,lookup_cons->Va,map_append->im,map_congr_left->Ir,map_cons->za,map_map->Mg,map_nil->Vd,mem_append->Pd,mem_append_left->Pa,mem_append_right->vb,mem_cons->Ca,mem_cons_of_mem->wa,mem_cons_self->Ba,mem_filter->dm,mem_filterMap->xj,mem_map->Dc,mem_of_getElem?->Ga,mem_range->Wg,mem_singleton->xf,nil_append->Hg,nodup_append->Zj,nodup_cons->gd,nodup_nil->dn,not_mem_nil->qe,of_mem_zip->fm,pairwise_iff_getElem->Vn,range_succ_eq_map->Np,set_append_right->uq,set_cons_succ->Na,set_cons_zero->Oa,size_toArray->xa,take_length->xu
open List.Perm renaming cons_inv->y4,refl->Jr
open List.cons renaming injEq->Rq
open Nat renaming add_le_add_right->Vi,le_of_ble_eq_true->ec,le_of_eq->gB,le_of_lt->Qc,le_refl->ja,le_succ->Ui,le_trans->Qa,lt_irrefl->de,lt_of_le_of_lt->Ht,lt_of_lt_of_le->Da,lt_succ_of_lt->zb,lt_succ_self->yb,lt_trans->Tf,lt_trichotomy->wu,mod_lt->KH,ne_of_gt->De,ne_of_lt->ua,zero_le->Si
open Ne renaming symm->Fe
open Option renaming bind_eq_some_iff->rf,bind_some->rh,getD_none->As,isSome_iff_exists->cf,isSome_map->zj,isSome_some->bj,map_eq_some_iff->xb,map_some->zg
open Option.some renaming inj->qb,injEq->Gg
open Prod renaming ext->GP
open PyProof.Rows renaming AllBare->mh,IntsAre->oh,IsTup->Cs,callWith_builtin1->OD,callWith_type1->Zf,iadd_int->ND,slot_tuple_getitem->Nb,Subscript_->Ax,args_list_sort->HH,args_sorted1->D4,args_tuple_getitem->zx,boot_list->Zn,boot_tuple->xq,entry_list_iadd'->jB,entry_list_sort->TD,entry_proto_collect'->jv,entry_sorted->B4,entry_tuple_getitem->dw,envOfC->Kg,firstMet->Ef,firstMet_length_le->Ex,firstMet_succ->bQ,firstMet_zero->cQ,kind_sorted->K6,list_sort_tree->GH,plain_sorted->A4,seqObj->QH,slicePart_none->DH,slot_list_sort->FH,sortedHeap_at->aQ,sortedHeap_old->IH,step_dedup->Ix,subscriptTail->Lr,subscriptTail_builtinR->Et,tupleItemsOf_->HP
open PyProof.Rows.F renaming entry_set_update_loop->Tq,plain_set_update_loop->gi
open PyProof.Rows.IsTup renaming new->PD
open PySem renaming Around->Ja,BindsTo->Xe,Builtin->Ye,CmpOp->Jo,DictEntry->Hs,Drawn->mv,ElemsOf->Tp,Env->Cg,ExceptHandler->Mr,Expr->Ea,FuncData->Ud,GenState->Mm,IsPart->Sj,IsRangeIter->P6,ItemsOf->Pm,Keyword->Wi,Model->Rj,NameKind->Ee,Operator->nv,Params->OH,PassesOwn->Ds,PlainAttrs->Xl,Pos->se,Program->ra,boot_len->Rc,mem_of_lookup->ie,Result->bo,Sem->Io,SetTable->Bd,Slot->NH,Str->qa,Walks->S6,World->Ia,argsOk->SH,assign->ah,assignEach->Td,atKey->zq,attributeBase->Yc,backTo->vc,backToKw->Nm,behindInMarks->ue,behindIsImport->PH,binaryOp->ef,bindC->Gs,bindL->Fs,builtinLookup_eq_fast->yu,call_list_seq->YP,call_meetsIn->Nt,callerA->ck,cellsFrom->pB,codeAny_builtin->je,codeAny_mono->qf,codeAny_of_tree->VD,collect->gz,compareOp->Rb,concat_meets->Ct,entryFor->RH,entryFor_alias->JH,entryPlaceOf->K4,eval->Gb,evalPart_none->IP,firstArgMember->TH,fits_of_scanBound->sg,foldedSetIterable->vg,frameObject->R6,getAttr->F4,getItem->Qh,getMethod->Es,holding->Ce,intBits_le_64->DP,intKind->Le,interactive->O6,isSubtype_type->wq,isTrue->Gx,keywordEach->Rh,leaving->cz,newFields->sB,newList->M4,noFill_tuple_add->Tn,noteFrame->uh,operate->G4,pickOrder->fo,plainId_quiet->Ng,readyFrames->Q6,relayAll->Rm,release->bz,seqIndex_neg->Dt,seqIndex_of->iv,seq_tuple_add->Er,setAddHashed->N4,setFlight->dk,setItem->Qp,setNext->Sm,sizeLine_eq->fv,sliceBounds->Pg,slot_list_getitem->Py,standAt->ak,starEach->na,subscripted->Lo,swappedStores->al,swapsWith->Di,swapsWithSole->Zk,sysModules->df,tupleKind->ao,tupleKind_room_in1->yh,typeLookup_type->WD,typeOf->Hx,valueAt->Om,wpAny_Call_Name_kw->Sf,wpAny_Call_method_late->Ft,wpAny_Dict_empty->iB,wpAny_Name->xx,wpAny_askSetting->Yn,wpAny_assign_Name->My,wpAny_attempt->Yk,wpAny_bind->aa,wpAny_call->Dx,wpAny_callSpecial?_slot->vd,wpAny_call_entry->yc,wpAny_comprehension_free->Hr,wpAny_execs_cons->eB,wpAny_execs_nil->rp,wpAny_field->Pj,wpAny_fieldsOf->Qj,wpAny_holding->Wc,wpAny_isInstance->kB,wpAny_isTrue_Compare1->uu,wpAny_ite_split->Gf,wpAny_load->Vl,wpAny_mono->Uc,wpAny_newFunctionEnv->lv,wpAny_newList->ZP,wpAny_newObj_type->Ib,wpAny_of_eq->M6,wpAny_passesOwn->Yg,wpAny_pure->ia,wpAny_pyIter_enum->Uy,wpAny_pyIter_list->Im,wpAny_pyIter_slot->Wy,wpAny_pyIter_tuple->Bx,wpAny_rule->rq,wpAny_runValue->vq,wpAny_seqItems->LH,wpAny_sequenceKey->Ny,wpAny_setEntries_of->Af,wpAny_setEpoch_of->Xy,wpAny_setField->ug,wpAny_setState_of->We,wpAny_specialOf->SD,wpAny_standAt->Dr,wpAny_storeSet_of->Vy,wpAny_truthy_bool->ud,wpAny_typeOf->Ti,wpAny_updateSeq->XD,wp_field_iff->Kt,wp_setField_iff->QD
open PySem.Around renaming under->Ko,under_plainId->Nc
open PySem.AutoSeq1 renaming list_extend_list_list_0->G6
open PySem.BindsTo renaming of_defaults->Zd
open PySem.Builtin.Frozenset renaming newClass->pv,sizeOf->sv,updateFrom->qv
open PySem.Builtin.List renaming listExtendWith->ve,listLengthHint->ag,listSameRef->ek,listTooLong->Ig,listTouch->ZD
open PySem.Builtin.Range renaming rangeSize->mB
open PySem.Builtin.Slice renaming sliceAdjust->wg,sliceApplied->tj,sliceFields->rB,slicePartIndex->qB,slicePlaces->Ge
open PySem.Builtin.Tuple renaming tupleExact->Me,tupleIsExact->uB,tupleItemsOf->uj
open PySem.Calls renaming Name_function_global->Hm,callWith_builtin->Kh,call_function_entry->gn,evalArgs_plain->Ci
open PySem.CmpOp renaming In->MH,NotIn->az
open PySem.Code renaming frames->nB,isFrame->Rp
open PySem.DictEntry renaming refKey->E4
open PySem.EntryCells renaming newEntry->eo
open PySem.F renaming args_tuple_add_2->Zg,called_set->Ic,entry_tuple_add->gh,excBase_ValueError->uc,plainAttrs_dict->pf,plain_extend_loop->gm,plain_list_iadd->mf,plain_proto_collect->Xk,plain_set_new->Go,slot_dict_items->kh,slot_dict_update->Jm,slot_dict_values->Lm,slot_set_iter->Ho,slot_tuple_add->xh,type_dict_items->ln
open PySem.Heap renaming ExtBut->Uq,FlyingW->ez,HeldW->mn,SameBut->Oc,get?_eq_some->Jt,get?_push_of_some->ba,get?_push_size->Aa,get?_update_other->Be,get?_update_self->cc,lt_size->pa,size_push->dc
open PySem.Heap.DictOf renaming new->EH
open PySem.Heap.IsSliceOf renaming new->Oy
open PySem.Heap.IsTuple renaming push->RD
open PySem.Heap.Ns1 renaming of_empty->F6
open PySem.Heap.SameBut renaming refl->UD,update->pc
open PySem.IsL renaming update->u4
open PySem.NameKind renaming cell->Vb,free->Za
open PySem.Obj renaming cls_mapFields->Gk,data_mapFields->Lb,isFreed_of_fields->Ke,mapFields->ge,mapSeq->Bf,putSet->Qt
open PySem.PassesOwn renaming leaving->w4
open PySem.Sem renaming wp_bind'->Fk,wp_mono->Gr
open PySem.SeqAt renaming EqAt->Wd,RcAt->Lh,RcNeAt->Lg
open PySem.SeqAt.EqAt renaming bool_bool->NP,bool_int->OP,bool_none->MP,bool_str->PP,int_bool->RP,int_int->UP,int_none->QP,int_str->Do,none_bool->JP,none_int->KP,none_str->LP,same->yj,str_bool->WP,str_int->Eo,str_none->VP,str_str->XP
open PySem.SetTable renaming Met->V6,Probe->U6,advance->W6,below->ae,fits->k7,fits_plain_off->L6,freeSlot->X6,fresh->Js,grown->He,has->zu,insertAt->cj,laid->g7,layClean->i7,orStandIn->e7,probe->Y6,put->d7,relaid->f7,sizeAbove->j7,slot->T6,turns->Z6
open PySem.SetTable.below renaming go->Qm
open PySem.SetTable.probe renaming go->xg
open PySem.Shared renaming TypeIs->on
open PySem.Str renaming ofString->Vf
open PySem.Value renaming bool->tf,bytes->Zy,float->yq,int->Md,isInt->Yy,isInt_shape->ts,isStrOf->iw,none->Sa,ref->kb,str->Hk,type->uf
open PySem.W renaming OpenLaw->J4,callWith_K->Wl,cellsFrom_some->yx,hideAll_get->LD,kdl_dict->z4,kia_one->Pe,kitx_dict->Bt,kitx_list->FP,methodCall_KW->Ry,mg_of->fw,of_hideAll->Cr,plainGet_of->qq,mg_none_of->Sd,mg_of->Bs
open PySem.W.WData renaming int->YD
open PySem.W.WShape renaming has->dz
open PySem.Walks renaming list->hB
open PySem.Within renaming cons->MD
open PySem.pickOrder renaming go->Um
namespace L2
open PySem PySem.Spec PyProof.Rows
noncomputable abbrev Key:=Sum Int qa
noncomputable def kx:Key->Value->Bool
 | .inl k,v=>Yy k v
 | .inr x,v=>iw x v
noncomputable def mT(w:Ia):Key->Int
 | .inl k=>hashInt k
 | .inr x=>hashStr w x
theorem Vs:∀ {k:Key} {v:Value},kx k v=true->(∃ i t,k=Sum.inl i/\v=Md i t)\/(∃ x t,k=Sum.inr x/\v=Hk x t)
 | .inl i,v,h=>by
  obtain⟨t,e⟩:=ts (k:=i) (v:=v) h;exact .inl ⟨i,t,rfl,e⟩
 | .inr x,v,h=>by
  obtain⟨t,e⟩:=Value.isStrOf_shape (x:=x) (v:=v) h;exact .inr ⟨x,t,rfl,e⟩
theorem HZ(i:Int)(t:Tok):kx (.inl i) (.int i t)=true:=by simp[kx,Yy]
theorem ZU(x:qa)(t:Tok):kx (.inr x) (.str x t)=true:=by simp[kx,iw]
theorem QS(a b:Int):decide ((Sum.inl a:Key)=Sum.inl b)=(a == b):=by
 by_cases e:a=b
 ·subst e;simp
 ·have h:¬ (Sum.inl a:Key)=Sum.inl b:=λq=>e (Sum.inl.inj q);rw[Pc h];exact(kc.mpr e).symm
theorem tW(a b:qa):decide ((Sum.inr a:Key)=Sum.inr b)=decide (a=b):=by
 by_cases e:a=b
 ·subst e;simp
 ·have h:¬ (Sum.inr a:Key)=Sum.inr b:=λq=>e (Sum.inr.inj q);rw[Pc h,Pc e]
theorem f0(a:Int)(b:qa):decide ((Sum.inl a:Key)=Sum.inr b)=false:=Pc (λq=>nomatch q)
theorem YU(a:qa)(b:Int):decide ((Sum.inr a:Key)=Sum.inl b)=false:=Pc (λq=>nomatch q)
noncomputable def Ik(prog:ra)(w:Ia):PySem.KeyKind prog w Key where
 is:=kx
 hash:=mT w
 inj:=λv a b d hb=>by
  rcases Vs d with⟨i,t,rfl,rfl⟩|⟨x,t,rfl,rfl⟩
  ·rcases Vs hb with⟨j,u,rfl,e⟩|⟨y,u,rfl,e⟩
   ·injection e with e1 _;rw[e1]
   ·exact nomatch e
  ·rcases Vs hb with⟨j,u,rfl,e⟩|⟨y,u,rfl,e⟩
   ·exact nomatch e
   ·injection e with e1 _;rw[e1]
 byValue:=λk v h=>by
  rcases Vs h with⟨i,t,rfl,rfl⟩|⟨x,t,rfl,rfl⟩<;>rfl
 pyHash:=λc h=>by
  rcases Vs c with⟨i,t,rfl,rfl⟩|⟨x,t,rfl,rfl⟩
  ·exact wpAny_pyHash_int h
  ·exact wpAny_pyHash_str h
 eqBool:=λf c h=>by
  rcases Vs f with⟨i,t,rfl,rfl⟩|⟨x,t,rfl,rfl⟩
  ·rcases Vs c with⟨j,u,rfl,rfl⟩|⟨y,u,rfl,rfl⟩
   ·rw[QS]at h;exact wpAny_eqBool_int h
   ·rw[f0]at h;exact Do i t y u _ _ _ _ h
  ·rcases Vs c with⟨j,u,rfl,rfl⟩|⟨y,u,rfl,rfl⟩
   ·rw[YU]at h;exact Eo x t j u _ _ _ _ h
   ·rw[tW]at h;exact wpAny_eqBool_str h
 «strs»:=λk x t v h=>by
  rcases Vs h with⟨i,u,rfl,e⟩|⟨y,u,rfl,e⟩
  ·exact nomatch e
  ·injection e with e1 _;subst e1;cases v<;>rfl
theorem P0(prog:ra)(w:Ia)(k:Key)(v:Value):(Ik prog w).is k v=kx k v:=rfl
theorem oR(prog:ra)(w:Ia)(i:Int)(t:Tok):(Ik prog w).is (.inl i) (.int i t)=true:=HZ i t
theorem YR(prog:ra)(w:Ia)(x:qa)(t:Tok):(Ik prog w).is (.inr x) (.str x t)=true:=ZU x t
inductive V where
 |Hb|bl (b:Bool)|int (i:Int)|str (x:qa)|fD (b:Array UInt8)|Jw (b:UInt64)|ref (a:Addr)|ty (n:String)
 deriving DecidableEq
noncomputable def Zc:V->Value->Prop
 | .Hb,u=>u=Sa
 | .bl b,u=>u=tf b
 | .int i,u=>∃ t,u=Md i t
 | .str x,u=>∃ t,u=Hk x t
 | .fD b,u=>∃ t,u=Zy b t
 | .Jw b,u=>∃ t,u=yq b t
 | .ref a,u=>u=kb a
 | .ty n,u=>u=uf n
noncomputable abbrev zd:List V->List Value->Prop:=Paired Zc
theorem zd.length{xs:List V}{us:List Value}(r:zd xs us):xs.length=us.length:=Paired.length r
theorem zd.get:∀ {xs:List V} {us:List Value} {i:Nat} {x:V},zd xs us->xs[i]?=some x->∃ u,us[i]?=some u/\Zc x u
 |_,_,_,_,.nil,e=>by simp at e
 |_,_,0,_,.cons r _,e=>by simp at e;subst e;exact⟨_,rfl,r⟩
 |_,_,i+1,x,.cons _ t,e=>by
  obtain⟨u,a,b⟩:=zd.get (i:=i) (x:=x) t (by simpa using e);exact⟨u,by simpa using a,b⟩
theorem zd.set{x:V}{u:Value}(r:Zc x u):∀ {xs:List V} {us:List Value} (i:Nat),zd xs us->zd (xs.set i x) (us.set i u)
 |_,_,_,.nil=>.nil
 |_,_,0,.cons _ t=>.cons r t
 |_,_,i+1,.cons q t=>.cons q (zd.set r i t)
theorem zd.append:∀ {xs ys:List V} {us ws:List Value},zd xs us->zd ys ws->zd (xs++ys) (us++ws)
 |_,_,_,_,.nil,s=>s
 |_,_,_,_,.cons r t,s=>.cons r (zd.append t s)
theorem zd.take:∀ {xs:List V} {us:List Value} (n:Nat),zd xs us->zd (xs.take n) (us.take n)
 |_,_,0,_=>.nil
 |_,_,_+1,.nil=>.nil
 |_,_,n+1,.cons r t=>.cons r (zd.take n t)
theorem zd.drop:∀ {xs:List V} {us:List Value} (n:Nat),zd xs us->zd (xs.drop n) (us.drop n)
 |_,_,0,r=>r
 |_,_,_+1,.nil=>.nil
 |_,_,n+1,.cons _ t=>zd.drop n t
theorem zd.none_of:∀ {xs:List V} {us:List Value} {i:Nat},zd xs us->xs[i]?=none->us[i]?=none:=fun {xs us i} r e=>by
 have a:=r.length;have b:xs.length<=i:=Fb.mp e;exact Fb.mpr (by omega)
noncomputable def xo:Option V->Option Value->Prop
 |some v,some u=>Zc v u
 |none,none=>True
 |_,_=>False
noncomputable def KV{a:Type}:List (a × V)->List (a × Value)->Prop:=Paired λ(p:a × V) (q:a × Value)=>p.1=q.1/\Zc p.2 q.2
noncomputable def kV:Key->V
 | .inl i=>.int i
 | .inr x=>.str x
inductive HO where
 |lst (xs:List V)
 |tup (xs:List V)
 |dK (kvs:List (Key × V))|dT (kvs:List (List Key × V))
 |set (S:Int->Bool) (n:Nat)
 |ins (C dx:Addr) (fs:List (qa × V))
 |own (x:Addr)
 |xd (fs:List (qa × V))
 |met (f x:Addr)
 |XB (lo hi:Int)
 |rb (o:Obj) (u:HO)
 |Nr (ps:Array Value)
 |ext (φ:Heap->Prop)
noncomputable abbrev Hp:=Addr->Option HO
noncomputable def upd(H:Hp)(a:Addr)(o:HO):Hp:=λb=>if b=a then some o else H b
theorem fg{H:Hp}{a:Addr}{o:HO}:upd H a o a=some o:=by unfold upd;rw[da rfl]
theorem we{H:Hp}{a b:Addr}{o:HO}(h:b≠a):upd H a o b=H b:=by unfold upd;rw[ga h]
theorem TF{H:Hp}{a b:Addr}{o u:HO}(h:H a=some o)(h':H b=some u)(d:o≠u):a≠b:=by
 intro e;subst e;rw[h]at h';exact d (qb h')
theorem bn{H:Hp}{a b:Addr}{o:HO}(h:H a=some o)(h':H b=none):a≠b:=by
 intro e;subst e;rw[h]at h';cases h'
section
variable(P:ra)(w:Ia)
noncomputable def Wh(H:Hp)(h:Heap)(a:Addr):HO->Prop
 | .lst xs=>xs.length<=sizeLine/\∃ (b:List Value) (n:Nat),zd xs b/\h.get? a=some { cls:=.type "list",data:=.seq b.toArray n }
 | .tup xs=>xs.length<=sizeLine/\∃ b:List Value,zd xs b/\Cs h a b.toArray
 | .dK c=>c.length<=sizeLine/\(a == df)=false/\∃ k,KV c k/\h.DictOf (Ik P w) a k
 | .dT c=>c.length<=sizeLine/\(a == df)=false/\∃ xs:List (List Key × Addr × Value),
   Paired (λ(p:List Key × V) (q:List Key × Addr × Value)=>p.1=q.1/\H q.2.1=some (.tup (p.1.map kV))/\Zc p.2 q.2.2) c xs/\
   ∃ o g l,h.get? a=some o/\o.ExactDict/\o.data=.dict g l/\g.toList=xs.map (entryOfKey (ao (Ik P w)))/\(xs.map (·.1)).Nodup
 | .set S n=>h.SetOf (Le P w) a S n
 | .ins C e fs=>H e=some (.own a)/\fs.length<=1000/\e≠a/\h.get? a=some (W.instObj C e)/\
   ∃ d,h.Ns1 e d/\(∀ f,xo (fs.lookup f) (d f))/\PySem.Within d (fs.map (·.1))
 | .own _=>∃ o,h.get? a=some o
 | .xd fs=>∃ d,h.Ns1 a d/\∀ f,xo (fs.lookup f) (d f)
 | .XB lo m=>∃ t u v,h.get? a=some { cls:=.type "range",data:=.fields #[.int lo t,.int m u,.int 1 v] }
 | .rb o u=>h.get? a=some o/\Wh H h a u
 | .Nr r=>h.get? a=some { cls:=.none,data:=.fields r }
 | .met f x=>h.get? a=some (W.methodObj (.ref f) (.ref x))
 | .ext φ=>φ h/\(∃ o,h.get? a=some o)/\∀ i j:Heap,φ i->(∀ o,i.get? a=some o->j.get? a=some o)->φ j
noncomputable def Hh(H:Hp)(h:Heap):Prop:=∀ a o,H a=some o->Wh P w H h a o
end
section
variable{P:ra}{w:Ia}{H H':Hp}{h h':Heap}{a:Addr}{o:HO}
theorem Wh.lt(x:Wh P w H h a o):a<h.objs.size:=by
 cases o with
 |lst xs=>obtain⟨_,_,_,_,e⟩:=x;exact pa e
 |tup xs=>obtain⟨_,_,_,p⟩:=x;exact p.lt
 |dK b=>obtain⟨_,_,_,_,o,_,_,e,_⟩:=x;exact pa e
 |dT b=>obtain⟨_,_,_,_,o,_,_,e,_⟩:=x;exact pa e
 |set S n=>obtain⟨o,_,_,_,e,_⟩:=x;exact pa e
 |ins C c fs=>obtain⟨_,_,_,e,_⟩:=x;exact pa e
 |own y=>obtain⟨_,e⟩:=x;exact pa e
 |xd fs=>obtain⟨_,⟨_,_,_,e,_⟩,_⟩:=x;exact pa e
 |XB lo d=>obtain⟨_,_,_,e⟩:=x;exact pa e
 |rb g u=>obtain⟨e,_⟩:=x;exact pa e
 |Nr i=>exact pa (show h.get? a=some _ from x)
 |met f y=>exact pa (show h.get? a=some _ from x)
 |ext j=>obtain⟨_,⟨_,e⟩,_⟩:=x;exact pa e
theorem Paired.nq{e g:Type}{F G:e->g->Prop}:∀ {c:List e} {d:List g},Paired F c d->(∀ a b,F a b->G a b)->Paired G c d
 |_,_,.nil,_=>.nil
 |_,_,.cons r t,f=>.cons (f _ _ r) (Paired.nq t f)
theorem Wh.Ql(x:Wh P w H h a o)(k:∀ b u,(b=a\/H b=some (.own a))->h.get? b=some u->h'.get? b=some u)
  (F:∀ b,H b=some (.own a)->H' b=some (.own a)) (G:∀ b xs,H b=some (.tup xs)->H' b=some (.tup xs)):Wh P w H' h' a o:=by
 induction o with
 |lst xs=>obtain⟨z,l,n,r,e⟩:=x;exact⟨z,l,n,r,k _ _ (.inl rfl) e⟩
 |tup xs=>obtain⟨z,l,r,g,e,c⟩:=x;exact⟨z,l,r,g,k _ _ (.inl rfl) e,c⟩
 |dK m=>obtain⟨z,y,J,r,g,j,i,e,c⟩:=x;exact⟨z,y,J,r,g,j,i,k _ _ (.inl rfl) e,c⟩
 |dT m=>
  obtain⟨z,y,xs,r,g,j,i,e,c⟩:=x;exact⟨z,y,xs,Paired.nq r λp q z=>⟨z.1,G _ _ z.2.1,z.2.2⟩,g,j,i,k _ _ (.inl rfl) e,c⟩
 |set S n=>obtain⟨g,j,i,t,e,c⟩:=x;exact⟨g,j,i,t,k _ _ (.inl rfl) e,c⟩
 |ins C K fs=>
  obtain⟨d,z,ne,e,s,⟨A,j,i,E,c⟩,r⟩:=x;exact⟨F _ d,z,ne,k _ _ (.inl rfl) e,s,⟨A,j,i,k _ _ (.inr d) E,c⟩,r⟩
 |own y=>obtain⟨g,e⟩:=x;exact⟨g,k _ _ (.inl rfl) e⟩
 |xd fs=>obtain⟨s,⟨A,j,i,e,c⟩,r⟩:=x;exact⟨s,⟨A,j,i,k _ _ (.inl rfl) e,c⟩,r⟩
 |XB lo L=>obtain⟨t,u,v,e⟩:=x;exact⟨t,u,v,k _ _ (.inl rfl) e⟩
 |rb g u I=>obtain⟨e,q⟩:=x;exact⟨k _ _ (.inl rfl) e,I q⟩
 |Nr B=>
  have e:h.get? a=some { cls:=.none,data:=.fields B }:=x;show h'.get? a=some { cls:=.none,data:=.fields B };exact k a _ (.inl rfl) e
 |met f y=>
  have e:h.get? a=some (W.methodObj (.ref f) (.ref y)):=x;show h'.get? a=some (W.methodObj (.ref f) (.ref y));exact k a _ (.inl rfl) e
 |ext M=>obtain⟨p,⟨o,e⟩,D⟩:=x;exact⟨D _ _ p λo q=>k _ _ (.inl rfl) q,⟨o,k _ _ (.inl rfl) e⟩,D⟩
theorem Hh.lt(x:Hh P w H h)(e:H a=some o):a<h.objs.size:=(x a o e).lt
theorem Hh.fresh(x:Hh P w H h)(e:h.objs.size<=a):H a=none:=by
 cases q:H a with
 |none=>rfl
 |some u=>exact absurd (Da (x.lt q) e) (de _)
theorem Hh.kept(x:Hh P w H h)(k:∀ b u,h.get? b=some u->h'.get? b=some u):Hh P w H h':=λa o e=>
 (x a o e).Ql (λb u _ q=>k b u q) (λ_ q=>q) λ_ _ q=>q
theorem Hh.laid(x:Hh P w H h)(k:∀ b u,h.get? b=some u->h'.get? b=some u)(f:h.objs.size<=a)(d:Wh P w (upd H a o) h' a o):Hh P w (upd H a o) h':=λb u e=>by
 have hn:=x.fresh f;by_cases hb:b=a
 ·subst hb;rw[fg]at e;cases e;exact d
 ·rw[we hb]at e;exact(x b u e).Ql (λc v _ q=>k c v q) (λc q=>by rw[we (bn q hn)];exact q) λc xs q=>by rw[we (bn q hn)];exact q
end
noncomputable def Rd(H:Hp)(a:Addr)(u:HO):Prop:=H a=some u\/∃ o,H a=some (.rb o u)
theorem Rd.of{H:Hp}{a:Addr}{u:HO}(h:H a=some u):Rd H a u:=.inl h
theorem Rd.ok{P:ra}{w:Ia}{H:Hp}{h:Heap}{a:Addr}{u:HO}(r:Rd H a u)(x:Hh P w H h):Wh P w H h a u:=by
 rcases r with r|⟨o,r⟩
 ·exact x a u r
 ·obtain⟨_,q⟩:=x a _ r;exact q
noncomputable def tz:Option HO->Prop
 |some (.lst _)=>True
 |some (.dK _)=>True
 |some (.dT _)=>True
 |some (.set _ _)=>True
 |some (.ins _ _ _)=>True
 |some (.ext _)=>True
 |_=>False
section
variable{P:ra}{w:Ia}{H:Hp}{h h':Heap}{x e:Addr}{o':HO}
theorem Hh.write(ok:Hh P w H h)(i:tz (H x))(m:e=x\/H e=some (.own x))(k:∀ b u,b≠e->h.get? b=some u->h'.get? b=some u)(j:∃ u,h'.get? e=some u)
  (l:Wh P w (upd H x o') h' x o'):Hh P w (upd H x o') h':=λb u q=>by
 have d:∀ c y,H c=some (.own y)->c≠x:=λc y r z=>by subst z;rw[r]at i;exact i
 have f:∀ c xs,H c=some (.tup xs)->c≠x:=λc xs r z=>by subst z;rw[r]at i;exact i
 by_cases hb:b=x
 ·subst hb;rw[fg]at q;cases q;exact l
 ·rw[we hb]at q;by_cases a:b=e
  ·have n:H b=some (.own x):=by
    rcases m with z|z
    ·exact absurd (a.trans z) hb
    ·rw[a];exact z
   rw[q]at n;cases n;obtain⟨v,o⟩:=j;exact⟨v,by rw[a];exact o⟩
  ·refine(ok b u q).Ql (λc v g r=>k c v ?_ r) (λc r=>by rw[we (d c b r)];exact r) λc xs r=>by rw[we (f c xs r)];exact r
   rcases g with rfl|g
   ·exact a
   ·rintro rfl;rcases m with z|z
    ·exact d c b g z
    ·rw[g]at z;cases z;exact hb rfl
end
structure Un(fs ex:List Addr)(H H':Hp)(h h':Heap):Prop where
 keep:∀ b o,h.get? b=some o->H b=none->b ∉ fs->b ∉ ex->h'.get? b=some o
 slot:∀ b o,h.get? b=some o->H b=none->b∈fs->b ∉ ex->∃ sl,h'.get? b=some { o with slots:=sl }
 free:∀ b o,h.get? b=some o->H b=none->b ∉ ex->H' b=none
 there:∀ b o,h.get? b=some o->b ∉ ex->∃ o',h'.get? b=some o'
 ai:∀ b xs,H b=some (.tup xs)->H' b=some (.tup xs)
 vh:∀ b o u,H b=some (.rb o u)->H' b=some (.rb o u)
 Yh:∀ b ps,H b=some (.Nr ps)->∃ more,H' b=some (.Nr (ps++more))
section
variable{fs fs' ex ex':List Addr}{H H1 H2:Hp}{h h1 h2 h':Heap}{a x e:Addr}{o:HO}
theorem Un.any(u:Un fs ex H H1 h h1){b:Addr}{ob:Obj}(q:h.get? b=some ob)(n:H b=none)(a:b ∉ ex):∃ c,h1.get? b=some { ob with slots:=c }:=by
 by_cases hb:b∈fs
 ·exact u.slot b ob q n hb a
 ·exact⟨ob.slots,u.keep b ob q n hb a⟩
theorem Un.trans(a:Un fs ex H H1 h h1)(b:Un fs ex H1 H2 h1 h2):Un fs ex H H2 h h2 where
 keep:=λc e q n f d=>b.keep c e (a.keep c e q n f d) (a.free c e q n d) f d
 slot:=λc e q n f d=>by
  obtain⟨o,e1⟩:=a.slot c e q n f d;obtain⟨j,g⟩:=b.slot c _ e1 (a.free c e q n d) f d;exact⟨j,g⟩
 free:=λc e q n d=>by
  obtain⟨i,e1⟩:=a.there c e q d;exact b.free c i e1 (a.free c e q n d) d
 there:=λc e q d=>by
  obtain⟨i,e1⟩:=a.there c e q d;exact b.there c i e1 d
 ai:=λc xs q=>b.ai c xs (a.ai c xs q)
 vh:=λc e xs q=>b.vh c e xs (a.vh c e xs q)
 Yh:=λc m q=>by
  obtain⟨k,e1⟩:=a.Yh c m q;obtain⟨l,g⟩:=b.Yh c _ e1;exact⟨k++l,by rw[g,rj]⟩
theorem Un.kept(k:∀ b u,h.get? b=some u->h'.get? b=some u):Un fs ex H H h h':=
 ⟨λb a q _ _ _=>k b a q,λb a q _ _ _=>⟨a.slots,k b a q⟩,λ_ _ _ n _=>n,λb a q _=>⟨a,k b a q⟩,λ_ _ q=>q,λ_ _ _ q=>q,λ_ c q=>⟨#[],by rw[q];simp⟩⟩
theorem Un.refl:Un fs ex H H h h:=Un.kept λ_ _ q=>q
theorem Un.laid(k:∀ b u,h.get? b=some u->h'.get? b=some u)(c:h.objs.size<=a)(hn:H a=none):Un fs ex H (upd H a o) h h' where
 keep:=λb u q _ _ _=>k b u q
 slot:=λb u q _ _ _=>⟨u.slots,k b u q⟩
 free:=λb u q n _=>by rw[we (ua (Da (pa q) c))];exact n
 there:=λb u q _=>⟨u,k b u q⟩
 ai:=λb xs q=>by rw[we (bn q hn)];exact q
 vh:=λb u xs q=>by rw[we (bn q hn)];exact q
 Yh:=λb d q=>⟨#[],by rw[we (bn q hn),q];simp⟩
theorem Un.write(c:tz (H x))(g:e=x\/H e=some (.own x))(k:∀ b u,b≠e->h.get? b=some u->h'.get? b=some u)(d:∃ u,h'.get? e=some u):Un fs ex H (upd H x o) h h':=by
 have f:∀ b,H b=none->b≠x:=λb n z=>by subst z;rw[n]at c;exact c
 have hb:∀ b,H b=none->b≠e:=λb n z=>by
  subst z;rcases g with r|r
  ·exact f b n r
  ·rw[n]at r;cases r
 have hm:∀ b u,H b=some u->¬ tz (some u)->b≠x:=λb u q nm z=>by subst z;rw[q]at c;exact nm c
 refine⟨λb u q n _ _=>k b u (hb b n) q,λb u q n _ _=>⟨u.slots,k b u (hb b n) q⟩,λb u q n _=>by rw[we (f b n)];exact n,λb u q _=>?_,
  λb xs q=>by rw[we (hm b _ q λz=>z)];exact q,λb u xs q=>by rw[we (hm b _ q λz=>z)];exact q,λb i q=>⟨#[],by rw[we (hm b _ q λz=>z),q];simp⟩⟩
 by_cases a:b=e
 ·subst a;exact d
 ·exact⟨u,k b u a q⟩
theorem Un.mono(u:Un fs ex H H1 h h1)(hs:∀ b∈fs,b∈fs')(d:∀ b∈ex,b∈ex'):Un fs' ex' H H1 h h1:=
 ⟨λb c q n hb a=>u.keep b c q n (λz=>hb (hs b z)) λz=>a (d b z),λ_ _ q n _ a=>u.any q n λz=>a (d _ z),λb c q n a=>u.free b c q n λz=>a (d b z),λb c q a=>u.there b c q λz=>a (d b z),u.ai,u.vh,u.Yh⟩
end
noncomputable def ED(h:Heap)(H:Hp):List Addr:=(List.range h.objs.size).filter λa=>(H a).isSome
noncomputable def Pu(h:Heap)(H:Hp):Heap:=W.hideAll h (ED h H)
theorem zZ(h:Heap)(H:Hp):(Pu h H).objs.size=h.objs.size:=W.hideAll_size _ _
theorem HW{h:Heap}{H:Hp}{b:Addr}{o:Obj}(e:h.get? b=some o)(n:H b=none):(Pu h H).get? b=some o:=
 LD _ e λhm=>by
  have q:(H b).isSome=true:=(dm.mp hm).2;rw[n]at q;simp at q
theorem iX{h:Heap}{H:Hp}{b:Addr}{o:Obj}(e:(Pu h H).get? b=some o):h.get? b=some o/\H b=none:=by
 have a:h.get? b=some o:=Cr (ED h H) e;refine⟨a,?_⟩;cases q:H b with
 |none=>rfl
 |some x=>
  have hm:b∈ED h H:=dm.mpr ⟨Wg.mpr (pa a),by simp[q]⟩;have z:(Pu h H).get? b=none:=W.hideAll_none (ED h H) hm;rw[z]at e;cases e
noncomputable def XU(g h:Heap)(L:Addr):List (Addr × Obj):=(List.range h.objs.size).filterMap λa=>if a=L\/(g.get? a).isSome=true then none else (h.get? a).map λo=>(a,o)
noncomputable def Jh(g h:Heap)(L d:Addr):List (Addr × Obj):=(XU g h L).filter λp=>decide (p.1≠d)
structure Mod(K:W.Frag)(mg:qa->Option Value)(base:Heap):Prop where
 vw:K.In base
 glob:base.Ns mainGlobals mg
 blt:∃ mb,base.Ns builtinsNs mb/\∀ x:qa,x ≠ "__name__"->mb x=bootBuiltins x
 nolimit:base.NoLimit
structure Cx where
 prog:ra
 w:Ia
 K:W.Frag
 mg:qa->Option Value
 base:Heap
 A:Ja
 N:List qa
 s₀:Shared
 H₀:Hp
 env:Cg
 outer:List Cg
 stack:List Cg
 ex:List Addr
 fn:qa->Bool
 calm:Bool
 pn:List (Addr × Obj)
 xe:Value->Shared->Prop
noncomputable def yi(l:List Cg):List Addr:=l.filterMap (·.frame)
noncomputable abbrev Cx.fs(X:Cx):List Addr:=yi X.outer
noncomputable def cG(sc:Scope)(x:qa):Prop:=sc.names.lookup x=some .local\/sc.names.lookup x=some .cell\/sc.names.lookup x=some .free
noncomputable def Loc(sc:Scope)(x:qa):Prop:=sc.names.lookup x=some .local\/sc.names.lookup x=some .cell
noncomputable def hW(env:Cg)(h:Heap)(m:qa->Option Value)(x:qa)(u:Value):Prop:=
 (env.kindOf x=some .local/\m x=some u)\/((env.kindOf x=some .cell\/env.kindOf x=some .free)/\∃ c,env.cells.lookup x=some c/\h.IsCell c (some u))
structure Cx.Ok(X:Cx):Prop where
 mod:Mod X.K X.mg X.base
 kind:X.env.scope.kind=.function
 glob:X.env.globals=mainGlobals
 blt:X.env.builtins=builtinsNs
 above:X.s₀.heap.objs.size<=X.env.locals
 inj:∀ x y c,X.env.cells.lookup x=some c->X.env.cells.lookup y=some c->x=y
 has:∀ x,(X.env.kindOf x=some .cell\/X.env.kindOf x=some .free)->∃ c,X.env.cells.lookup x=some c
 rz:∀ x c,X.fn x=true->X.env.cells.lookup x=some c->X.s₀.heap.objs.size<=c
 hd:X.calm=true->X.A.handled=none
 frames:X.A.frames=some X.stack
 Lp:X.stack=X.outer\/(X.stack=X.env::X.outer/\X.env.frame=some X.env.locals)
 sD:∀ b∈X.ex,b≠X.env.locals/\∀ x c,X.env.cells.lookup x=some c->c≠b
 bs:∀ b o,X.base.get? b=some o->X.s₀.heap.get? b=some o/\X.H₀ b=none
 tu:X.base.objs.size<=X.s₀.heap.objs.size
 Ws:∀ b o,X.base.get? b=some o->b ∉ X.ex
 Os:∀ b∈X.ex,b ∉ X.fs
 Gj:X.s₀.heap.FunFrames X.base X.outer
 Nv:∀ b∈X.fs,X.H₀ b=none
structure Inv(X:Cx)(pins:List (Addr × Obj))(σ:List (Option V))(H:Hp)(s:Shared):Prop where
 ok:X.Ok
 os:s.os=X.s₀.os
 bare:mh s.gens
 base:Un X.fs X.ex X.H₀ H X.s₀.heap s.heap
 loc:∃ m,s.heap.Ns X.env.locals m/\∀ (i:Nat) (x:qa) (v:V),X.N[i]?=some x->σ[i]?=some (some v)->cG X.env.scope x->∃ u,Zc v u/\hW X.env s.heap m x u
 cell:∀ x c,X.env.cells.lookup x=some c->∃ v,s.heap.IsCell c v
 free:H X.env.locals=none
 zh:∀ x c,X.env.cells.lookup x=some c->H c=none
 pin:∀ p∈X.pn++pins,s.heap.get? p.1=some p.2/\H p.1=none/\p.1≠X.env.locals/\p.1 ∉ X.fs/\∀ v,p.2.data≠.cell v
 Pb:Hh X.prog X.w H s.heap
 len:σ.length=X.N.length
section
variable{X:Cx}{pins:List (Addr × Obj)}{σ:List (Option V)}{H H':Hp}{s:Shared}{h':Heap}
theorem Cx.Ok.ZE(ok:X.Ok){b:Addr}{o:Obj}(e:X.base.get? b=some o):b ∉ X.fs:=λhb=>by
 have:=(ok.Gj.mem hb).1;rw[e]at this;cases this
theorem Inv.bs(I:Inv X pins σ H s):∀ b o,X.base.get? b=some o->s.heap.get? b=some o/\H b=none:=λb o e=>
 ⟨I.base.keep b o (I.ok.bs b o e).1 (I.ok.bs b o e).2 (I.ok.ZE e) (I.ok.Ws b o e),I.base.free b o (I.ok.bs b o e).1 (I.ok.bs b o e).2 (I.ok.Ws b o e)⟩
theorem Inv.bk(I:Inv X pins σ H s):∀ b o,X.base.get? b=some o->s.heap.get? b=some o:=λb o e=>(I.bs b o e).1
theorem Inv.mod(I:Inv X pins σ H s):Mod X.K X.mg X.base:=I.ok.mod
theorem Inv.Kj(I:Inv X pins σ H s):X.K.In s.heap:=I.ok.mod.vw.keeps I.bk
theorem Inv.nolimit(I:Inv X pins σ H s):s.heap.NoLimit:=I.ok.mod.nolimit.keeps I.bk
theorem Inv.lt(I:Inv X pins σ H s):X.env.locals<s.heap.objs.size:=let ⟨_,hn,_⟩:=I.loc;hn.lt
theorem Inv.sz(I:Inv X pins σ H s):X.s₀.heap.objs.size<=s.heap.objs.size:=Qa I.ok.above (Qc I.lt)
theorem Inv.GE(I:Inv X pins σ H s){a:Addr}(h:s.heap.objs.size<=a):a ∉ X.fs:=λhb=>by
 obtain⟨_,o,b,_⟩:=I.ok.Gj.mem hb;exact absurd (Da (pa b) (Qa I.sz h)) (de _)
theorem Inv.sw(I:Inv X pins σ H s):∀ x c,X.env.cells.lookup x=some c->c≠X.env.locals:=λx c e z=>by
 obtain⟨v,o,d,hd⟩:=I.cell x c e;obtain⟨m,⟨h,g,f,b,a,_⟩,_⟩:=I.loc;rw[z,b]at d;cases d;rw[a]at hd;cases hd
theorem Inv.Gj(I:Inv X pins σ H s):s.heap.FunFrames X.base X.outer:=by
 have all:∀ (l:List Cg),(∀ b∈yi l,b∈X.fs)->X.s₀.heap.FunFrames X.base l->s.heap.FunFrames X.base l:=by
  intro l;induction l with
  |nil=>intro _ _;trivial
  |cons env r i=>
   intro hs f;obtain⟨d,⟨L,o,c,hn,g,hd⟩,h⟩:=f;have a:L∈X.fs:=hs L (by unfold yi;rw[bf,c];exact Ba);obtain⟨j,e⟩:=I.base.slot L o g (I.ok.Nv L a) a λz=>I.ok.Os L z a;exact⟨d,⟨L,_,c,hn,e,hd⟩,i (λb hb=>hs b (by unfold yi;rw[bf,c];exact wa _ hb)) h⟩
 exact all X.outer (λ_ hb=>hb) I.ok.Gj
theorem Inv.stack(I:Inv X pins σ H s):s.heap.FunFrames X.base X.stack:=by
 rcases I.ok.Lp with e|⟨e,a⟩
 ·rw[e];exact I.Gj
 ·rw[e];obtain⟨m,hn,_⟩:=I.loc;refine .cons (by rw[I.ok.kind];decide) a hn ?_ I.Gj;exact Heap.get?_none_of_le (Qa I.ok.tu I.ok.above)
theorem Inv.Zp(I:Inv X pins σ H s):∀ b∈yi X.stack,b∈X.env.locals::X.fs:=λb hb=>by
 rcases I.ok.Lp with e|⟨e,a⟩
 ·rw[e]at hb;exact wa _ hb
 ·rw[e]at hb;unfold yi at hb;rw[bf,a]at hb;exact hb
theorem Inv.Lk(I:Inv X pins σ H s):∀ b∈yi X.stack,H b=none:=λb hb=>by
 rcases Ca.mp (I.Zp b hb)with e|hb
 ·rw[e];exact I.free
 ·obtain⟨_,o,a,_⟩:=I.ok.Gj.mem hb;exact I.base.free b o a (I.ok.Nv b hb) λz=>I.ok.Os b z hb
theorem Inv.step{g':Array Mm}{t':Nat}{d':mv}{ch:List Addr}(I:Inv X pins σ H s)
  (g:∀ b∈ch,(b∈X.ex\/X.s₀.heap.objs.size<=b)/\b≠X.env.locals/\(∀ x c,X.env.cells.lookup x=some c->c≠b)/\∀ p∈X.pn++pins,p.1≠b)
  (keep:∀ b o,b≠X.env.locals->b ∉ X.fs->b ∉ ch->s.heap.get? b=some o->H b=none->h'.get? b=some o)
  (slot:∀ b o,b≠X.env.locals->b∈X.fs->b ∉ ch->s.heap.get? b=some o->H b=none->∃ C,h'.get? b=some { o with slots:=C }) (free:∀ b o,b ∉ ch->s.heap.get? b=some o->H b=none->H' b=none)
  (there:∀ b o,b ∉ ch->s.heap.get? b=some o->∃ B,h'.get? b=some B)
  (ai:∀ b xs,H b=some (.tup xs)->H' b=some (.tup xs)) (vh:∀ b o u,H b=some (.rb o u)->H' b=some (.rb o u)) (Yh:∀ b ps,H b=some (.Nr ps)->∃ more,H' b=some (.Nr (ps++more)))
  (ns:∀ m,s.heap.Ns X.env.locals m->h'.Ns X.env.locals m) (Pb:Hh X.prog X.w H' h') (K:mh g') :
  Inv X pins σ H' { s with heap:=h',gens:=g',drawn:=d',toks:=t' }:=by
 have A:∀ b o,X.s₀.heap.get? b=some o->b≠X.env.locals:=λb o e=>ua (Da (pa e) I.ok.above);have j:∀ b o,X.s₀.heap.get? b=some o->b ∉ X.ex->b ∉ ch:=λb o e a hb=>by
  rcases(g b hb).1 with z|z
  ·exact a z
  ·exact absurd (Da (pa e) z) (de _)
 have f:∀ x c,X.env.cells.lookup x=some c->∀ v,s.heap.IsCell c v->h'.IsCell c v:=λx c e v ⟨o,t,hd⟩=>by
  have h:c ∉ ch:=λz=>(g c z).2.2.1 x c e rfl;by_cases E:c∈X.fs
  ·obtain⟨C,q⟩:=slot c o (I.sw x c e) E h t (I.zh x c e);exact⟨_,q,hd⟩
  ·exact⟨o,keep c o (I.sw x c e) E h t (I.zh x c e),hd⟩
 refine⟨I.ok,I.os,K,⟨λb o e n hb a=>?_,λb o e n hb a=>?_,λb o e n a=>?_,λb o e a=>?_,λb xs e=>ai b xs (I.base.ai b xs e),λb o xs e=>vh b o xs (I.base.vh b o xs e),λb ps e=>?_⟩,?_,λx c e=>?_,?_,λx c e=>?_,λp F=>?_,Pb,I.len⟩
 ·exact keep b o (A b o e) hb (j b o e a) (I.base.keep b o e n hb a) (I.base.free b o e n a)
 ·obtain⟨C,e1⟩:=I.base.slot b o e n hb a;obtain⟨D,y⟩:=slot b _ (A b o e) hb (j b o e a) e1 (I.base.free b o e n a);exact⟨D,y⟩
 ·obtain⟨B,e1⟩:=I.base.there b o e a;exact free b B (j b o e a) e1 (I.base.free b o e n a)
 ·obtain⟨B,e1⟩:=I.base.there b o e a;exact there b B (j b o e a) e1
 ·obtain⟨M,e1⟩:=I.base.Yh b ps e;obtain⟨N,y⟩:=Yh b _ e1;exact⟨M++N,by rw[y,rj]⟩
 ·obtain⟨m,hn,L⟩:=I.loc;refine⟨m,ns m hn,λi x v e1 y J=>?_⟩;obtain⟨u,r,l⟩:=L i x v e1 y J;refine⟨u,r,?_⟩;rcases l with l|⟨k,c,e,z⟩
  ·exact .inl l
  ·exact .inr ⟨k,c,e,f x c e _ z⟩
 ·obtain⟨v,z⟩:=I.cell x c e;exact⟨v,f x c e v z⟩
 ·obtain⟨m,⟨o,_,_,t,_⟩,_⟩:=I.loc;exact free _ o (λz=>(g _ z).2.1 rfl) t I.free
 ·obtain⟨v,o,t,hd⟩:=I.cell x c e;exact free c o (λz=>(g c z).2.2.1 x c e rfl) t (I.zh x c e)
 ·obtain⟨e,n,ne,G,d⟩:=I.pin p F;have h:p.1 ∉ ch:=λz=>(g p.1 z).2.2.2 p F rfl;exact⟨keep p.1 p.2 ne G h e n,free p.1 p.2 h e n,ne,G,d⟩
theorem Inv.un{t':Nat}(I:Inv X pins σ H s)(u:Un X.fs [] H H' s.heap h')(Pb:Hh X.prog X.w H' h'):Inv X pins σ H' { s with heap:=h',toks:=t' }:=by
 obtain⟨m,⟨o,j,i,f,r⟩,_⟩:=id I.loc;obtain⟨p,g⟩:=u.any f I.free (by simp);exact I.step (g':=s.gens) (d':=s.drawn) (ch:=[]) (λ_ z=>nomatch z) (λb o _ hb _ e n=>u.keep b o e n hb (by simp)) (λb o _ hb _ e n=>u.slot b o e n hb (by simp)) (λb o _ e n=>u.free b o e n (by simp)) (λb o _ e=>u.there b o e (by simp)) u.ai u.vh u.Yh (λk hm=>by
  obtain⟨l,d,c,a,h⟩:=hm;rw[f]at a;cases a;exact⟨_,d,c,g,h⟩) Pb I.bare
theorem Inv.call{g':Array Mm}{t':Nat}{d':mv}{ch:List Addr}(I:Inv X pins σ H s)(u:Un (yi X.stack) ch H H' s.heap h')(Pb:Hh X.prog X.w H' h')(k:mh g')
  (d:∀ b∈ch,(b∈X.ex\/X.s₀.heap.objs.size<=b)/\b≠X.env.locals/\(∀ x c,X.env.cells.lookup x=some c->c≠b)/\∀ p∈X.pn++pins,p.1≠b) :
  Inv X pins σ H' { s with heap:=h',gens:=g',drawn:=d',toks:=t' }:=by
 obtain⟨m,⟨o,t,q,j,r⟩,_⟩:=id I.loc;obtain⟨A,i⟩:=u.any j I.free λz=>(d _ z).2.1 rfl;exact I.step (ch:=ch) d (λb o i hb a e n=>u.keep b o e n (λz=>(Ca.mp (I.Zp b z)).elim i hb) a) (λb o _ _ a e n=>u.any e n a) (λb o a e n=>u.free b o e n a) (λb o a e=>u.there b o e a) u.ai u.vh u.Yh (λv hm=>by
  obtain⟨y,h,g,f,l⟩:=hm;rw[j]at f;cases f;exact⟨_,h,g,i,l⟩) Pb k
theorem Inv.turned{t':Nat}{it:Addr}(I:Inv X pins σ H s)(k:∀ b o,b≠it->s.heap.get? b=some o->h'.get? b=some o)(hn:H it=none)(f:it≠X.env.locals)
  (i:it∈X.ex\/X.s₀.heap.objs.size<=it) (j:∀ x c,X.env.cells.lookup x=some c->c≠it) (l:∀ p∈X.pn++pins,p.1≠it):Inv X pins σ H { s with heap:=h',toks:=t' }:=by
 have d:∀ b u,H b=some u->b≠it:=λb u e z=>by rw[z,hn]at e;cases e
 refine I.step (g':=s.gens) (d':=s.drawn) (ch:=[it]) (λb hb=>?_) (λb o _ _ a e _=>k b o (λz=>a (by simp[z])) e) (λb o _ _ a e _=>⟨o.slots,k b o (λz=>a (by simp[z])) e⟩) (λ_ _ _ _ n=>n)
  (λb o a e=>⟨o,k b o (λz=>a (by simp[z])) e⟩) (λ_ _ e=>e) (λ_ _ _ e=>e) (λb w e=>⟨#[],by rw[e];simp⟩) (λm hm=>?_) (λb u e=>?_) I.bare
 ·have e:b=it:=by simpa using hb
  subst e;exact⟨i,f,j,l⟩
 ·obtain⟨o,h,g,t,r⟩:=hm;exact⟨o,h,g,k _ o (Fe f) t,r⟩
 ·refine(I.Pb b u e).Ql (λc v a q=>k c v ?_ q) (λ_ q=>q) λ_ _ q=>q;rcases a with z|z
  ·rw[z];exact d b u e
  ·exact d c _ z
theorem Inv.tok(I:Inv X pins σ H s)(t:Nat):Inv X pins σ H { s with toks:=t }:=I.un (h':=s.heap) (t':=t) Un.refl I.Pb
theorem Inv.kept{t':Nat}(I:Inv X pins σ H s)(k:∀ b u,s.heap.get? b=some u->h'.get? b=some u):Inv X pins σ H { s with heap:=h',toks:=t' }:=I.un (Un.kept k) (I.Pb.kept k)
theorem Inv.laid{a:Addr}{o:HO}{t':Nat}(I:Inv X pins σ H s)(k:∀ b u,s.heap.get? b=some u->h'.get? b=some u)(c:s.heap.objs.size<=a)(d:Wh X.prog X.w (upd H a o) h' a o) :
  Inv X pins σ (upd H a o) { s with heap:=h',toks:=t' }:=I.un (Un.laid k c (I.Pb.fresh c)) (I.Pb.laid k c d)
theorem Inv.write{x e:Addr}{o:HO}{t':Nat}(I:Inv X pins σ H s)(f:tz (H x))(d:e=x\/H e=some (.own x))(k:∀ b u,b≠e->s.heap.get? b=some u->h'.get? b=some u)(a:∃ u,h'.get? e=some u)
  (c:Wh X.prog X.w (upd H x o) h' x o):Inv X pins σ (upd H x o) { s with heap:=h',toks:=t' }:=I.un (Un.write f d k a) (I.Pb.write f d k a c)
theorem Inv.Fq{a:List (Addr × Obj)}(I:Inv X pins σ H s)(h:∀ p∈a,s.heap.get? p.1=some p.2/\H p.1=none/\p.1≠X.env.locals/\p.1 ∉ X.fs/\∀ v,p.2.data≠.cell v):Inv X a σ H s:=
 ⟨I.ok,I.os,I.bare,I.base,I.loc,I.cell,I.free,I.zh,λp b=>(Pd.mp b).elim (λz=>I.pin p (Pa _ z)) (h p),I.Pb,I.len⟩
theorem kJ{N:List qa}(hN:N.Nodup){i j:Nat}{x:qa}(a:N[i]?=some x)(b:N[j]?=some x):i=j:=by
 obtain⟨d,e1⟩:=ka.mp a;obtain⟨e,c⟩:=ka.mp b;exact(List.getElem_inj hN).mp (e1.trans c.symm)
theorem oN{M:Rj}{A:Ja}{E:Value->Shared->Prop}{i:Nat}{x:qa}{v:V}{u:Value}{Q:Unit->Shared->Prop}(I:Inv X pins σ H s)(hN:X.N.Nodup)(O:X.N[i]?=some x)(l:Loc X.env.scope x)(r:Zc v u)
  (h:∀ s',Inv X pins (σ.set i (some v)) H s'->(∃ a,Oc a s.heap s'.heap/\(a=X.env.locals\/X.env.cells.lookup x=some a))->Q () s') (hf:X.fn x=true\/X.env.scope.names.lookup x=some .local:=by first|exact .inl rfl|exact .inr rfl|assumption):wpAny M A (storeName X.env x u) Q E s:=by
 obtain⟨m,hn,hl⟩:=id I.loc;have L:(X.env.scope.kind == .class || (X.env.scope.kind == .module && X.env.locals != X.env.globals))=false:=by rw[I.ok.kind];rfl
 have C:i<σ.length:=by rw[I.len];exact(ka.mp O).1
 have sw:=I.sw;have f:∀ {a:Addr} {h':Heap},(∃ o,s.heap.get? a=some o/\H a=none)->Oc a s.heap h'->Hh X.prog X.w H h':=fun {a h'} ha hs b ob e=>by
  obtain⟨_,_,t⟩:=ha;refine(I.Pb b ob e).Ql (λc T g q=>(hs.2 c ?_).trans q) (λ_ q=>q) λ_ _ q=>q;rintro rfl;rcases g with rfl|g
  ·rw[t]at e;cases e
  ·rw[t]at g;cases g
 rcases l with D|D
 ·refine wpAny_storeName_local D hn (λh' W hs=>?_) L;obtain⟨oL,_,_,Y,_⟩:=id hn;refine h _ ⟨I.ok,I.os,I.bare,⟨λb o e n hb l=>?_,λb o e n hb l=>?_,I.base.free,λb o e l=>?_,I.base.ai,I.base.vh,I.base.Yh⟩,⟨_,W,λj y v' e1 B U=>?_⟩,λy c e=>?_,I.free,I.zh,λp Z=>?_,f ⟨oL,Y,I.free⟩ hs,by simpa using I.len⟩ ⟨_,hs,.inl rfl⟩
  ·exact(hs.2 b (ua (Da (pa e) I.ok.above))).trans (I.base.keep b o e n hb l)
  ·obtain⟨sl,e1⟩:=I.base.slot b o e n hb l;exact⟨sl,(hs.2 b (ua (Da (pa e) I.ok.above))).trans e1⟩
  ·obtain⟨o',e1⟩:=I.base.there b o e l;exact⟨o',(hs.2 b (ua (Da (pa e) I.ok.above))).trans e1⟩
  ·by_cases G:j=i
   ·subst G;rw[O]at e1;cases e1;rw[Mp C]at B;cases B;exact⟨u,r,.inl ⟨D,by simp⟩⟩
   ·rw[Pq (Fe G)]at B;obtain⟨u',r',q⟩:=hl j y v' e1 B U;refine⟨u',r',?_⟩;rcases q with⟨k,e⟩|⟨k,c,e,z⟩
    ·refine .inl ⟨k,?_⟩;have:y≠x:=λe=>G (kJ hN e1 (e ▸ O));simp[this,e]
    ·exact .inr ⟨k,c,e,z.sameBut hs (sw y c e)⟩
  ·obtain⟨T,z⟩:=I.cell y c e;exact⟨T,z.sameBut hs (sw y c e)⟩
  ·obtain⟨e,n,ne,nf,d⟩:=I.pin p Z;exact⟨(hs.2 p.1 ne).trans e,n,ne,nf,d⟩
 ·have F:X.fn x=true:=by
   rcases hf with z|z
   ·exact z
   ·rw[z]at D;cases D
  obtain⟨c,g⟩:=I.ok.has x (.inl D);obtain⟨T,z⟩:=I.cell x c g;refine wpAny_storeName_cell I.ok.kind D g z (λh' J hs=>?_);obtain⟨oc,P,R⟩:=id z;refine h { s with heap:=h' } ⟨I.ok,I.os,I.bare,⟨λb o e n hb l=>?_,λb o e n hb l=>?_,I.base.free,λb o e l=>?_,I.base.ai,I.base.vh,I.base.Yh⟩,⟨m,hn.sameBut hs (Fe (sw x c g)),λj y v' e1 B U=>?_⟩,λy S e=>?_,I.free,I.zh,λp Z=>?_,f ⟨oc,P,I.zh x c g⟩ hs,by simpa using I.len⟩ ⟨c,hs,.inr g⟩
  ·exact(hs.2 b (ua (Da (pa e) (I.ok.rz x c F g)))).trans (I.base.keep b o e n hb l)
  ·obtain⟨sl,e1⟩:=I.base.slot b o e n hb l;exact⟨sl,(hs.2 b (ua (Da (pa e) (I.ok.rz x c F g)))).trans e1⟩
  ·obtain⟨o',e1⟩:=I.base.there b o e l;exact⟨o',(hs.2 b (ua (Da (pa e) (I.ok.rz x c F g)))).trans e1⟩
  ·by_cases G:j=i
   ·subst G;rw[O]at e1;cases e1;rw[Mp C]at B;cases B;exact⟨u,r,.inr ⟨.inl D,c,g,J⟩⟩
   ·rw[Pq (Fe G)]at B;obtain⟨u',r',q⟩:=hl j y v' e1 B U;refine⟨u',r',?_⟩;rcases q with q|⟨k,S,e,z'⟩
    ·exact .inl q
    ·refine .inr ⟨k,S,e,z'.sameBut hs ?_⟩;rintro rfl;exact G (kJ hN e1 (I.ok.inj _ _ _ e g ▸ O))
  ·by_cases K:S=c
   ·subst K;exact⟨_,J⟩
   ·obtain⟨w2,z2⟩:=I.cell y S e;exact⟨w2,z2.sameBut hs K⟩
  ·obtain⟨e,n,ne,nf,d⟩:=I.pin p Z;refine⟨(hs.2 p.1 ?_).trans e,n,ne,nf,d⟩;intro q;rw[q,P]at e;have q':oc=p.2:=qb e;exact d T (by rw[<-q'];exact R)
theorem LJ{M:Rj}{A:Ja}{E:Value->Shared->Prop}{i:Nat}{x:qa}{v:V}{u:Value}{Q:Unit->Shared->Prop}(I:Inv X pins σ H s)(hN:X.N.Nodup)(c:X.N[i]?=some x)(d:Loc X.env.scope x)(r:Zc v u)
  (h:∀ s',Inv X pins (σ.set i (some v)) H s'->Q () s') (b:X.fn x=true\/X.env.scope.names.lookup x=some .local:=by first|exact .inl rfl|exact .inr rfl|assumption):wpAny M A (storeName X.env x u) Q E s:=
 oN I hN c d r (λs' a _=>h s' a) b
theorem Inv.Ps{s':Shared}{ch:List Addr}(I:Inv X pins σ H s)(f:s'.os=s.os)(u:Un (yi X.stack) ch H H' s.heap s'.heap)(Pb:Hh X.prog X.w H' s'.heap)(d:mh s'.gens)
  (a:∀ b∈ch,(b∈X.ex\/X.s₀.heap.objs.size<=b)/\b≠X.env.locals/\(∀ x c,X.env.cells.lookup x=some c->c≠b)/\∀ p∈X.pn++pins,p.1≠b):Inv X pins σ H' s':=by
 obtain⟨h',g',d',t',g⟩:=s';have e:g=s.os:=f;subst e;exact I.call (g':=g') (t':=t') (d':=d') u Pb d a
end
noncomputable abbrev XK:=Value->Option Addr->Hp->Prop
noncomputable abbrev St:=List (Option V)
noncomputable abbrev VK:=V->Hp->Prop
noncomputable abbrev TE:=St->Hp->VK->Prop
noncomputable abbrev TT:=St->Hp->(Bool->Hp->Prop)->Prop
noncomputable abbrev TA:=St->Hp->(List V->Hp->Prop)->Prop
structure Ends where
 nx:St->Hp->Prop
 rt:VK
 bk:St->Hp->Prop:=λ_ _=>False
 ct:St->Hp->Prop:=λ_ _=>False
noncomputable abbrev TS:=Ends->St->Hp->Prop
noncomputable def EP(X:Cx)(a:List (Addr × Obj))(σ:St)(Q:VK)(u:Value)(s':Shared):Prop:=∃ v b,Inv X a σ b s'/\Zc v u/\Q v b
noncomputable def TP(X:Cx)(a:List (Addr × Obj))(σ:St)(Q:Bool->Hp->Prop)(b:Bool)(s':Shared):Prop:=∃ c,Inv X a σ c s'/\Q b c
noncomputable def AP(X:Cx)(a:List (Addr × Obj))(σ:St)(Q:List V->Hp->Prop)(us:List Value)(s':Shared):Prop:=∃ c b,Inv X a σ b s'/\zd c us/\Q c b
noncomputable def SP(X:Cx)(b:List (Addr × Obj))(D:Ends)(f:Flow)(s':Shared):Prop:=
 match f with
 | .next=>∃ a c,Inv X b a c s'/\D.nx a c
 | .brk=>∃ a c,Inv X b a c s'/\D.bk a c
 | .cont=>∃ a c,Inv X b a c s'/\D.ct a c
 | .ret u=>∃ v a c,Inv X b a c s'/\Zc v u/\D.rt v c
noncomputable def PE(X:Cx)(e:Ea)(t:TE):Prop:=
 ∀ (a:List (Addr × Obj)) (s:Shared) (σ:St) (H:Hp) (Q:VK),Inv X a σ H s->t σ H Q->wpAny (model X.prog X.w) X.A (Gb e X.env) (EP X a σ Q) X.xe s
noncomputable def PT(X:Cx)(e:Ea)(t:TT):Prop:=
 ∀ (a:List (Addr × Obj)) (s:Shared) (σ:St) (H:Hp) (Q:Bool->Hp->Prop),Inv X a σ H s->t σ H Q->wpAny (model X.prog X.w) X.A (Gx e X.env (Gb e X.env)) (TP X a σ Q) X.xe s
noncomputable def PW(X:Cx)(e:Ea)(t:TT):Prop:=
 ∀ (a:Io Value) (pins:List (Addr × Obj)) (s:Shared) (σ:St) (H:Hp) (Q:Bool->Hp->Prop),Inv X pins σ H s->t σ H Q->wpAny (model X.prog X.w) X.A (Gx e X.env a) (TP X pins σ Q) X.xe s
theorem PW.pt{X:Cx}{e:Ea}{t:TT}(h:PW X e t):PT X e t:=h _
noncomputable def PA(X:Cx)(es:List Ea)(t:TA):Prop:=
 ∀ (a:se) (pins:List (Addr × Obj)) (s:Shared) (σ:St) (H:Hp) (Q:List V->Hp->Prop),Inv X pins σ H s->t σ H Q->wpAny (model X.prog X.w) X.A (spliced (vc a (na es X.env))) (AP X pins σ Q) X.xe s
noncomputable def PS(X:Cx)(b:Stmt)(t:TS):Prop:=
 ∀ (a:List (Addr × Obj)) (s:Shared) (σ:St) (H:Hp) (D:Ends),Inv X a σ H s->t D σ H->wpAny (model X.prog X.w) X.A (exec b X.env) (SP X a D) X.xe s
noncomputable def Nq(X:Cx)(b:List Stmt)(t:TS):Prop:=
 ∀ (a:List (Addr × Obj)) (s:Shared) (σ:St) (H:Hp) (D:Ends),Inv X a σ H s->t D σ H->wpAny (model X.prog X.w) X.A (execs b X.env) (SP X a D) X.xe s
theorem Ad{c:Type}{t:Io c}{Q b:c->Shared->Prop}{M:Rj}{A:Ja}{E:Value->Shared->Prop}{s:Shared}(h:wpAny M A t Q E s)(d:∀ a s,Q a s->b a s):wpAny M A t b E s:=Uc h d λ_ _ x=>x
section
variable{X:Cx}
theorem bin{a b:Ea}{k tb:TE}(o:PE X a k)(hb:PE X b tb){c:List (Addr × Obj)}{s:Shared}{σ:St}{H:Hp}{R:V->V->Hp->Prop}(I:Inv X c σ H s)(h:k σ H λx j=>tb σ j λy d=>R x y d)
  {l:Type} {Q:l->Shared->Prop} {f:Value->Value->Io l}
  (p:∀ v u i x y d,Inv X c σ d i->Zc x v->Zc y u->R x y d->wpAny (model X.prog X.w) X.A (f v u) Q X.xe i) :
  wpAny (model X.prog X.w) X.A (Gb a X.env) (λv e=>wpAny (model X.prog X.w) X.A (Gb b X.env) (λu g=>wpAny (model X.prog X.w) X.A (f v u) Q X.xe g) X.xe e) X.xe s:=by
 refine Ad (o c s σ H _ I h) λv s1 ⟨x,j,m,t,q⟩=>?_;refine Ad (hb c s1 σ j _ m q) λu i ⟨y,d,n,z,r⟩=>?_;exact p v u i x y d n t z r
noncomputable def kT(i:Nat):TE:=λa H Q=>∃ v,a[i]?=some (some v)/\Q v H
noncomputable def tC(v:V):TE:=λ_ H Q=>Q v H
theorem D1{i:Nat}{x:qa}{pos:se}(hN:X.N[i]?=some x)(n:cG X.env.scope x)(hd:(x == ("__debug__" : qa))=false:=by decide)(g:(x == ("__classdict__" : qa))=false:=by decide):PE X (.Name x pos) (kT i):=by
 intro f s o H Q I h;obtain⟨v,e,h⟩:=h;obtain⟨m,hn,k⟩:=I.loc;obtain⟨u,r,l⟩:=k i x v hN e n;have b:EP X f o Q u s:=⟨v,H,I,r,h⟩
 rcases l with⟨d,hm⟩|⟨d,c,j,a⟩
 ·exact xx (wpAny_loadName_local I.ok.kind d hn hm b) hd
 ·rcases d with d|d
  ·exact xx (wpAny_loadName_cell I.ok.kind d j a b) hd
  ·exact xx (wpAny_loadName_free I.ok.kind d j a b g) hd
theorem y2{i j pos}:PE X (.Constant (.int i) j pos) (tC (.int i)):=λ_ _ _ H _ I h=>wpAny_Constant_int ⟨.int i,H,I.tok _,⟨_,rfl⟩,h⟩
theorem lU{b j pos}:PE X (.Constant (.bool b) j pos) (tC (.bl b)):=λ_ _ _ H _ I h=>Constant_bool ⟨.bl b,H,I,rfl,h⟩
theorem dR{j pos}:PE X (.Constant .none j pos) (tC .Hb):=λ_ _ _ H _ I h=>Constant_none ⟨.Hb,H,I,rfl,h⟩
theorem wV{x j pos}:PE X (.Constant (.str x) j pos) (tC (.str x)):=λ_ _ _ H _ I h=>Calls.Constant_str ⟨.str x,H,I.tok _,⟨_,rfl⟩,h⟩
noncomputable def Gl(X:Cx)(x:qa):Prop:=X.env.kindOf x=some .globalImplicit
theorem Yz{E:Value->Shared->Prop}{a:List (Addr × Obj)}{s:Shared}{σ:St}{H:Hp}{x:qa}{u:Value}{pos:se}{Q:Value->Shared->Prop}(I:Inv X a σ H s)(b:Gl X x)(hm:X.mg x=some u)(h:Q u s)
  (hd:(x == ("__debug__" : qa))=false:=by decide):wpAny (model X.prog X.w) X.A (Gb (.Name x pos) X.env) Q E s:=
 Hm I.ok.kind b (Calls.loadGlobal_global (by rw[I.ok.glob];exact I.mod.glob.keeps I.bk) hm h) hd
theorem HA{E:Value->Shared->Prop}{a:List (Addr × Obj)}{s:Shared}{σ:St}{H:Hp}{x:qa}{u:Value}{pos:se}{Q:Value->Shared->Prop}(I:Inv X a σ H s)(d:Gl X x)(hm:X.mg x=none)(e:bootBuiltins x=some u)(h:Q u s)
  (hn:x ≠ "__name__":=by decide) (hd:(x == ("__debug__" : qa))=false:=by decide):wpAny (model X.prog X.w) X.A (Gb (.Name x pos) X.env) Q E s:=by
 obtain⟨mb,b,c⟩:=I.mod.blt;exact Hm I.ok.kind d (Calls.loadGlobal_builtin (by rw[I.ok.glob];exact I.mod.glob.keeps I.bk) hm (by rw[I.ok.blt];exact b.keeps I.bk) ((c x hn).trans e) h) hd
theorem OO{x:qa}{v:V}{u:Value}{pos:se}(a:Gl X x)(hm:X.mg x=some u)(r:Zc v u)(hd:(x == ("__debug__" : qa))=false:=by decide):PE X (.Name x pos) (tC v):=
 λ_ _ _ H _ I h=>Yz I a hm ⟨v,H,I,r,h⟩ hd
theorem D2{x:qa}{v:V}{u:Value}{pos:se}(a:Gl X x)(hm:X.mg x=none)(b:bootBuiltins x=some u)(r:Zc v u)(hn:x ≠ "__name__":=by decide)(hd:(x == ("__debug__" : qa))=false:=by decide):PE X (.Name x pos) (tC v):=
 λ_ _ _ H _ I h=>HA I a hm b ⟨v,H,I,r,h⟩ hn hd
variable{a b:Ea}{ta tb:TE}{pos:se}
noncomputable def PC(X:Cx)(op:Jo)(a b:Ea)(t:TE):Prop:=
 ∀ (c:List (Addr × Obj)) (s:Shared) (σ:St) (H:Hp) (Q:VK),Inv X c σ H s->t σ H Q->
  wpAny (model X.prog X.w) X.A (Gb a X.env) (λv d=>wpAny (model X.prog X.w) X.A (Gb b X.env) (λu e=>wpAny (model X.prog X.w) X.A (Rb op v u) (EP X c σ Q) X.xe e) X.xe d) X.xe s
theorem KU(b:Ea){op:Jo}(h:op≠.In)(c:op≠.NotIn):ue op b=false:=by
 have e1:(op == MH)=false:=by cases op<;>first|rfl|exact absurd rfl h
 have a:(op == az)=false:=by cases op<;>first|rfl|exact absurd rfl c
 cases b<;>simp[ue,e1,a]
noncomputable def tB(t:TE):TT:=λb H Q=>t b H λx a=>∃ c,x=.bl c/\Q c a
theorem U5{op:Jo}{t:TE}(h:PC X op a b t)(f:ue op b=false:=by first|exact KU _ (by decide) (by decide)|rfl):PT X (.Compare a [op] [b] pos) (tB t):=by
 intro e s m H Q I j;refine uu (Ad (h e s m H _ I j) λv n f=>Ad f λu o i=>Ad i λc s3 ⟨x,H1,g,l,k⟩=>?_) f;obtain⟨d,rfl,q⟩:=k;cases l;exact ud ⟨H1,g,q⟩
theorem bR{e:Ea}{t:TE}(h:PE X e t)(f:∀ a,Gx e X.env a=(do let v <-a;ak e.pos;Ce [v] (truthy v)):=by intro _;rfl):PT X e (tB t):=by
 intro b s k H Q I g;refine isTrue_plain (Ad (h b s k H _ I g) λv s1 ⟨x,H1,c,j,i⟩=>?_) (f _);obtain⟨d,rfl,q⟩:=i;cases j;exact ud ⟨H1,c,q⟩
variable{tA tB':TT}{Jh:List Ea}
noncomputable def DV(t u:TT):TT:=λb H Q=>t b H λc a=>if c=true then u b a Q else Q false a
noncomputable def IT(t u:TT):TT:=λb H Q=>t b H λc a=>if c=true then Q true a else u b a Q
noncomputable def MQ(t:TT):TT:=λb H Q=>t b H λc a=>Q (!c) a
theorem pQ(d:PT X a tA):PW X (.BoolOp .And [a] pos) tA:=by
 intro i b s f H Q I h;refine isTrue_and (Ad (d b s f H Q I h) λc g e=>?_);cases c with
 |true=>exact isTrue_and_nil e
 |false=>exact e
theorem LU(d:PT X a tA):PW X (.BoolOp .Or [a] pos) tA:=by
 intro i b s f H Q I h;refine isTrue_or (Ad (d b s f H Q I h) λc g e=>?_);cases c with
 |false=>exact isTrue_or_nil e
 |true=>exact e
theorem P1(i:PT X a tA)(hb:PW X (.BoolOp .And (b::Jh) pos) tB'):PW X (.BoolOp .And (a::b::Jh) pos) (DV tA tB'):=by
 intro j d s g H Q I h;refine isTrue_and (Ad (i d s g H _ I h) λc s1 ⟨H1,e,f⟩=>?_);cases c with
 |true=>exact hb j d s1 g H1 Q e f
 |false=>exact⟨H1,e,f⟩
theorem nV(i:PT X a tA)(hb:PW X (.BoolOp .Or (b::Jh) pos) tB'):PW X (.BoolOp .Or (a::b::Jh) pos) (IT tA tB'):=by
 intro j d s g H Q I h;refine isTrue_or (Ad (i d s g H _ I h) λc s1 ⟨H1,e,f⟩=>?_);cases c with
 |true=>exact⟨H1,e,f⟩
 |false=>exact hb j d s1 g H1 Q e f
theorem aZ(e:PT X a tA):PT X (.UnaryOp .Not a pos) (MQ tA):=by
 intro b s f H Q I h;exact isTrue_not (e b s f H (λc d=>Q (!c) d) I h)
noncomputable def mX(ta tb:TE):TE:=λb H Q=>ta b H λx a=>∃ c,x=.bl c/\if c=true then tb b a Q else Q (.bl false) a
noncomputable def TW(ta tb:TE):TE:=λb H Q=>ta b H λx a=>∃ c,x=.bl c/\if c=true then Q (.bl true) a else tb b a Q
noncomputable def NZ(ta:TE):TE:=λb H Q=>ta b H λx a=>∃ c,x=.bl c/\Q (.bl (!c)) a
theorem QR{op}{t:TE}(h:PE X a t):PE X (.BoolOp op [a] pos) t:=λb s d H Q I c=>BoolOp_one (h b s d H Q I c)
theorem XV(i:PE X a ta)(hb:PE X (.BoolOp .And (b::Jh) pos) tb):PE X (.BoolOp .And (a::b::Jh) pos) (mX ta tb):=by
 intro d s g H Q I h;refine BoolOp_and (Ad (i d s g H _ I h) λv s1 ⟨x,H1,f,j,e⟩=>?_);obtain⟨c,rfl,e⟩:=e;cases j;refine ud ?_;cases c with
 |true=>exact hb d s1 g H1 Q f e
 |false=>exact⟨.bl false,H1,f,rfl,e⟩
theorem xT(i:PE X a ta)(hb:PE X (.BoolOp .Or (b::Jh) pos) tb):PE X (.BoolOp .Or (a::b::Jh) pos) (TW ta tb):=by
 intro d s g H Q I h;refine BoolOp_or (Ad (i d s g H _ I h) λv s1 ⟨x,H1,f,j,e⟩=>?_);obtain⟨c,rfl,e⟩:=e;cases j;refine ud ?_;cases c with
 |false=>exact hb d s1 g H1 Q f e
 |true=>exact⟨.bl true,H1,f,rfl,e⟩
theorem Y0(f:PE X a ta):PE X (.UnaryOp .Not a pos) (NZ ta):=by
 intro b s i H Q I h;refine UnaryOp_ (Ad (f b s i H _ I h) λv s1 ⟨x,H1,e,g,d⟩=>?_);obtain⟨c,rfl,d⟩:=d;cases g;exact not_of (ud ⟨.bl (!c),H1,e,rfl,d⟩)
noncomputable def Q0(t:TT)(ta tb:TE):TE:=λa H Q=>t a H λc b=>if c=true then ta a b Q else tb a b Q
theorem BU{c:Ea}(k:PT X c tA)(j:PE X a ta)(hb:PE X b tb):PE X (.IfExp c a b pos) (Q0 tA ta tb):=by
 intro e s f H Q I h;refine wpAny_IfExp (Ad (k e s f H _ I h) λd s1 ⟨H1,g,i⟩=>?_);cases d with
 |true=>exact j e s1 f H1 Q g i
 |false=>exact hb e s1 f H1 Q g i
end
noncomputable def zf(K:W.Frag)(H:Hp)(a:Addr)(xs:List V):Prop:=
 Rd H a (.lst xs)\/
  ∃ (o:Obj) (b:Array Value) (n:Nat),K.lookup a=some o/\o.cls=.type "list"/\o.dict=none/\o.data=.seq b n/\b.size<=sizeLine/\zd xs b.toList
noncomputable def ph(K:W.Frag)(H:Hp)(a:Addr)(xs:List V):Prop:=
 Rd H a (.tup xs)\/
  ∃ (o:Obj) (b:Array Value) (n:Nat),K.lookup a=some o/\o.cls=.type "tuple"/\o.data=.seq b n/\b.size<=sizeLine/\zd xs b.toList
noncomputable def O2:Value->Option V
 | .none=>some .Hb
 | .bool b=>some (.bl b)
 | .int i _=>some (.int i)
 | .str x _=>some (.str x)
 | .bytes b _=>some (.fD b)
 | .float b _=>some (.Jw b)
 | .ref a=>some (.ref a)
 | .type n=>some (.ty n)
 |_=>none
theorem Zc.abs{x:V}{u:Value}(r:Zc x u):O2 u=some x:=by
 cases x with
 |Hb=>cases r;rfl
 |bl _=>cases r;rfl
 |int _=>obtain⟨t,rfl⟩:=r;rfl
 |str _=>obtain⟨t,rfl⟩:=r;rfl
 |fD _=>obtain⟨t,rfl⟩:=r;rfl
 |Jw _=>obtain⟨t,rfl⟩:=r;rfl
 |ref _=>cases r;rfl
 |ty _=>cases r;rfl
theorem Zc.inj{x y:V}{u:Value}(r:Zc x u)(q:Zc y u):x=y:=qb (r.abs.symm.trans q.abs)
theorem zd.inj:∀ {xs ys:List V} {us:List Value},zd xs us->zd ys us->xs=ys
 |_,_,_,.nil,.nil=>rfl
 |_,_,_,.cons r t,.cons a b=>by rw[r.inj a,zd.inj t b]
section
variable{X:Cx}{pins:List (Addr × Obj)}{σ:St}{H:Hp}{s:Shared}{a:Addr}{xs ys:List V}
theorem zf.of{K:W.Frag}(h:H a=some (.lst xs)):zf K H a xs:=.inl (.inl h)
theorem ph.of{K:W.Frag}(h:H a=some (.tup xs)):ph K H a xs:=.inl (.inl h)
theorem Inv.list(I:Inv X pins σ H s)(h:zf X.K H a xs):∃ its:List Value,zd xs its/\PlainL s.heap a its.toArray/\xs.length<=sizeLine:=by
 rcases h with h|⟨o,its,n,c,b,hd,hs,d,r⟩
 ·obtain⟨z,its,n,r,e⟩:=h.ok I.Pb;exact⟨its,r,⟨_,n,e,rfl,rfl,rfl⟩,z⟩
 ·refine⟨its.toList,r,⟨o,n,I.Kj a o c,b,hd,by simpa using hs⟩,?_⟩;have e:=r.length;simp only[pb]at e;omega
theorem Inv.tuple(I:Inv X pins σ H s)(h:ph X.K H a xs):∃ its:List Value,zd xs its/\Cs s.heap a its.toArray/\xs.length<=sizeLine:=by
 rcases h with h|⟨o,its,n,c,b,hs,d,r⟩
 ·obtain⟨z,its,r,p⟩:=h.ok I.Pb;exact⟨its,r,p,z⟩
 ·refine⟨its.toList,r,⟨o,I.Kj a o c,b,n,by simpa using hs⟩,?_⟩;have e:=r.length;simp only[pb]at e;omega
theorem Inv.lp(I:Inv X pins σ H s)(h:zf X.K H a xs)(h':zf X.K H a ys):xs=ys:=by
 obtain⟨b,r,⟨o,n,e,_,_,d⟩,_⟩:=I.list h;obtain⟨its',g,⟨j,i,f,_,_,c⟩,_⟩:=I.list h';rw[e]at f;cases f;rw[d]at c;injection c with d1 _;have:b=its':=by simpa using Ve Array.toList d1
 subst this;exact r.inj g
theorem Inv.rr(I:Inv X pins σ H s)(h:ph X.K H a xs)(h':ph X.K H a ys):xs=ys:=by
 obtain⟨b,r,⟨o,e,_,n,d⟩,_⟩:=I.tuple h;obtain⟨its',g,⟨j,f,_,i,c⟩,_⟩:=I.tuple h';rw[e]at f;cases f;rw[d]at c;injection c with d1 _;have:b=its':=by simpa using Ve Array.toList d1
 subst this;exact r.inj g
end
noncomputable abbrev Cx.uk(X:Cx)(E:Value->Shared->Prop):Cx:={ X with xe:=E }
noncomputable abbrev Cx.Co(X:Cx):Cx:=X.uk λ_ _=>False
theorem Cx.Ok.uk{X:Cx}(ok:X.Ok)(E:Value->Shared->Prop):(X.uk E).Ok:=
 ⟨ok.mod,ok.kind,ok.glob,ok.blt,ok.above,ok.inj,ok.has,ok.rz,ok.hd,ok.frames,ok.Lp,ok.sD,ok.bs,ok.tu,ok.Ws,ok.Os,ok.Gj,ok.Nv⟩
theorem Cx.Ok.Xg{X:Cx}{E:Value->Shared->Prop}(ok:(X.uk E).Ok):X.Ok:=
 ⟨ok.mod,ok.kind,ok.glob,ok.blt,ok.above,ok.inj,ok.has,ok.rz,ok.hd,ok.frames,ok.Lp,ok.sD,ok.bs,ok.tu,ok.Ws,ok.Os,ok.Gj,ok.Nv⟩
section
variable{X:Cx}{pins:List (Addr × Obj)}{σ:St}{H:Hp}{s:Shared}{E:Value->Shared->Prop}
theorem Inv.uk(I:Inv X pins σ H s)(E:Value->Shared->Prop):Inv (X.uk E) pins σ H s:=⟨I.ok.uk E,I.os,I.bare,I.base,I.loc,I.cell,I.free,I.zh,I.pin,I.Pb,I.len⟩
theorem Inv.Xg(I:Inv (X.uk E) pins σ H s):Inv X pins σ H s:=⟨I.ok.Xg,I.os,I.bare,I.base,I.loc,I.cell,I.free,I.zh,I.pin,I.Pb,I.len⟩
theorem SP.Xg{D:Ends}{f:Flow}{s':Shared}(h:SP (X.uk E) pins D f s'):SP X pins D f s':=by
 cases f with
 |next=>obtain⟨a,b,I,q⟩:=h;exact⟨a,b,I.Xg,q⟩
 |brk=>obtain⟨a,b,I,q⟩:=h;exact⟨a,b,I.Xg,q⟩
 |cont=>obtain⟨a,b,I,q⟩:=h;exact⟨a,b,I.Xg,q⟩
 |ret u=>obtain⟨v,a,b,I,r,q⟩:=h;exact⟨v,a,b,I.Xg,r,q⟩
theorem PE.Co{e:Ea}{t:TE}(h:PE X.Co e t):PE X e t:=λpins s σ H Q I c=>
 Uc (h pins s σ H Q (I.uk _) c) (λ_ _ ⟨v,a,b,r,q⟩=>⟨v,a,b.Xg,r,q⟩) λ_ _ z=>False.elim z
theorem PT.Co{e:Ea}{t:TT}(h:PT X.Co e t):PT X e t:=λpins s σ H Q I c=>
 Uc (h pins s σ H Q (I.uk _) c) (λ_ _ ⟨a,b,q⟩=>⟨a,b.Xg,q⟩) λ_ _ z=>False.elim z
theorem Nq.Co{a:List Stmt}{t:TS}(h:Nq X.Co a t):Nq X a t:=λpins s σ H D I b=>
 Uc (h pins s σ H D (I.uk _) b) (λ_ _ q=>q.Xg) λ_ _ z=>False.elim z
end
section
variable{X:Cx}{st:Stmt}{Jh:List Stmt}{t u:TS}{e:Ea}{te:TE}{pos:se}
noncomputable def V2:TS:=λD a H=>D.nx a H
noncomputable def MX(t u:TS):TS:=λD a H=>t { D with nx:=u D } a H
theorem rY:Nq X [] V2:=λ_ _ a H _ I h=>rp ⟨a,H,I,h⟩
theorem FZ(e:PS X st t)(g:Nq X Jh u):Nq X (st::Jh) (MX t u):=by
 intro a s j H D I h;refine eB (Ad (e a s j H { D with nx:=u D } I h) λf i q=>?_);cases f with
 |next=>
  obtain⟨b,c,d,q⟩:=q;exact g a i b c D d q
 |ret v=>exact q
 |brk=>exact q
 |cont=>exact q
theorem sX(b:PS X st t):Nq X [st] t:=by
 intro a s c H D I h;refine eB (Ad (b a s c H D I h) λf d q=>?_);cases f with
 |next=>exact rp q
 |ret v=>exact q
 |brk=>exact q
 |cont=>exact q
theorem Inv.quiet{a:List (Addr × Obj)}{σ:St}{H:Hp}{s:Shared}(I:Inv X a σ H s):O6 X.env=false:=by simp[O6,I.ok.kind]
noncomputable def N0(te:TE):TS:=λD a H=>te a H λ_ b=>D.nx a b
theorem C0(d:PE X e te)(hs:Di e none pos.line X.env=pure false:=by rfl):PS X (.Expr e pos) (N0 te):=by
 intro a s b H D I h;exact wpAny_Expr_any (Ad (d a s b H _ I h) λv s1 ⟨x,H1,c,g,f⟩=>⟨b,H1,c,f⟩) I.quiet hs
noncomputable def oQ(te:TE):TS:=λD a H=>te a H D.rt
theorem UW(d:PE X e te):PS X (.Return (some e) pos) (oQ te):=by
 intro a s b H D I h;exact wpAny_Return_some (Ad (d a s b H _ I h) λv s1 ⟨x,H1,c,g,f⟩=>⟨x,b,H1,c,g,f⟩)
noncomputable def g4(c:TT)(t u:TS):TS:=λD a H=>c a H λb d=>if b=true then t D a d else u D a d
theorem uX{c:Ea}{a b:List Stmt}{j:TT}(l:PT X c j)(k:Nq X a t)(hb:Nq X b u):PS X (.If c a b pos) (g4 j t u):=by
 intro e s f H D I h;refine wpAny_If (Ad (l e s f H _ I h) λd s1 ⟨H1,g,i⟩=>?_);cases d with
 |true=>exact k e s1 f H1 D g i
 |false=>exact hb e s1 f H1 D g i
end
noncomputable abbrev TG:=V->St->Hp->(St->Hp->Prop)->Prop
noncomputable abbrev Gv:=List V->St->Hp->(St->Hp->Prop)->Prop
noncomputable def PG(X:Cx)(a:Ea)(t:TG):Prop:=
 ∀ (b:List (Addr × Obj)) (s:Shared) (σ:St) (H:Hp) (v:V) (u:Value) (Q:St->Hp->Prop),Inv X b σ H s->Zc v u->t v σ H Q->
  wpAny (model X.prog X.w) X.A (ah a X.env u) (λ_ e=>∃ c d,Inv X b c d e/\Q c d) X.xe s
noncomputable def AA(X:Cx)(f:List Ea)(t:Gv):Prop:=
 ∀ (a:List (Addr × Obj)) (s:Shared) (σ:St) (H:Hp) (d:List V) (us:List Value) (Q:St->Hp->Prop),Inv X a σ H s->zd d us->t d σ H Q->
  wpAny (model X.prog X.w) X.A (assignInOrder ((Td f X.env).map (·.2)) us) (λ_ e=>∃ b c,Inv X a b c e/\Q b c) X.xe s
noncomputable abbrev oD:=V->V->V->Hp->(Hp->Prop)->Prop
noncomputable def yF(X:Cx)(t:oD):Prop:=
 ∀ (a:List (Addr × Obj)) (s:Shared) (σ:St) (H:Hp) (o i v:V) (d c u:Value) (Q:Hp->Prop),Inv X a σ H s->Zc o d->Zc i c->Zc v u->t o i v H Q->
  wpAny (model X.prog X.w) X.A (Qp d c u) (λ_ e=>∃ b,Inv X a σ b e/\Q b) X.xe s
section
variable{X:Cx}{pos:se}
noncomputable def TK(i:Nat):TG:=λv a H Q=>Q (a.set i (some v)) H
theorem RZ{i:Nat}{x:qa}(hN:X.N.Nodup)(d:X.N[i]?=some x)(e:Loc X.env.scope x)(c:X.fn x=true\/X.env.scope.names.lookup x=some .local:=by first|exact .inl rfl|exact .inr rfl|assumption):PG X (.Name x pos) (TK i):=by
 intro a s g H v u Q I r h;exact My (LJ I hN d e r (λf b=>⟨_,H,b,h⟩) c)
noncomputable def PY:Gv:=λa b H Q=>a=[]/\Q b H
noncomputable def vX(t:TG)(u:Gv):Gv:=λc d H Q=>∃ v r,c=v::r/\t v d H λa b=>u r a b Q
theorem yZ:AA X [] PY:=by
 intro a s b H d c Q I r h;obtain⟨e,h⟩:=h;subst e;cases r;exact assignInOrder_nil ⟨b,H,I,h⟩
theorem H0{e:Ea}{es:List Ea}{t:TG}{u:Gv}(d:PG X e t)(f:AA X es u)
  (hs:(Td (e::es) X.env).map (·.2)=ah e X.env::(Td es X.env).map (·.2):=by rfl):AA X (e::es) (vX t u):=by
 intro a s j H m k Q I r h;obtain⟨v,l,e1,h⟩:=h;subst e1;cases r with
 |cons r i=>
  rw[hs];refine assignInOrder_cons (Ad (d a s j H _ _ _ I r h) λ_ s1 ⟨b,H1,c,g⟩=>?_);exact f a s1 b H1 _ _ Q c i g
noncomputable def SS(K:W.Frag)(n:Nat)(t:Gv):TG:=λv b H Q=>∃ a xs,v=.ref a/\ph K H a xs/\xs.length=n/\t xs b H Q
theorem Q3{es:List Ea}{k:Nat}{t:Gv}{n:Nat}(m:X.calm=true)(h:AA X es t)
  (hn:(Td es X.env).length=n:=by rfl) (d:(Td es X.env).findIdx? (·.1)=none:=by rfl):PG X (.Tuple es k pos) (SS X.K n t):=by
 intro c s i H v u Q I r f;obtain⟨a,xs,e1,q,p,f⟩:=f;subst e1;cases r;obtain⟨y,g,w,z⟩:=I.tuple q;refine assign_Tuple_tuple (I.ok.hd m) w (by simp[hn,<-p,g.length]) d λl x=>?_;have j:Inv X c i H { s with heap:=l }:=I.kept (t':=s.toks) λb o e=>x b o (ua (pa e)) e;exact h c _ i H xs _ Q j (by simpa using g) f
noncomputable def uQ(to e:TE)(t:oD):TG:=λv a H Q=>to a H λo b=>e a b λi c=>t o i v c λd=>Q a d
theorem dH{o i:Ea}{to e:TE}{t:oD}(p:PE X o to)(n:PE X i e)(hs:yF X t)
  (m:∀ v,ah (.Subscript o i pos) X.env v=(do
   let b <-Ce [v] (Gb o X.env);let c <-Ce [v,b] (Gb i X.env)
   ak pos
   Ce [v,b,c] (Qp b c v)
   bz [v,b,c] []):=by intro _;rfl):PG X (.Subscript o i pos) (uQ to e t):=by
 intro a s d H v u Q I r h;rw[m];refine aa (Wc (Ad (p a s d H _ I h) λb s1 ⟨x,H1,j,A,q⟩=>?_));refine aa (Wc (Ad (n a s1 d H1 _ j q) λc s2 ⟨y,f,k,B,w⟩=>?_));refine aa (Dr (aa (Wc (Ad (hs a s2 d f x y v b c u _ k A B r w) λ_ s3 ⟨g,l,z⟩=>?_))));exact wpAny_release ⟨d,g,l,z⟩
noncomputable def BI(c:TE)(g:TG):TS:=λD a H=>c a H λx b=>g x a b D.nx
theorem KG{tg e:Ea}{b:TE}{g:TG}(i:PE X e b)(j:PG X tg g)(hs:Zk [tg] e pos.line X.env=pure false:=by rfl)(k:al [tg] e X.env=pure none:=by rfl)
  (f:(Td [tg] X.env).map (·.2)=[ah tg X.env]:=by rfl):PS X (.Assign [tg] e pos) (BI b g):=by
 intro a s c H D I h;refine wpAny_Assign_stores (Ad (i a s c H _ I h) λv s1 ⟨x,H1,d,m,l⟩=>?_) hs k;rw[f];exact Ad (j a s1 c H1 x v _ d m l) λ_ n q=>q
theorem G1{i:Nat}{x:qa}{e:Ea}{c:TE}{a:se}(hN:X.N.Nodup)(k:X.N[i]?=some x)(l:Loc X.env.scope x)(g:PE X e c)(hs:Di e (some (.Name x a)) pos.line X.env=pure false:=by rfl)(j:X.fn x=true\/X.env.scope.names.lookup x=some .local:=by first|exact .inl rfl|exact .inr rfl|assumption) :
  PS X (.Assign [.Name x a] e pos) (BI c (TK i)):=by
 intro b s o H D I h;refine wpAny_Assign_Name (Ad (g b s o H _ I h) λv s1 ⟨y,H1,d,n,m⟩=>?_) hs;exact LJ d hN k l n (λp f=>⟨_,H1,f,m⟩) j
end
section
variable{X:Cx}{pos:se}
end
structure It where
 go:Nat->Hp->Prop
 ny:Nat->Hp->V->Hp->Prop
 stop:Nat->Hp->Prop
noncomputable def dr(X:Cx)(a:List (Addr × Obj))(H:Hp)(b:Addr):Prop:=
 H b=none/\b≠X.env.locals/\b ∉ X.fs/\(b∈X.ex\/X.s₀.heap.objs.size<=b)/\(∀ x c,X.env.cells.lookup x=some c->c≠b)/\∀ p∈X.pn++a,p.1≠b
theorem Inv.Xp{X:Cx}{a:List (Addr × Obj)}{σ:St}{H d:Hp}{s:Shared}{b:Addr}(I:Inv X a σ H s)(hb:s.heap.objs.size<=b)(hn:d b=none):dr X a d b:=by
 refine⟨hn,De (Da I.lt hb),I.GE hb,.inr (Qa I.sz hb),λx c e z=>?_,λp f z=>?_⟩
 ·obtain⟨v,q⟩:=I.cell x c e;exact absurd (Da q.lt (by rw[z];exact hb)) (de _)
 ·exact absurd (Da (pa (I.pin p f).1) (by rw[z];exact hb)) (de _)
structure Turn(P:ra)(w:Ia)(K:W.Frag)(tg:Ea)(J:It)(fp:List Addr)(it:Addr)(tn:Nat->Heap->Prop):Prop where
 mem:it∈fp
 obj:∀ i h,tn i h->∀ b∈fp,∃ o,h.get? b=some o/\∀ v,o.data≠.cell v
 keep:∀ i h h',tn i h->(∀ b∈fp,∀ o,h.get? b=some o->h'.get? b=some o)->tn i h'
 item:∀ (X:Cx),X.prog=P->X.w=w->X.K=K->X.calm=true->∀ (i:Nat) (pins:List (Addr × Obj)) (s:Shared) (σ:St) (H:Hp) (E:Value->Shared->Prop),Inv X pins σ H s->(∀ b∈fp,dr X pins H b)->tn i s.heap->J.go i H->
  wpAny (model P w) X.A (pyNext (.ref it)) (λr s1=>∃ u,r=some u/\
   wpAny (model P w) X.A (letOwnedTupleGo tg (.ref it) u) (λ_ s2=>∃ x H',Inv X pins σ H' s2/\Zc x u/\J.ny i H x H'/\tn (i+1) s2.heap/\∀ b∈fp,H' b=none) E s1) E s
 done:∀ (X:Cx),X.prog=P->X.w=w->X.K=K->X.calm=true->∀ (i:Nat) (pins:List (Addr × Obj)) (s:Shared) (σ:St) (H:Hp) (E:Value->Shared->Prop),Inv X pins σ H s->(∀ b∈fp,dr X pins H b)->tn i s.heap->J.stop i H->
  wpAny (model P w) X.A (pyNext (.ref it)) (λr s1=>r=none/\Inv X pins σ H s1) E s
 self:∀ (A:Ja) (i:Nat) (s:Shared) (Q:Value->Shared->Prop) (E:Value->Shared->Prop),tn i s.heap->Q (.ref it) s->wpAny (model P w) A (pyIter (.ref it)) Q E s
noncomputable abbrev TI:=St->Hp->(It->Hp->Prop)->Prop
noncomputable def jJ(X:Cx)(a:List (Addr × Obj))(σ:St)(tg:Ea)(R:It->Hp->Prop)(d:Value)(g:Shared):Prop:=
 ∃ (f:Addr) (e:List Addr) (h:Nat->Heap->Prop) (J:It) (c:Hp),d=.ref f/\Inv X a σ c g/\Turn X.prog X.w X.K tg J e f h/\h 0 g.heap/\(∀ b∈e,dr X a c b)/\R J c
noncomputable def PI(X:Cx)(tg b:Ea)(d:TI):Prop:=
 ∀ (a:List (Addr × Obj)) (s:Shared) (σ:St) (H:Hp) (R:It->Hp->Prop),Inv X a σ H s->d σ H R->
  wpAny (model X.prog X.w) X.A (Gb b X.env) (λv c=>wpAny (model X.prog X.w) X.A (pyIter v) (jJ X a σ tg R) X.xe c) X.xe s
theorem Iz {M : Rj} {A : Ja} {E : Value -> Shared -> Prop} {s : Shared} {tg : Ea} {it : Addr} {u : Value} {o : Obj} {n : String} {vs : Array Value} {Q : Unit -> Shared -> Prop} (c : s.heap.get? it = some o) (b : o.cls = .type n) (hd : o.data = .fields vs)
    (hn : ["enumerate", "zip", "dict_itemiterator", "dict_reverseitemiterator", "odict_iterator", "itertools.zip_longest", "itertools.pairwise"].contains n = false) (a : Q () s) : wpAny M A (letOwnedTupleGo tg (.ref it) u) Q E s := by
  unfold letOwnedTupleGo;cases tg <;> first
    | exact ia a
    | (cases u <;> first
        | exact ia a
        | (refine aa (Vl c ?_)
           rw [b, hd];show wpAny M A (if (["enumerate", "zip", "dict_itemiterator", "dict_reverseitemiterator", "odict_iterator", "itertools.zip_longest", "itertools.pairwise"].contains n && vs[0]? == some (rawInt _)) = true then _ else _) Q E s;rw [ga (by intro h; rw [hn, Bool.false_and] at h; cases h)];exact ia a))
noncomputable def sE(K:W.Frag)(a:Addr):It:=
 ⟨λi H=>∃ xs x,zf K H a xs/\xs[i]?=some x,λi H x b=>b=H/\∀ xs,zf K H a xs->xs[i]?=some x,λi H=>∃ xs,zf K H a xs/\xs.length<=i⟩
noncomputable def iF(K:W.Frag)(a:Addr):It:=
 ⟨λi H=>∃ xs x,ph K H a xs/\xs[i]?=some x,λi H x b=>b=H/\∀ xs,ph K H a xs->xs[i]?=some x,λi H=>∃ xs,ph K H a xs/\xs.length<=i⟩
noncomputable def gH(b:Int)(n:Nat):It:=⟨λi _=>i<n,λi H x a=>a=H/\x=.int (b+i),λi _=>n<=i⟩
theorem uZ{P:ra}{w:Ia}{K:W.Frag}{tg:Ea}(a it:Addr):Turn P w K tg (sE K a) [it] it (λi h=>h.IsListIter it a i) where
 mem:=by simp
 obj:=λi h f b hb=>by
  have e:b=it:=by simpa using hb
  subst e;obtain⟨o,e,c,d⟩:=f;exact⟨o,e,λv z=>by rw[d]at z;cases z⟩
 keep:=λi h l f k=>f.at λo e=>k it (by simp) o e
 item:=by
  intro X C F B M i g s N H E I m f D;subst C F B;obtain⟨xs,x,n,G⟩:=D;obtain⟨J,L,p,U⟩:=I.list n;obtain⟨u,S,V⟩:=L.get G;obtain⟨q,r,R,t,y,A⟩:=m it (by simp);refine wpAny_pyNext_list_item f p.isList (x:=u) (by simpa using S) λl j Y=>?_;have O:Inv X g N H { s with heap:=l }:=I.turned (t':=s.toks) (λb o hb e=>(Y.2 b hb).trans e) q r t y A;obtain⟨o,e,c,d⟩:=id j;exact⟨u,rfl,Iz (s:={ s with heap:=l }) e c d (by decide) ⟨x,H,O,V,⟨rfl,λys T=>by rw[I.lp T n];exact G⟩,j,λb hb=>(m b hb).1⟩⟩
 done:=by
  intro X C F B M i g s N H E I m f D;subst C F B;obtain⟨xs,n,G⟩:=D;obtain⟨J,L,p,U⟩:=I.list n;obtain⟨q,r,R,t,y,A⟩:=m it (by simp);have Z:=L.length;exact wpAny_pyNext_list_end (I.ok.hd M) f p.isList (by simp;omega) λl Q=>⟨rfl,I.turned (t':=s.toks) (λb o hb e=>Q b o hb e) q r t y A⟩
 self:=λ_ _ _ _ _ f h=>wpAny_pyIter_listiter f h
theorem RV{P:ra}{w:Ia}{K:W.Frag}{tg:Ea}(a it:Addr):Turn P w K tg (iF K a) [it] it (λi h=>h.IsTupleIter it a i) where
 mem:=by simp
 obj:=λi h f b hb=>by
  have e:b=it:=by simpa using hb
  subst e;obtain⟨o,e,c,d⟩:=f;exact⟨o,e,λv z=>by rw[d]at z;cases z⟩
 keep:=λi h m f k=>f.at λo e=>k it (by simp) o e
 item:=by
  intro X D G C M i g s N H E I n f F;subst D G C;obtain⟨xs,x,q,J⟩:=F;obtain⟨j,L,p,U⟩:=I.tuple q;obtain⟨u,S,V⟩:=L.get J;obtain⟨r,t,R,y,A,B⟩:=n it (by simp);refine wpAny_pyNext_tuple_item f (show s.heap.IsTuple a j.toArray from p) (x:=u) (by simpa using S) λm l Y=>?_;have O:Inv X g N H { s with heap:=m }:=I.turned (t':=s.toks) (λb o hb e=>(Y.2 b hb).trans e) r t y A B;obtain⟨o,e,c,d⟩:=id l;exact⟨u,rfl,Iz (s:={ s with heap:=m }) e c d (by decide) ⟨x,H,O,V,⟨rfl,λys T=>by rw[I.rr T q];exact J⟩,l,λb hb=>(n b hb).1⟩⟩
 done:=by
  intro X D G C M i g s N H E I n f F;subst D G C;obtain⟨xs,q,J⟩:=F;obtain⟨j,L,p,U⟩:=I.tuple q;obtain⟨r,t,R,y,A,B⟩:=n it (by simp);have Z:=L.length;exact wpAny_pyNext_tuple_end (I.ok.hd M) f (show s.heap.IsTuple a j.toArray from p) (by simp;omega) λm Q=>⟨rfl,I.turned (t':=s.toks) (λb o hb e=>Q b o hb e) r t y A B⟩
 self:=λ_ _ _ _ _ f h=>wpAny_pyIter_tupleiter f h
theorem lQ{P:ra}{w:Ia}{K:PySem.W.Frag}{tg:Ea}(it:Addr)(j:Int)(n:Nat):Turn P w K tg (gH j n) [it] it (λi h=>P6 h it (j+(i:Nat) * 1) ((n:Int) - (i:Nat)) 1) where
 mem:=by simp
 obj:=λi h a b hb=>by
  have e:b=it:=by simpa using hb
  subst e;exact⟨_,a,λv z=>by
   have N:Data.fields _=Data.cell v:=z;cases N⟩
 keep:=λi h f a k=>k it (by simp) _ a
 item:=by
  intro X x B u y i c s D H E I g a A;subst x B u;obtain⟨l,m,J,p,q,r⟩:=g it (by simp);have W:=Walks.range (prog:=X.prog) (w:=X.w) (I.ok.hd y) it j 1 n;refine W.item i s _ _ A a λv f C L d M=>?_;obtain⟨t,rfl⟩:=L;have F:Inv X c D H { s with heap:=f,toks:=C }:=I.turned (λb o hb e=>M b o (by simpa using hb) e) l m p q r;refine⟨_,rfl,Iz (s:={ s with heap:=f,toks:=C }) (n:="range_iterator") d rfl rfl (by decide) ⟨.int (j+i),H,F,⟨t,?_⟩,⟨rfl,rfl⟩,d,λb hb=>(g b hb).1⟩⟩;rw[Int.mul_one]
 done:=by
  intro X x B u y i c s D H E I g a A;subst x B u;obtain⟨l,m,J,p,q,r⟩:=g it (by simp);exact wpAny_pyNext_range_end (I.ok.hd y) a (by have:n<=i:=A;omega) λf G=>⟨rfl,I.turned (t':=s.toks) (λb o hb e=>G b o hb e) l m p q r⟩
 self:=λ_ _ _ _ _ a h=>wpAny_pyIter_rangeiter a h
section
variable{X:Cx}{tg:Ea}
theorem cY{c:List (Addr × Obj)}{σ:St}{H:Hp}{s:Shared}{R:It->Hp->Prop}{E:Value->Shared->Prop}{lo a:Int}{t u v:Tok}{f:Nat}(I:Inv X c σ H s)(h:-(2 ^ 62)<=lo)(i:lo<2 ^ 62)(j:-(2 ^ 62)<=a)(k:a<2 ^ 62)
  (q:R (gH lo (a - lo).toNat) H):wpAny (model X.prog X.w) X.A (pyIter (.ref s.heap.objs.size)) (jJ X c σ tg R) E { s with heap:=s.heap.push { cls:=.type "range",data:=.fields #[.int lo t,.int a u,.int 1 v] },toks:=f }:=by
 refine wpAny_pyIter_range (IsRange.new ..) (small_one h i j k) ?_;have d:Inv X c σ H { s with heap:=s.heap.push { cls:=.type "range",data:=.fields #[.int lo t,.int a u,.int 1 v] },toks:=f }:=I.kept λb o e=>ba _ e;refine⟨(s.heap.push { cls:=.type "range",data:=.fields #[.int lo t,.int a u,.int 1 v] }).objs.size,[(s.heap.push { cls:=.type "range",data:=.fields #[.int lo t,.int a u,.int 1 v] }).objs.size],_,_,H,rfl,
  d.kept (t':=f) λb o e=>ba _ e,lQ _ lo (a - lo).toNat,?_,λb hb=>?_,q⟩
 ·have e1:lo+((0:Nat):Int) * 1=lo:=by simp
  have g:(((a - lo).toNat:Nat):Int) - ((0:Nat):Int)=mB lo a 1:=by rw[rangeSize_one];split<;>omega
  show P6 _ _ (lo+((0:Nat):Int) * 1) ((((a - lo).toNat:Nat):Int) - ((0:Nat):Int)) 1;rw[e1,g];exact Aa _ rfl
 ·have e:b=(s.heap.push { cls:=.type "range",data:=.fields #[.int lo t,.int a u,.int 1 v] }).objs.size:=by simpa using hb
  subst e;exact d.Xp (ja _) (d.Pb.fresh (ja _))
noncomputable def PQ(b:TA):TI:=λd H R=>b d H λc a=>∃ i j:Int,c=[.int i,.int j]/\(-(2 ^ 62)<=i/\i<2 ^ 62/\-(2 ^ 62)<=j/\j<2 ^ 62)/\R (gH i (j - i).toNat) a
theorem wS{a b:Ea}{k:TA}{p pos:se}(n:Gl X "range")(hm:X.mg "range" = none)(m:PA X [a,b] k)(hs:na [a,b] X.env=[(false,Gb a X.env),(false,Gb b X.env)]:=by rfl)(c:na [b] X.env=[(false,Gb b X.env)]:=by rfl) :
  PI X tg (.Call (.Name "range" p) [a,b] [] pos) (PQ k):=by
 intro d s y H R I h;refine Call_ (HA I n hm boot_range (Zf (Ad (m pos d s y H _ I h) λus s1 ⟨A,H1,l,x,f⟩=>?_) (by rw[hs,c]) (by rw[c];rfl)));obtain⟨i,j,e,⟨f,o,u,v⟩,q⟩:=f;subst e;cases x with
 |cons r g=>
  cases g with
  |cons w g=>
   cases g;obtain⟨t,rfl⟩:=r;obtain⟨z,rfl⟩:=w;exact call_range_2 (cY l f o u v q)
noncomputable def YY(j:TI)(g:TG)(tb:TS):TS:=λD a H=>j a H λJ f=>∃ W:Nat->Nat->St->Hp->Prop,(∃ m,W 0 m a f)/\∀ i m a H,W i m a H->
 (J.stop i H/\D.nx a H)\/(J.go i H/\∃ N:St->Hp->Prop,(∀ c b,N c b->∃ e,e<m/\W (i+1) e c b)/\∀ x b,J.ny i H x b->g x a b λd h=>tb { D with nx:=N,ct:=N,bk:=D.nx } d h)
noncomputable def Wz(a:List Addr)(h:Heap):List (Addr × Obj):=a.filterMap λb=>(h.get? b).map λo=>(b,o)
theorem JD{a:List Addr}{h:Heap}{b:Addr}{o:Obj}(hb:b∈a)(e:h.get? b=some o):(b,o)∈Wz a h:=xj.mpr ⟨b,hb,by rw[e];rfl⟩
theorem UV{a:List Addr}{h:Heap}{p:Addr × Obj}(d:p∈Wz a h):p.1∈a/\h.get? p.1=some p.2:=by
 obtain⟨b,hb,e⟩:=xj.mp d;cases q:h.get? b with
 |none=>rw[q]at e;cases e
 |some o=>
  rw[q]at e;have c:(b,o)=p:=qb e;subst c;exact⟨hb,q⟩
theorem Inv.pinned{a:List (Addr × Obj)}{σ:St}{H:Hp}{s:Shared}{c:List Addr}(I:Inv X a σ H s)(j:∀ b∈c,dr X a H b)(k:∀ b∈c,∃ o,s.heap.get? b=some o/\∀ v,o.data≠.cell v):Inv X (a++Wz c s.heap) σ H s:=
 I.Fq λp l=>(Pd.mp l).elim (λz=>I.pin p (vb _ z)) λz=>by
  obtain⟨hb,e⟩:=UV z;obtain⟨g,h,i,_⟩:=j p.1 hb;obtain⟨o,f,d⟩:=k p.1 hb;rw[e]at f;cases f;exact⟨e,g,h,i,d⟩
theorem Inv.nj{a pl:List (Addr × Obj)}{σ:St}{H:Hp}{s:Shared}(I:Inv X (a++pl) σ H s):Inv X a σ H s:=I.Fq λp b=>I.pin p (vb _ (Pa _ b))
theorem xO{p:Ea}{body:List Stmt}{wi:TI}{g:TG}{tb:TS}{pos:se}(F:Ds (model X.prog X.w) X.A X.env X.xe)(Z:X.calm=true)(hi:PI X tg p wi)(hg:PG X tg g)(hb:Nq X body tb)
  (hs:∀ x,vg p X.env x=pure x:=by intro _;rfl):PS X (.For tg p body [] pos) (YY wi g tb):=by
 intro a s σ H D I h;refine wpAny_For (Ad (hi a s σ H _ I h) λv s1 h1=>Ad h1 λa0 s2 h2=>?_) hs;obtain⟨it,C,tn,J,H2,e,I2,T,R,Y,W,⟨m0,w0⟩,ZF⟩:=h2;subst e;have q:∀ {H':Hp},(∀ b∈C,H' b=none)->∀ b∈C,dr X a H' b:=λhn b hb=>⟨hn b hb,(Y b hb).2⟩
 refine codeAny_forLoop_any (λn s'=>∃ i t H',Inv X a t H' s'/\tn i s'.heap/\(∀ b∈C,H' b=none)/\W i n t H') ?_ m0 ⟨0,σ,H2,I2,R,λb hb=>(Y b hb).1,w0⟩;rintro n s3 ⟨i,y,L,V,K,E,w3⟩;rcases ZF i n y L w3 with⟨stop,qn⟩|⟨go,N,hN,step⟩
 ·refine Yg F (Ad (T.done X rfl rfl rfl Z i a s3 y L X.xe V (q E) K stop) λr s4 ⟨P,I4⟩=>?_);subst P;exact rp ⟨y,L,I4,qn⟩
 ·refine Yg F (Ad (T.item X rfl rfl rfl Z i a s3 y L X.xe V (q E) K go) λr s4 ⟨u,P,h4⟩=>?_);subst P;refine Yg F (Ad h4 λ_ s5 ⟨x,U,I5,r5,y5,B,O⟩=>?_);have M:=I5.pinned (q O) (T.obj _ _ B);refine Yg F (Ad (hg _ s5 y U x u _ M r5 (step x U y5)) λ_ s6 ⟨S,H6,I6,q6⟩=>?_);refine Yg F (Ad (hb _ s6 S H6 _ I6 q6) λf Q z=>?_);have l:∀ {c:St} {j:Hp},Inv X (a++Wz C s5.heap) c j Q->N c j->∃ m,m<n/\∃ i t H',Inv X a t H' Q/\tn i Q.heap/\(∀ b∈C,H' b=none)/\W i m t H':=fun {c j} k G=>by
   obtain⟨m',hm,w7⟩:=hN c j G;refine⟨m',hm,i+1,c,j,k.nj,T.keep _ _ _ B λb hb o e=>(k.pin (b,o) (vb _ (vb _ (JD hb e)))).1,λb hb=>?_,w7⟩;obtain⟨o,e,d⟩:=T.obj _ _ B b hb;exact(k.pin (b,o) (vb _ (vb _ (JD hb e)))).2.1
  cases f with
  |next=>obtain⟨c,j,k,G⟩:=z;exact l k G
  |cont=>obtain⟨c,j,k,G⟩:=z;exact l k G
  |brk=>obtain⟨c,j,k,z⟩:=z;exact⟨c,j,k.nj,z⟩
  |ret v=>obtain⟨x7,c,j,k,r7,z⟩:=z;exact⟨x7,c,j,k.nj,r7,z⟩
end
noncomputable abbrev R2:=V->V->Hp->VK->Prop
noncomputable def Oh(X:Cx)(f:Value->Value->Io Value)(r:R2):Prop:=
 ∀ (a:List (Addr × Obj)) (s:Shared) (σ:St) (H:Hp) (x y:V) (v u:Value) (Q:VK),Inv X a σ H s->Zc x v->Zc y u->r x y H Q->
  wpAny (model X.prog X.w) X.A (f v u) (EP X a σ Q) X.xe s
noncomputable def Zl(X:Cx)(f:Value)(r:List V->Hp->VK->Prop):Prop:=
 ∀ (a:List (Addr × Obj)) (s:Shared) (σ:St) (H:Hp) (xs:List V) (us:List Value) (Q:VK),Inv X a σ H s->zd xs us->r xs H Q->
  wpAny (model X.prog X.w) X.A (call f us) (EP X a σ Q) X.xe s
noncomputable def Oz(r:R2)(d tb:TE):TE:=λa H Q=>d a H λx b=>tb a b λy c=>r x y c Q
noncomputable def rI(C:Int->Int->Prop)(g:Int->Int->V):R2:=λx y H Q=>∃ i j,x=.int i/\y=.int j/\C i j/\Q (g i j) H
noncomputable def gq(g:Int->Int->V):R2:=λx y H Q=>∃ i j,x=.int i/\y=.int j/\Q (g i j) H
section
variable{X:Cx}{a b c:Ea}{ta tb tc:TE}{pos:se}
theorem YF(m:PE X a ta)(hb:PE X b tb){c:List (Addr × Obj)}{s:Shared}{σ:St}{H:Hp}{R:V->V->Hp->Prop}(I:Inv X c σ H s)
  (h:ta σ H λx j=>tb σ j λy d=>R x y d) {Q:Value->Shared->Prop} {f:Value->Value->Io Value}
  (n:∀ v u i x y d,Inv X c σ d i->Zc x v->Zc y u->R x y d->wpAny (model X.prog X.w) X.A (f v u) Q X.xe i) :
  wpAny (model X.prog X.w) X.A (Gb a X.env) (λv e=>wpAny (model X.prog X.w) X.A (Gb b X.env) (λu g=>wpAny (model X.prog X.w) X.A (f v u) Q X.xe g) X.xe e) X.xe s:=by
 refine Ad (m c s σ H _ I h) λv s1 ⟨x,j,k,q,o⟩=>?_;refine Ad (hb c s1 σ j _ k o) λu i ⟨y,d,l,r,p⟩=>?_;exact n v u i x y d l q r p
theorem RX{op:nv}{r:R2}(g:Oh X (ef op) r)(f:PE X a ta)(hb:PE X b tb):PE X (.BinOp a op b pos) (Oz r ta tb):=by
 intro c s l H Q I h;exact wpAny_BinOp (YF f hb I h λv u k x y d e i j q=>g c k l d x y v u Q e i j q)
theorem OM{f:Value->Value->Io Value}{C:Int->Int->Prop}{g:Int->Int->Int}
  (a:∀ (i j:Int) (t u:Tok) (s:Shared) (Q:Value->Shared->Prop) (E:Value->Shared->Prop),C i j->Q (.int (g i j) s.toks) { s with toks:=s.toks+1 }->wpAny (model X.prog X.w) X.A (f (.int i t) (.int j u)) Q E s) :
  Oh X f (rI C λi j=>.int (g i j)):=by
 intro b s l H x y v u Q I d e h;obtain⟨i,j,rfl,rfl,c,q⟩:=h;obtain⟨t,rfl⟩:=d;obtain⟨k,rfl⟩:=e;exact a i j t k s _ _ c ⟨.int (g i j),H,I.tok _,⟨_,rfl⟩,q⟩
theorem GK{f:Value->Value->Io Value}{g:Int->Int->Int}
  (a:∀ (i j:Int) (t u:Tok) (s:Shared) (Q:Value->Shared->Prop) (E:Value->Shared->Prop),Q (.int (g i j) s.toks) { s with toks:=s.toks+1 }->wpAny (model X.prog X.w) X.A (f (.int i t) (.int j u)) Q E s) :
  Oh X f (gq λi j=>.int (g i j)):=by
 intro b s k H x y v u Q I c d h;obtain⟨i,j,rfl,rfl,q⟩:=h;obtain⟨t,rfl⟩:=c;obtain⟨e,rfl⟩:=d;exact a i j t e s _ _ ⟨.int (g i j),H,I.tok _,⟨_,rfl⟩,q⟩
theorem WB{f:Value->Value->Io Value}{g:Int->Int->Bool}
  (a:∀ (i j:Int) (t u:Tok) (s:Shared) (Q:Value->Shared->Prop) (E:Value->Shared->Prop),Q (.bool (g i j)) s->wpAny (model X.prog X.w) X.A (f (.int i t) (.int j u)) Q E s) :
  Oh X f (gq λi j=>.bl (g i j)):=by
 intro b s k H x y v u Q I c d h;obtain⟨i,j,rfl,rfl,q⟩:=h;obtain⟨t,rfl⟩:=c;obtain⟨e,rfl⟩:=d;exact a i j t e s _ _ ⟨.bl (g i j),H,I,rfl,q⟩
noncomputable def vM(i j:Int):Prop:=0<j/\j<1073741824
noncomputable def cL(i j:Int):Prop:=(-(2 ^ 64)<i/\i<2 ^ 64)\/(-(2 ^ 64)<j/\j<2 ^ 64)
theorem cL.ok{i j:Int}(h:cL i j):IntMulOk i j:=by
 rcases h with⟨a,b⟩|⟨a,b⟩
 ·exact .of_left (DP a b)
 ·exact .of_right (DP a b)
theorem M3:Oh X (ef .Add) (gq λi j=>.int (i+j)):=GK λ_ _ _ _ _ _ _ q=>add_int q
theorem CC:Oh X (ef .Sub) (gq λi j=>.int (i - j)):=GK λ_ _ _ _ _ _ _ q=>sub_int q
theorem UA:Oh X (ef .FloorDiv) (rI vM λi j=>.int (i / j)):=OM λi j _ _ _ _ _ a q=>by
 have b:(0:Int)<j:=a.1;have c:j<1073741824:=a.2;exact floordiv_int (by omega) (by rw[Int.fdiv_eq_ediv_of_nonneg i (by omega)];exact q) (.inl (PyProof.noPylong_small (by omega)))
theorem aw:Oh X (ef .Mod) (rI (λ_ j=>0<j) λi j=>.int (i % j)):=OM λi j _ _ _ _ _ a q=>by
 have b:(0:Int)<j:=a;exact mod_int' (by omega) (by rw[Int.fmod_eq_emod_of_nonneg i (by omega)];exact q)
end
section
variable{X:Cx}{a b c:Ea}{ta tb tc:TE}{pos:se}
theorem SL{a:List (Addr × Obj)}{σ:St}{H:Hp}{s:Shared}{Q:VK}{k b:Bool}(I:Inv X a σ H s)(q:Q (.bl k) H)(e:k=b):EP X a σ Q (.bool b) s:=by
 subst e;exact⟨.bl k,H,I,rfl,q⟩
theorem fE:Oh X (Rb .Lt) (gq λi j=>.bl (decide (i<j))):=WB λ_ _ _ _ _ _ _ q=>lt_int q
theorem cP:Oh X (Rb .LtE) (gq λi j=>.bl (decide (i<=j))):=WB λ_ _ _ _ _ _ _ q=>le_int q
theorem jE:Oh X (Rb .Gt) (gq λi j=>.bl (decide (j<i))):=WB λ_ _ _ _ _ _ _ q=>gt_int q
theorem kG:Oh X (Rb .GtE) (gq λi j=>.bl (decide (j<=i))):=WB λ_ _ _ _ _ _ _ q=>ge_int q
theorem Ay:Oh X (Rb .Is) (λx y H Q=>y=.Hb/\Q (.bl (decide (x=.Hb))) H):=by
 intro a s d H x y v u Q I b c h;obtain⟨rfl,q⟩:=h;cases c;refine is_none_gen (SL I q ?_);cases x<;>first
  |(cases b;rfl)
  |(obtain⟨t,rfl⟩:=b;rfl)
theorem UE:Oh X (Rb .IsNot) (λx y H Q=>y=.Hb/\Q (.bl (!decide (x=.Hb))) H):=by
 intro a s d H x y v u Q I b c h;obtain⟨rfl,q⟩:=h;cases c;refine isnot_none_gen (SL I q ?_);cases x<;>first
  |(cases b;rfl)
  |(obtain⟨t,rfl⟩:=b;rfl)
theorem Oh.or{f:Value->Value->Io Value}{r b:R2}(h:Oh X f r)(h':Oh X f b):Oh X f (λx y H Q=>r x y H Q\/b x y H Q):=by
 intro a s e H x y v u Q I c d q;rcases q with q|q
 ·exact h a s e H x y v u Q I c d q
 ·exact h' a s e H x y v u Q I c d q
theorem Mh(b:Ea){op:Jo}(h:op≠.In:=by decide)(c:op≠.NotIn:=by decide):ue op b=false:=by
 have e1:(op == MH)=false:=by cases op<;>first|rfl|exact absurd rfl h
 have a:(op == az)=false:=by cases op<;>first|rfl|exact absurd rfl c
 cases b<;>simp[ue,e1,a]
theorem sZ{op:Jo}{r:R2}(g:Oh X (Rb op) r)(f:PE X a ta)(hb:PE X b tb)(hm:ue op b=false):PE X (.Compare a [op] [b] pos) (Oz r ta tb):=by
 intro c s l H Q I h;exact wpAny_Compare1 (YF f hb I h λv u k x y d e i j q=>g c k l d x y v u Q e i j q) hm
noncomputable def J1(t:TE):TT:=λb H Q=>t b H λx a=>∃ k,x=.bl k/\Q k a
theorem kW{op:Jo}{r:R2}(o:Oh X (Rb op) r)(n:PE X a ta)(hb:PE X b tb)(hm:ue op b=false):PT X (.Compare a [op] [b] pos) (J1 (Oz r ta tb)):=by
 intro d s f H Q I h;refine uu (Ad (n d s f H _ I h) λv s1 ⟨x,H1,j,w,p⟩=>Ad (hb d s1 f H1 _ j p) λu s2 ⟨y,g,l,A,q⟩=>
  Ad (o d s2 f g x y v u _ l w A q) λc s3 ⟨z,i,m,B,k,e,t⟩=>?_) hm
 subst e;cases B;exact ud ⟨i,m,t⟩
noncomputable def t2(r f:R2)(ta tb tc:TE):TE:=λa H Q=>ta a H λx c=>tb a c λy d=>r x y d λz b=>∃ k,z=.bl k/\
 (if k=true then tc a b λg e=>f y g e Q else Q (.bl false) b)
theorem X3{op g:Jo}{r o:R2}(E:Oh X (Rb op) r)(j:Oh X (Rb g) o)(C:PE X a ta)(hb:PE X b tb)(D:PE X c tc)
  (hm:lastMarks [op,g] [b,c]=false:=by with_unfolding_all rfl):PE X (.Compare a [op,g] [b,c] pos) (t2 r o ta tb tc):=by
 intro f s i H Q I h;refine Compare_chain (Ad (C f s i H _ I h) λv s1 ⟨x,H1,w,K,F⟩=>chain_link (Ad (hb f s1 i H1 _ w F) λu s2 ⟨y,q,A,p,G⟩=>
  Ad (E f s2 i q x y v u _ A K p G) λd s3 ⟨z,l,m,L,k,e,n⟩=>?_)) hm
 subst e;cases L;refine ud ?_;cases k with
 |false=>exact ite_ff ⟨.bl false,l,m,rfl,n⟩
 |true=>exact ite_tt (chain_last (Ad (D f s3 i l _ m n) λN s4 ⟨O,t,B,M,J⟩=>j f s4 i t y O u N Q B p M J))
theorem pD:(sizeLine:Nat)<2 ^ 63:=by rw[fv];decide
theorem HV:Oh X (ef .Add) (λx y H Q=>∃ i j,x=.str i/\y=.str j/\i.length+j.length<=sizeLine/\Q (.str (i++j)) H):=by
 intro a s g H x y v u Q I c d h;obtain⟨i,j,rfl,rfl,b,q⟩:=h;obtain⟨t,rfl⟩:=c;obtain⟨e,rfl⟩:=d;exact add_str (λe f=>⟨.str (i++j),H,I.tok _,⟨_,rfl⟩,q⟩) b
theorem Yr{x:V}{us:List Value}(r:zd [x] us):∃ u,us=[u]/\Zc x u:=by
 cases r with
 |cons a b=>cases b;exact⟨_,rfl,a⟩
theorem nL{x y:V}{us:List Value}(r:zd [x,y] us):∃ u w',us=[u,w']/\Zc x u/\Zc y w':=by
 cases r with
 |cons a b=>
  cases b with
  |cons c d=>cases d;exact⟨_,_,rfl,a,c⟩
theorem J0(c:X.calm=true):Zl X (.builtin "min") (λxs H Q=>∃ i j,xs=[.int i,.int j]/\Q (.int (if j<i then j else i)) H):=by
 intro b s m H xs g Q I r h;obtain⟨i,j,rfl,q⟩:=h;obtain⟨u,l,rfl,⟨t,rfl⟩,⟨e,rfl⟩⟩:=nL r;refine min_two_ints (I.ok.hd c) λd f k=>⟨_,H,I.kept k,?_,q⟩
 by_cases a:j<i
 ·rw[da a,da a];exact⟨_,rfl⟩
 ·rw[ga a,ga a];exact⟨_,rfl⟩
end
structure lq(h:Heap)(x dx C:Addr)(mA:qa->Option Value):Prop where
 obj:h.get? x=some (W.instObj C dx)
 ns:h.Ns1 dx mA
 ne:dx≠x
theorem GW{h:Heap}{c:Addr}{f:qa->Option Value}(n:h.Ns1 c f):∃ od,h.get? c=some od/\∀ name,W.lookIn name od=some (f name):=by
 obtain⟨o,d,l,j,hd,i,_,hm⟩:=n;refine⟨o,j,λname=>?_⟩;have e:=hm name;unfold nsFind findBy at e;rw[<-Array.find?_toList]at e;unfold W.lookIn;rw[hd];dsimp only;split
 ·rename_i y q
  rw[q]at e;exact Ve some e
 ·rename_i q
  rw[q]at e;have a:d.toList.any (·.refKey)=false:=by
   rw[List.any_eq_false];intro y k;obtain⟨z,t,b⟩:=i y (Array.mem_toList_iff.mp k);simp[E4,b]
  have g:¬ d.toList.any (·.refKey)=true:=by rw[a];exact Wa
  rw[ga g];exact Ve some e
theorem lq.look{h:Heap}{x a C:Addr}{b:qa->Option Value}(I:lq h x a C b):∃ od,W.InstAt h x (W.instObj C a) C (some od)/\∀ name,W.lookIn name od=some (b name):=
 let ⟨od,d,c⟩:=GW I.ns
 ⟨od,⟨I.obj,rfl,rfl,d⟩,c⟩
section
variable{prog:ra}{w:Ia}{A:Ja}{E:Value->Shared->Prop}{s:Shared}{K:W.Frag}{x dx C f:Addr}{mA:qa->Option Value}{name:qa}{v:Value}
theorem QU{a:Bool}{Q:Value->Shared->Prop}(X:K.In s.heap)(I:lq s.heap x dx C mA)(d:W.plainGet K C name=true)(e:W.hasDictIn K C=true)
  (c:W.findIn K (.ref C) name=some none) (g:mA name=some v) (b:W.handedIn v=true) (h:Q v { s with toks:=s.toks+1 }) :
  wpAny (model prog w) A (F4 (.ref x) name a) Q E s:=by
 obtain⟨i,J,f⟩:=I.look;exact W.get_value X J (qq d).1 (W.findObj_own e c rfl (by rw[f,g])) b h
theorem vY{pl:Io Bool}{Q:Value × List Value->Shared->Prop}(X:K.In s.heap)(I:lq s.heap x dx C mA)(a:W.plainGet K C name=true)
  (b:W.findIn K (.ref C) name=some (some (.ref f))) (d:W.isFn K (.ref f)=true) (e:mA name=none) (h:Q (.ref f,[.ref x]) s) :
  wpAny (model prog w) A (Es (.ref x) name pl) Q E s:=by
 obtain⟨g,J,c⟩:=I.look;exact W.method_fn X J (qq a).1 (qq a).2 b (vf.mp d) (by show (W.lookIn name g).map (·.isSome)=some false;rw[c,e];rfl) h
theorem R1{ns:List qa}{Q:Unit->Shared->Prop}(X:K.In s.heap)(I:lq s.heap x dx C mA)
  (hs:W.findIn K (.ref C) "__setattr__" = some (some (.builtin "object.__setattr__"))) (m:W.plainOver K C=true) (n:W.takerIn K C name=some none) (l:W.hasDictIn K C=true)
  (o:PySem.Within mA ns) (hsz:ns.length<=sizeLine)
  (h:∀ h',lq h' x dx C (λy=>if y=name then some v else mA y)->Oc dx s.heap h'->Q () { s with heap:=h',toks:=s.toks+2 }) :
  wpAny (model prog w) A (setAttr (.ref x) name v) Q E s:=by
 obtain⟨z,J,t⟩:=I.look;refine W.set_plain X J hs (W.osa_open (s:={ s with toks:=s.toks+1 }) (r:=none) X J m n λb=>?_);obtain⟨q,k,f⟩:=W.any_some l;have p:s.heap.get? x=some ⟨.ref C,some dx,.plain,#[]⟩:=I.obj;refine aa (ia (aa (aa (wpAny_loadPart p (aa (W.Looks.here (s:={ s with toks:=s.toks+1 }) (W.looks_clsIn X k) ?_))))));rw[f];refine ia (a:=some dx) (aa (ia (aa ?_)));refine wpAny_nsSet1 (s:={ s with toks:=s.toks+1 }) I.ns λh' c d=>?_;obtain⟨u,j,i,g,Ut,e⟩:=c.count (MD name v o);refine aa (wpAny_lookBehind g (by rw[Ut];exact pastItsLine_dict (Qa e (by rw[Ha];omega))) ?_);exact ia (h _ ⟨(d.2 _ (Fe I.ne)).trans I.obj,c,I.ne⟩ d)
theorem PX{R:bo->Shared->Prop}{vs:List Value}{kw:List (qa × Value)}(X:K.In s.heap)(hm:W.makesIn K C=true)
  (b:W.findIn K (.ref C) "__init__" = some (some (.ref f))) (a:W.typeIn K (.ref f)=some (.type "function"))
  (h:codeAny (model prog w) (A.under (.builtin "type.__call__" ⟨.ref C::vs,kw⟩)) (.call (.ref f) ⟨.ref (s.heap.objs.size+1)::vs,kw⟩) (W.InitBack (s.heap.objs.size+1) R)
   { s with heap:=(s.heap.push W.emptyDict).push (W.instObj C s.heap.objs.size) }) :
  codeAny (model prog w) A (.call (.ref C) ⟨vs,kw⟩) R s:=by
 obtain⟨c,g,d,t,os⟩:=s;exact W.make_core (W.makes_of X hm) (W.looks_findIn X b) (λself=>W.bind_fn X self a) (.inl rfl) h
end
noncomputable def Ll(f:qa)(v:V):List (qa × V)->List (qa × V)
 |[]=>[(f,v)]
 |(g,x)::r=>if g=f then (g,v)::r else (g,x)::Ll f v r
theorem jN(f g:qa)(v:V):∀ fs:List (qa × V),(Ll f v fs).lookup g=if g=f then some v else fs.lookup g
 |[]=>by
  show List.lookup g [(f,v)]=_;by_cases h:g=f
  ·have hb:(g == f)=true:=vf.mpr h;simp only[List.lookup,hb,da h]
  ·have hb:(g == f)=false:=kc.mpr h;simp only[List.lookup,hb,ga h]
 |(k,x)::r=>by
  have b:=jN f g v r;rw[show Ll f v ((k,x)::r)=(if k=f then (k,v)::r else (k,x)::Ll f v r)from rfl];by_cases a:k=f
  ·rw[da a];by_cases h:g=k
   ·have hb:(g == k)=true:=vf.mpr h;simp only[List.lookup,hb,da (h.trans a)]
   ·have hb:(g == k)=false:=kc.mpr h;simp only[List.lookup,hb,ga (λe:g=f=>h (e.trans a.symm))]
  ·rw[ga a];by_cases h:g=k
   ·have hb:(g == k)=true:=vf.mpr h;simp only[List.lookup,hb,ga (λe:g=f=>a (h.symm.trans e))]
   ·have hb:(g == k)=false:=kc.mpr h;simp only[List.lookup,hb];exact b
theorem rH(f:qa)(v:V):∀ fs:List (qa × V),f∈(Ll f v fs).map (·.1)/\∀ g,g∈fs.map (·.1)->g∈(Ll f v fs).map (·.1)
 |[]=>⟨by simp[Ll],λg h=>by simp at h⟩
 |(k,x)::r=>by
  obtain⟨b,c⟩:=rH f v r;rw[show Ll f v ((k,x)::r)=(if k=f then (k,v)::r else (k,x)::Ll f v r)from rfl];by_cases a:k=f
  ·rw[da a];subst a;exact⟨by simp,λg h=>by simpa using h⟩
  ·rw[ga a];refine⟨?_,λg h=>?_⟩
   ·rw[za];exact wa _ b
   ·rw[za]at h ⊢;rcases Ca.mp h with e|e
    ·exact Ca.mpr (.inl e)
    ·exact wa _ (c g e)
theorem cJ(f:qa)(v:V):∀ fs:List (qa × V),(Ll f v fs).length<=fs.length+1
 |[]=>by simp[Ll]
 |(k,x)::r=>by
  have b:=cJ f v r;rw[show Ll f v ((k,x)::r)=(if k=f then (k,v)::r else (k,x)::Ll f v r)from rfl];by_cases a:k=f
  ·rw[da a,Ha,Ha];omega
  ·rw[ga a,Ha,Ha];omega
theorem xo.some_of{v:V}{o:Option Value}(r:xo (some v) o):∃ u,o=some u/\Zc v u:=by
 cases o with
 |none=>exact(show False from r).elim
 |some u=>exact⟨u,rfl,r⟩
theorem xo.none_of{o:Option Value}(r:xo none o):o=none:=by
 cases o with
 |none=>rfl
 |some u=>exact(show False from r).elim
theorem yR{v:V}{u:Value}(r:Zc v u):W.handedIn u=true:=by
 cases v with
 |Hb=>cases (show u=Sa from r);rfl
 |bl b=>cases (show u=tf b from r);rfl
 |int i=>obtain⟨t,e⟩:=(show ∃ t,u=Md i t from r);cases e;rfl
 |str x=>obtain⟨t,e⟩:=(show ∃ t,u=Hk x t from r);cases e;rfl
 |fD b=>obtain⟨t,e⟩:=(show ∃ t,u=Zy b t from r);cases e;rfl
 |Jw b=>obtain⟨t,e⟩:=(show ∃ t,u=yq b t from r);cases e;rfl
 |ref a=>cases (show u=kb a from r);rfl
 |ty n=>cases (show u=uf n from r);rfl
section
variable{P:ra}{w:Ia}{H H':Hp}{h h':Heap}{a C dx:Addr}{fs fs':List (qa × V)}
theorem pC(Pb:Hh P w H h)(e:H a=some (.ins C dx fs)):∃ b,lq h a dx C b/\(∀ f,xo (fs.lookup f) (b f))/\PySem.Within b (fs.map (·.1))/\fs.length<=1000/\H dx=some (.own a):=by
 obtain⟨d,z,ne,c,b,n,r,q⟩:=(show Wh P w H h a (.ins C dx fs)from Pb a _ e)
 exact⟨b,⟨c,n,ne⟩,r,q,z,d⟩
end
structure Bh(K:W.Frag)(C:Addr):Prop where
 pg:W.plainGet K C Str.empty=true
 hd:W.hasDictIn K C=true
 po:W.plainOver K C=true
 sa:W.findIn K (.ref C) "__setattr__" = some (some (.builtin "object.__setattr__"))
theorem Bh.get{K:W.Frag}{C:Addr}(c:Bh K C)(f:qa):W.plainGet K C f=true:=c.pg
noncomputable def rc(K:W.Frag)(C:Addr)(f:qa):Prop:=W.findIn K (.ref C) f=some none
theorem rc.QA{K:W.Frag}{C:Addr}{f:qa}(n:rc K C f):W.takerIn K C f=some none:=by
 unfold W.takerIn;rw[show W.findIn K (.ref C) f=some none from n];rfl
structure e5(K:W.Frag)(C:Addr)(f:qa)(v:V)(u:Value):Prop where
 at_:W.findIn K (.ref C) f=some (some u)
 rel:Zc v u
 get:W.specialIn K u "__get__" = some none
 cp:W.copiedNames.contains f=false
structure md(K:W.Frag)(C:Addr)(m:qa)(f:Addr):Prop where
 at_:W.findIn K (.ref C) m=some (some (.ref f))
 fn:W.isFn K (.ref f)=true
 kp:W.keepIn K (.ref f)=true
section
variable{X:Cx}{pins:List (Addr × Obj)}{σ:St}{H:Hp}{s:Shared}{a C dx:Addr}{fs:List (qa × V)}{f:qa}{v:V}{A:Ja}{E:Value->Shared->Prop}
theorem II{b:Bool}{Q:Value->Shared->Prop}(I:Inv X pins σ H s)(e:H a=some (.ins C dx fs))(c:Bh X.K C)(n:rc X.K C f)(l:fs.lookup f=some v)
  (h:∀ u s',Inv X pins σ H s'->Zc v u->Q u s'):wpAny (model X.prog X.w) A (F4 (.ref a) f b) Q E s:=by
 obtain⟨i,O,r,_,_,_⟩:=pC I.Pb e;obtain⟨u,g,d⟩:=xo.some_of (v:=v) (o:=i f) (by rw[<-l];exact r f);exact QU I.Kj O (c.get f) c.hd n g (yR d) (h u _ (I.tok _) d)
theorem JK{m:qa}{g:Addr}{pl:Io Bool}{Q:Value × List Value->Shared->Prop}(I:Inv X pins σ H s)(e:H a=some (.ins C dx fs))(c:Bh X.K C)(k:md X.K C m g)(l:fs.lookup m=none)
  (h:Q (.ref g,[.ref a]) s):wpAny (model X.prog X.w) A (Es (.ref a) m pl) Q E s:=by
 obtain⟨b,O,r,_,_,_⟩:=pC I.Pb e;have hn:b m=none:=xo.none_of (by rw[<-l];exact r m);exact vY I.Kj O (c.get m) k.at_ k.fn hn h
theorem dM{y:V}{u:Value}{Q:Unit->Shared->Prop}(I:Inv X pins σ H s)(e:H a=some (.ins C dx fs))(c:Bh X.K C)(n:rc X.K C f)(D:fs.length<1000)(v:Zc y u)
  (h:∀ s',Inv X pins σ (upd H a (.ins C dx (Ll f y fs))) s'->Q () s'):wpAny (model X.prog X.w) A (setAttr (.ref a) f u) Q E s:=by
 obtain⟨j,O,r,k,_,i⟩:=pC I.Pb e;have t:(fs.map (·.1)).length<=sizeLine:=by rw[Ta,fv];omega
 refine R1 I.Kj O c.sa c.po n.QA c.hd k t λm d B=>h _ ?_;have hd:∃ o,m.get? dx=some o:=let ⟨o,_,_,l,_⟩:=d.ns;⟨o,l⟩;refine I.write (x:=a) (e:=dx) (by rw[e];exact True.intro) (.inr i) (λb q hb z=>(B.2 b hb).trans z) hd ?_;refine⟨by rw[we O.ne];exact i,?_,O.ne,d.obj,_,d.ns,λg=>?_,λg p=>?_⟩
 ·have:=cJ f y fs;omega
 ·show xo ((Ll f y fs).lookup g) (if g=f then some u else j g);rw[jN];by_cases q:g=f
  ·rw[da q,da q];exact v
  ·rw[ga q,ga q];exact r g
 ·by_cases q:g=f
  ·rw[q];exact(rH f y fs).1
  ·refine(rH f y fs).2 g (k g λz=>p ?_);show (if g=f then some u else j g)=none;rw[ga q];exact z
theorem Inv.made(I:Inv X pins σ H s):Inv X pins σ (upd (upd H s.heap.objs.size (.own (s.heap.objs.size+1))) (s.heap.objs.size+1) (.ins C s.heap.objs.size []))
  { s with heap:=(s.heap.push W.emptyDict).push (W.instObj C s.heap.objs.size) }:=by
 have e1:(s.heap.push W.emptyDict).get? s.heap.objs.size=some W.emptyDict:=Aa s.heap rfl;have d:((s.heap.push W.emptyDict).push (W.instObj C s.heap.objs.size)).get? (s.heap.objs.size+1)=some (W.instObj C s.heap.objs.size):=by
  have:=Aa (s.heap.push W.emptyDict) (o:=W.instObj C s.heap.objs.size) rfl
  rwa [dc]at this
 have f:(s.heap.push W.emptyDict).Ns s.heap.objs.size (λ_=>none):=⟨W.emptyDict,#[],_,e1,rfl,(λe g=>absurd g (by simp)),λ_=>rfl⟩
 have c:=I.laid (a:=s.heap.objs.size) (o:=.own (s.heap.objs.size+1)) (h':=s.heap.push W.emptyDict) (t':=s.toks) (λb u q=>ba _ q) (ja _) ⟨_,e1⟩;refine c.laid (a:=s.heap.objs.size+1) (o:=.ins C s.heap.objs.size []) (t':=s.toks) (λb u q=>ba _ q) (gB (dc _ _)) ?_;have ne:s.heap.objs.size≠s.heap.objs.size+1:=ua (yb _);refine⟨by rw[we ne,fg],Si _,ne,d,λ_=>none,(F6 f).at λo q=>ba _ q,λ_=>True.intro,λy h=>absurd rfl h⟩
theorem Z0{prog:ra}{w:Ia}{env:Cg}{e:Ea}{f:qa}{pos:se}{s:Shared}{Q:Value->Shared->Prop}(hb:Yc e f env (Gb e env)=Gb e env)
  (h:wpAny (model prog w) A (Gb e env) (λo a=>wpAny (model prog w) A (F4 o f true) Q E a) E s):wpAny (model prog w) A (Gb (.Attribute e f pos) env) Q E s:=
 Attribute_any_ h (by rw[arm_eval_Attribute,hb])
end
noncomputable def OR(K:W.Frag)(d:TE)(f:qa):TE:=λe H Q=>d e H λx b=>∃ a C c fs v,x=.ref a/\b a=some (.ins C c fs)/\Bh K C/\rc K C f/\fs.lookup f=some v/\Q v b
noncomputable def aU(K:W.Frag)(g h:TE)(f:qa):TS:=λD b H=>h b H λy e=>g b e λx c=>∃ a C d fs,x=.ref a/\c a=some (.ins C d fs)/\Bh K C/\rc K C f/\fs.length<1000/\
 D.nx b (upd c a (.ins C d (Ll f y fs)))
noncomputable def sM(X:Cx)(op:nv)(rd:V->V->Hp->VK->Prop):Prop:=
 ∀ (a:List (Addr × Obj)) (s:Shared) (σ:St) (H:Hp) (x y:V) (u v:Value) (Q:VK),Inv X a σ H s->Zc x u->Zc y v->rd x y H Q->wpAny (model X.prog X.w) X.A (inplaceOp op u v) (EP X a σ Q) X.xe s
noncomputable def N1(K:W.Frag)(j k:TE)(rd:V->V->Hp->VK->Prop)(f:qa):TS:=λD d H=>j d H λx e=>∃ a C i fs v,x=.ref a/\e a=some (.ins C i fs)/\Bh K C/\rc K C f/\fs.lookup f=some v/\
 k d e λy h=>rd v y h λz g=>∃ c b,g a=some (.ins C c b)/\b.length<1000/\D.nx d (upd g a (.ins C c (Ll f z b)))
section
variable{X:Cx}{o e value:Ea}{f:qa}{pos pos' tpos:se}{ta tv:TE}
theorem y0(j:PE X e ta)(hb:Yc e f X.env (Gb e X.env)=Gb e X.env):PE X (.Attribute e f pos) (OR X.K ta f):=by
 intro b s o H Q I h;refine Z0 hb (Ad (j b s o H _ I h) λu s1 ⟨x,H1,d,m,a,C,p,fs,v,ex,i,c,n,l,q⟩=>?_);subst ex;obtain rfl:u=kb a:=m;exact II d i c n l λt r g k=>⟨v,H1,g,k,q⟩
theorem KR(k:PE X o ta)(m:PE X value tv)(hs:Di value (some (.Attribute o f pos')) pos.line X.env=pure false):PS X (.Assign [.Attribute o f pos'] value pos) (aU X.K ta tv f):=by
 intro b s d H D I h;refine plainObj_wpAny_Assign_Attribute (Ad (m b s d H _ I h) λu s1 ⟨y,H1,e,v,q⟩=>Ad (k b s1 d H1 _ e q) λp s2 ⟨x,w,g,t,a,C,z,fs,ex,j,c,n,l,r⟩=>?_) hs;subst ex;obtain rfl:p=kb a:=t;exact dM g j c n l v λA i=>⟨d,_,i,r⟩
theorem RY{op:nv}{rd:V->V->Hp->VK->Prop}(B:PE X o ta)(E:PE X value tv)(g:sM X op rd):PS X (.AugAssign (.Attribute o f tpos) op value pos) (N1 X.K ta tv rd f):=by
 intro b s d H D I h;refine wpAny_AugAssign_AttributeAny (Ad (B b s d H _ I h) λG s1 ⟨x,H1,j,N,a,C,T,fs,v,ex,w,c,n,l,q⟩=>?_);subst ex;obtain rfl:G=kb a:=N;refine II j w c n l λu Q k M=>Ad (E b Q d H1 _ k q) λR s3 ⟨y,i,m,O,J⟩=>Ad (g b s3 d i v y u R _ m M O J) λW s4 ⟨z,S,p,P,t,A,e,F,L⟩=>?_;exact dM p e c n F P λU r=>⟨d,_,r,L⟩
noncomputable def cT:V->V->Hp->VK->Prop:=λx y H Q=>∃ i j,x=.int i/\y=.int j/\Q (.int (i+j)) H
theorem IY:sM X .Add cT:=by
 rintro a s e H x y u v Q I c d ⟨i,j,rfl,rfl,q⟩;obtain⟨t,rfl⟩:=(show ∃ t,u=Md i t from c)
 obtain⟨b,rfl⟩:=(show ∃ b,v=Md j b from d)
 exact ND ⟨.int (i+j),H,I.tok _,⟨_,rfl⟩,q⟩
end
section
variable{X:Cx}{pins:List (Addr × Obj)}{σ:St}{H:Hp}{s:Shared}{A:Ja}{E:Value->Shared->Prop}{Q:Value->Shared->Prop}{c:Value}{b:Bool}
inductive Dj(K:W.Frag)(H:Hp):V->Value->Prop where
 |Hb:Dj K H .Hb (.type "NoneType")
 |bl (x:Bool):Dj K H (.bl x) (.type "bool")
 |int (i:Int):Dj K H (.int i) (.type "int")
 |str (x:qa):Dj K H (.str x) (.type "str")
 |Jw (x:UInt64):Dj K H (.Jw x) (.type "float")
 |lst {a:Addr} {xs:List V} (e:H a=some (.lst xs)):Dj K H (.ref a) (.type "list")
 |rb {a:Addr} {o:Obj} {xs:List V} (e:H a=some (.rb o (.lst xs))):Dj K H (.ref a) (.type "list")
 |tup {a:Addr} {xs:List V} (e:H a=some (.tup xs)):Dj K H (.ref a) (.type "tuple")
 |dK {a:Addr} {kvs:List (Key × V)} (e:H a=some (.dK kvs)):Dj K H (.ref a) (.type "dict")
 |dT {a:Addr} {kvs:List (List Key × V)} (e:H a=some (.dT kvs)):Dj K H (.ref a) (.type "dict")
 |ins {a C dx:Addr} {fs:List (qa × V)} (e:H a=some (.ins C dx fs)) (cl:Bh K C) (ha:W.findIn K (.ref C) "__class__" = some (some (.builtin "object.__class__")))
   (hn:W.specialIn K (.builtin "object.__class__") "__get__" = some (some (.builtin "getset_descriptor.__get__"))) (htk:W.takesIn K (.builtin "object.__class__")=some true)
   (hm:W.mroIn K C (.type "object")=some true):Dj K H (.ref a) (.ref C)
theorem Q2{x:V}{u t:Value}(I:Inv X pins σ H s)(f:Zc x u)(ty:Dj X.K H x t)(e:W.kitOne X.K t c=some b)(h:∀ D,Q (.bool b) { s with toks:=D }) :
  wpAny (model X.prog X.w) A (call (.builtin "isinstance") [u,c]) Q E s:=by
 cases ty with
 |Hb=>cases (show u=Sa from f);exact Pe W.kitx_none I.Kj True.intro e (λz=>nomatch z) h
 |bl y=>cases (show u=tf y from f);exact Pe W.kitx_bool I.Kj True.intro e (λz=>nomatch z) h
 |int i=>obtain⟨t,q⟩:=(show ∃ t,u=Md i t from f);cases q;exact Pe W.kitx_int I.Kj True.intro e (λz=>nomatch z) h
 |str y=>obtain⟨t,q⟩:=(show ∃ t,u=Hk y t from f);cases q;exact Pe W.kitx_str I.Kj True.intro e (λz=>nomatch z) h
 |Jw y=>obtain⟨t,q⟩:=(show ∃ t,u=yq y t from f);cases q;exact Pe W.kitx_float I.Kj True.intro e (λz=>nomatch z) h
 |@lst a xs d=>
  cases (show u=kb a from f);obtain⟨_,_,n,_,g⟩:=(show Wh X.prog X.w H s.heap a (.lst xs)from I.Pb a _ d)
  exact Pe FP I.Kj ⟨_,g,rfl⟩ e (λz=>nomatch z) h
 |@rb a B xs d=>
  cases (show u=kb a from f);obtain⟨_,_,_,n,_,g⟩:=(show Wh X.prog X.w H s.heap a (.rb B (.lst xs))from I.Pb a _ d)
  exact Pe FP I.Kj ⟨_,g,rfl⟩ e (λz=>nomatch z) h
 |@tup a xs d=>
  cases (show u=kb a from f);obtain⟨_,_,_,p⟩:=(show Wh X.prog X.w H s.heap a (.tup xs)from I.Pb a _ d)
  obtain⟨o,g,k,_⟩:=p;exact Pe W.kitx_tuple I.Kj ⟨o,g,k⟩ e (λz=>nomatch z) h
 |@dK a j d=>
  cases (show u=kb a from f);obtain⟨_,_,M,_,p⟩:=(show Wh X.prog X.w H s.heap a (.dK j)from I.Pb a _ d)
  obtain⟨o,r,m,g,k,_⟩:=p;exact Pe Bt I.Kj ⟨o,g,k.1⟩ e (λz=>nomatch z) h
 |@dT a j d=>
  cases (show u=kb a from f);obtain⟨_,_,xs,_,o,r,m,g,k,_⟩:=(show Wh X.prog X.w H s.heap a (.dT j)from I.Pb a _ d)
  exact Pe Bt I.Kj ⟨o,g,k.1⟩ e (λz=>nomatch z) h
 |@ins a C F fs d cl v hn l hm=>
  cases (show u=kb a from f);obtain⟨G,O,_⟩:=pC I.Pb d;obtain⟨L,J,_⟩:=O.look;exact Pe (W.kitx_own (cl.get _) cl.hd v hn l hm) I.Kj J e (λz=>nomatch z) h
end
structure ke(k:Nat)(A:Ja):Prop where
 hd:A.handled=none
 dp:A.depth+3 * k+5<recursionLimit
 un:A.units+16 * k+200<cLine
theorem ke.mono{j k:Nat}{A:Ja}(r:ke k A)(h:j<=k):ke j A:=⟨r.hd,by have:=r.dp;omega,by have:=r.un;omega⟩
theorem ke.deeper{k:Nat}{A:Ja}(r:ke (k+1) A)(env:Cg):ke k (A.deeper env):=
 ⟨r.hd,by have:=r.dp;show A.depth+1+3 * k+5<_;omega,by have:=r.un;show A.units+3+16 * k+200<_;omega⟩
theorem ke.in1{k:Nat}{A:Ja}(r:ke (k+1) A):ke k A.in1:=
 ⟨r.hd,by have:=r.dp;show A.depth+3 * k+5<_;omega,by have:=r.un;show A.units+1+16 * k+200<_;omega⟩
theorem CW{A:Ja}{C:Addr}{us:List Value}{kw:List (qa × Value)}:(A.under (.builtin "type.__call__" ⟨.ref C::us,kw⟩)).depth=A.depth+1:=by
 first|rfl|simp[Ko,Code.weight,Code.isCreation,Code.isGuard,Code.isCaller,nB,Rp,guardIds]
theorem ZV{A:Ja}{C:Addr}{us:List Value}{kw:List (qa × Value)}:(A.under (.builtin "type.__call__" ⟨.ref C::us,kw⟩)).units=A.units+1:=by
 first|rfl|simp[Ko,Code.cUnits,nB,Rp]
theorem ke.make{k:Nat}{A:Ja}(r:ke (k+1) A)(C:Addr)(us:List Value)(kw:List (qa × Value)):ke k (A.under (.builtin "type.__call__" ⟨.ref C::us,kw⟩)):=
 ⟨r.hd,by have:=r.dp;rw[CW];omega,by have:=r.un;rw[ZV];omega⟩
theorem ke.depth{k:Nat}{A:Ja}(r:ke k A):A.depth<recursionLimit:=by have:=r.dp;omega
theorem ke.units{k:Nat}{A:Ja}(r:ke k A):A.units+64<cLine:=by have:=r.un;omega
noncomputable def u2:TA:=λ_ H Q=>Q [] H
noncomputable def GQ(d:TE)(e:TA):TA:=λa H Q=>d a H λx b=>e a b λxs c=>Q (x::xs) c
section
variable{X:Cx}{e:Ea}{es:List Ea}{te:TE}{t:TA}{pos:se}
theorem zv:PA X [] u2:=λ_ _ _ _ H Q I h=>Calls.spliced_nil ⟨[],H,I,.nil,h⟩
theorem eu(g:PE X e te)(i:PA X es t)(hs:na (e::es) X.env=(false,Gb e X.env)::na es X.env:=by rfl):PA X (e::es) (GQ te t):=by
 intro pos a s b H Q I h;rw[hs];show wpAny _ _ (spliced ((false,Gb e X.env)::vc pos (na es X.env))) _ _ s;refine Calls.spliced_cons (Ad (g a s b H _ I h) λu s1 ⟨x,H1,d,l,j⟩=>?_);exact Ad (i pos a s1 b H1 _ d j) λus s2 ⟨xs,c,f,m,k⟩=>⟨x::xs,c,f,.cons l m,k⟩
noncomputable def JY(t:TA):TE:=λb H Q=>t b H λxs a=>xs.length<=sizeLine/\∀ p,a p=none->Q (.ref p) (upd a p (.tup xs))
noncomputable def NY(t:TA):TE:=λb H Q=>t b H λxs a=>xs.length<=sizeLine/\∀ p,a p=none->Q (.ref p) (upd a p (.lst xs))
theorem u1{x1}(h:PA X es t):PE X (.Tuple es x1 pos) (JY t):=by
 intro a s g H Q I f;refine wpAny_Tuple_spliced (Ad (h pos a s g H _ I f) λus s1 ⟨xs,H1,c,r,z,q⟩=>⟨by rw[<-r.length];exact z,?_⟩);have d:H1 s1.heap.objs.size=none:=c.Pb.fresh (ja _);refine⟨.ref s1.heap.objs.size,upd H1 s1.heap.objs.size (.tup xs),c.laid (t':=s1.toks) (λb u e=>ba _ e) (ja _) ?_,rfl,q _ d⟩;exact⟨z,us,r,⟨_,Aa _ rfl,rfl,_,rfl⟩⟩
theorem wK(h:PA X es t):PE X (.List es pos) (NY t):=by
 intro a s g H Q I f;refine wpAny_List_spliced (Ad (h pos a s g H _ I f) λus s1 ⟨xs,H1,c,r,z,q⟩=>⟨by rw[<-r.length];exact z,?_⟩);have d:H1 s1.heap.objs.size=none:=c.Pb.fresh (ja _);refine⟨.ref s1.heap.objs.size,upd H1 s1.heap.objs.size (.lst xs),c.laid (t':=s1.toks) (λb u e=>ba _ e) (ja _) ?_,rfl,q _ d⟩;exact⟨z,us,0,r,Aa _ rfl⟩
end
noncomputable abbrev Sp:=List V->Hp->VK->XK->Prop
noncomputable abbrev xr:=List Cg->Hp->Shared->XK->Value->Shared->Prop
structure xl(P:ra)(w:Ia)(K:W.Frag)(mg:qa->Option Value)(base:Heap)(A:Ja)(outer:List Cg)(s:Shared)(H:Hp):Prop where
 frames:A.frames=some outer
 mod:Mod K mg base
 bs:∀ b o,base.get? b=some o->s.heap.get? b=some o/\H b=none
 tu:base.objs.size<=s.heap.objs.size
 Gj:s.heap.FunFrames base outer
 Nv:∀ b∈yi outer,H b=none
 Pb:Hh P w H s.heap
 bare:mh s.gens
noncomputable def CE(outer:List Cg)(P:ra)(w:Ia)(H:Hp)(s:Shared)(Q:VK)(u:Value)(s':Shared):Prop:=
 ∃ v a,s'.os=s.os/\mh s'.gens/\Un (yi outer) [] H a s.heap s'.heap/\Hh P w a s'.heap/\Zc v u/\Q v a
noncomputable def CR(CX:xr)(outer:List Cg)(P:ra)(w:Ia)(H:Hp)(s:Shared)(Q:VK)(E:XK)(r:bo)(s':Shared):Prop:=
 match r with
 | .ok (.ret u)=>CE outer P w H s Q u s'
 | .ok _=>False
 | .error e=>CX outer H s E e s'
structure Og(P:ra)(w:Ia)(K:W.Frag)(mg:qa->Option Value)(base:Heap)(CX:xr)(k:Nat)(f:Addr)(fd:Ud)(ps:List qa)(sp:Sp):Prop where
 len:∀ vs H Q E,sp vs H Q E->vs.length=ps.length
 run:∀ (A:Ja) (outer:List Cg) (s:Shared) (H:Hp) (args:Args) (us:List Value) (vs:List V) (Q:VK) (E:XK),ke k A->xl P w K mg base A outer s H->Xe s fd args (ps.zip us)->zd vs us->sp vs H Q E->
  codeAny (model P w) A (.call (.ref f) args) (CR CX outer P w H s Q E) s
theorem Og.mono{P:ra}{w:Ia}{K:W.Frag}{mg:qa->Option Value}{base:Heap}{CX:xr}{j k:Nat}{f:Addr}{b:Ud}{ps:List qa}{sp:Sp}(F:Og P w K mg base CX j f b ps sp)(h:j<=k) :
  Og P w K mg base CX k f b ps sp:=⟨F.len,λA outer s H a d e Q E c=>F.run A outer s H a d e Q E (c.mono h)⟩
theorem Og.imp{P:ra}{w:Ia}{K:W.Frag}{mg:qa->Option Value}{base:Heap}{CX:xr}{k:Nat}{f:Addr}{b:Ud}{ps:List qa}{sp sp':Sp}(F:Og P w K mg base CX k f b ps sp)
  (h:∀ vs H Q E,sp' vs H Q E->sp vs H Q E):Og P w K mg base CX k f b ps sp':=
 ⟨λvs H Q E q=>F.len vs H Q E (h _ _ _ _ q),λA outer s H a g vs Q E d c hb e hs=>F.run A outer s H a g vs Q E d c hb e (h _ _ _ _ hs)⟩
theorem xl.make{P:ra}{w:Ia}{K:W.Frag}{mg:qa->Option Value}{base:Heap}{A:Ja}{outer:List Cg}{s:Shared}{H:Hp}(e:xl P w K mg base A outer s H)(C:Addr)(us:List Value)(kw:List (qa × Value)) :
  xl P w K mg base (A.under (.builtin "type.__call__" ⟨.ref C::us,kw⟩)) outer s H:=⟨by first|exact e.frames|(simpa [Ko,Code.envs,Rp,pushEnvs]using e.frames),e.mod,e.bs,e.tu,e.Gj,e.Nv,e.Pb,e.bare⟩
theorem xl.in1{P:ra}{w:Ia}{K:W.Frag}{mg:qa->Option Value}{base:Heap}{A:Ja}{outer:List Cg}{s:Shared}{H:Hp}(e:xl P w K mg base A outer s H) :
  xl P w K mg base A.in1 outer s H:=⟨e.frames,e.mod,e.bs,e.tu,e.Gj,e.Nv,e.Pb,e.bare⟩
section
variable{X:Cx}{pins:List (Addr × Obj)}{σ:St}{H:Hp}{s s':Shared}
theorem Inv.ZA(I:Inv X pins σ H s):xl X.prog X.w X.K X.mg X.base X.A X.stack s H:=
 ⟨I.ok.frames,I.ok.mod,I.bs,Qa I.ok.tu I.sz,I.stack,I.Lk,I.Pb,I.bare⟩
theorem Inv.after{Q:VK}{u:Value}(I:Inv X pins σ H s)(h:CE X.stack X.prog X.w H s Q u s'):EP X pins σ Q u s':=by
 obtain⟨v,c,os,bare,un,Pb,r,q⟩:=h;obtain⟨e,g,d,t,a⟩:=s';obtain rfl:a=s.os:=os;exact⟨v,c,I.call (h':=e) (g':=g) (d':=d) (t':=t) (ch:=[]) un Pb bare (λb z=>absurd z (by simp)),r,q⟩
end
noncomputable def Up(K:W.Frag)(a:Ud)(ps:List qa)(ds:List Value):Prop:=
 ∀ (s:Shared) (us:List Value),K.In s.heap->(us++ds).length=ps.length->Xe s a ⟨us,[]⟩ (ps.zip (us++ds))
theorem Up.all{K:W.Frag}{a:Ud}{ps:List qa}(h:∀ us:List Value,us.length=ps.length->bindArgs a ⟨us,[]⟩=pure (ps.zip us)):Up K a ps []:=λs us _ b=>by
 rw[Qd]at b ⊢;exact .of_eq (h us b)
section
variable{X:Cx}{CX:xr}{k:Nat}{f C:Addr}{fd:Ud}{ps:List qa}{sp:Sp}{dvs:List V}{ds:List Value}{E:XK}{x m:qa}{p pos apos:se}{e o:Ea}{es:List Ea}{ta:TE}{t:TA}
structure Mk(K:W.Frag)(C f:Addr):Prop where
 makes:W.makesIn K C=true
 init:W.findIn K (.ref C) "__init__" = some (some (.ref f))
 fn:W.isFn K (.ref f)=true
 kp:W.keepIn K (.ref C)=true
end
section
variable{X:Cx}{CX:xr}{k:Nat}{f C:Addr}{fd:Ud}{ps ks:List qa}{sp:Sp}{E:XK}{x m:qa}{p pos apos kpos:se}{e o:Ea}{es:List Ea}{kws:List Wi}{te ta:TE}{t tk:TA}{nm:Option qa}
structure HG(K:W.Frag)(fd:Ud)(ps ks:List qa)(g:List Value->List Value->List Value)(gV:List V->List V->List V):Prop where
 to:∀ (s:Shared) (us ws:List Value),K.In s.heap->(g us ws).length=ps.length->Xe s fd ⟨us,ks.zip ws⟩ (ps.zip (g us ws))
 rel:∀ {vs:List V} {us:List Value} {zs:List V} {ws:List Value},zd vs us->zd zs ws->zd (gV vs zs) (g us ws)
variable{g:List Value->List Value->List Value}{gV:List V->List V->List V}
end
structure Ka(N P:List qa)(sc:Scope):Prop where
 kind:sc.kind=.function
 co:sc.isCoroutine=false
 gen:sc.isGenerator=false
 nd:N.Nodup
 pre:N.take P.length=P
 par:∀ x∈P,sc.names.lookup x=some .local\/sc.names.lookup x=some .cell
 jx:∀ y∈sc.names,y.2≠.free
theorem yM{a:qa->Option Ee}{x:qa}:∀ {binds:List (qa × Value)} {m:qa->Option Value},(∀ v,(x,v) ∉ binds)->Fs a binds m x=m x
 |[],_,_=>rfl
 |(n,v)::r,m,h=>by
  unfold Fs;rw[yM λw b=>h w (wa _ b)];split
  ·have:x≠n:=by rintro rfl;exact h v Ba
   simp[this]
  ·rfl
theorem pO{a:qa->Option Ee}{x:qa}:∀ {binds:List (qa × Value)} {m:qa->Option Value},(∀ v,(x,v) ∉ binds)->Gs a binds m x=m x
 |[],_,_=>rfl
 |(n,v)::r,m,h=>by
  unfold Gs;rw[pO λw b=>h w (wa _ b)];split
  ·rfl
  ·have:x≠n:=by rintro rfl;exact h v Ba
   simp[this]
theorem JL{a:qa->Option Ee}{x:qa}{v:Value}:∀ {P:List qa} {vs:List Value} {i:Nat} {m:qa->Option Value},P.Nodup->P[i]?=some x->vs[i]?=some v->a x=some .local->
  Fs a (P.zip vs) m x=some v
 |[],_,_,_,_,h,_,_=>by simp at h
 |_::_,[],_,_,_,_,h,_=>by simp at h
 |p::P,w::vs,0,m,nd,b,c,d=>by
  simp at b c;subst b;subst c;show Fs a ((p,w)::P.zip vs) m p=_;unfold Fs;rw[yM λv e=>(gd.mp nd).1 (fm e).1,da d];simp
 |p::P,w::vs,i+1,m,nd,b,c,d=>by
  show Fs a ((p,w)::P.zip vs) m x=_;unfold Fs;exact JL (i:=i) (gd.mp nd).2 (by simpa using b) (by simpa using c) d
theorem TN{a:qa->Option Ee}{x:qa}{v:Value}:∀ {P:List qa} {vs:List Value} {i:Nat} {m:qa->Option Value},P.Nodup->P[i]?=some x->vs[i]?=some v->a x≠some .local->
  Gs a (P.zip vs) m x=some v
 |[],_,_,_,_,h,_,_=>by simp at h
 |_::_,[],_,_,_,_,h,_=>by simp at h
 |p::P,w::vs,0,m,nd,b,c,d=>by
  simp at b c;subst b;subst c;show Gs a ((p,w)::P.zip vs) m p=_;unfold Gs;rw[pO λv e=>(gd.mp nd).1 (fm e).1,ga d];simp
 |p::P,w::vs,i+1,m,nd,b,c,d=>by
  show Gs a ((p,w)::P.zip vs) m x=_;unfold Gs;exact TN (i:=i) (gd.mp nd).2 (by simpa using b) (by simpa using c) d
noncomputable def nt(N:List qa)(vs:List V):St:=vs.map some++List.replicate (N.length - vs.length) none
noncomputable def Dp(CX:xr)(P:ra)(w:Ia)(K:W.Frag)(mg:qa->Option Value)(base:Heap)(N:List qa)(qual:qa)(scope:Scope)(f:Addr)(b:Value)(A:Ja)(outer:List Cg)(s:Shared)(H:Hp)(E:XK):Cx where
 prog:=P
 w:=w
 K:=K
 mg:=mg
 base:=base
 A:=A.deeper (Kg qual scope s.heap.objs.size f b)
 N:=N
 s₀:=s
 H₀:=H
 env:=Kg qual scope s.heap.objs.size f b
 outer:=outer
 stack:=Kg qual scope s.heap.objs.size f b::outer
 ex:=[]
 calm:=true
 fn:=λ_=>true
 pn:=[]
 xe:=λe d=>wpAny (model P w) (A.deeper (Kg qual scope s.heap.objs.size f b)) (cz (Kg qual scope s.heap.objs.size f b) e) (λ_ a=>CX outer H s E e a) (λc a=>CX outer H s E c a) d
theorem wM{sc:Scope}{n:Nat}{x:qa}(h:sc.names.lookup x=some .cell):∃ c,(pB n sc.names []).lookup x=some c:=by
 have q:=yx sc.names n [] (.inl h);exact cf.mp q
theorem vW{CX:xr}{P:ra}{w:Ia}{K:W.Frag}{mg:qa->Option Value}{base:Heap}{N ps:List qa}{qual:qa}{scope:Scope}{f:Addr}{t:Value}{A:Ja}{outer:List Cg}{s s1:Shared}{H:Hp}{E:XK}{us:List Value}{vs:List V}
  (S:Ka N ps scope) (hd:A.handled=none) (g:xl P w K mg base A outer s H) (M:vs.length=ps.length) (r:zd vs us)
  (x:InCallC s s.heap.objs.size (Fs (Kg qual scope s.heap.objs.size f t).kindOf (ps.zip us) λ_=>none) (pB (s.heap.objs.size+1) scope.names []) (Gs (Kg qual scope s.heap.objs.size f t).kindOf (ps.zip us) λ_=>none) s1) :
  Inv (Dp CX P w K mg base N qual scope f t A outer s H E) [] (nt N vs) H s1:=by
 have I:ps.length<=N.length:=by have:=Ve List.length S.pre;rw[Vk]at this;omega
 obtain⟨B,O,rfl,D⟩:=x.done;have l:∀ b:Addr,b ∉ (Dp CX P w K mg base N qual scope f t A outer s H E).ex:=λb z=>absurd (show b∈([]:List Addr)from z) (by simp);refine⟨⟨g.mod,S.kind,rfl,rfl,ja _,λy z c B d=>?_,λy j=>?_,λy c _ h=>?_,λ_=>hd,Around.frames_deeper g.frames,.inr ⟨rfl,rfl⟩,λb z=>absurd z (l b),g.bs,g.tu,λb _ _=>l b,λb z=>absurd z (l b),g.Gj,g.Nv⟩,
  rfl,g.bare,Un.kept D,⟨_,x.toInCall.ns,λi y v B d L=>?_⟩,λy c h=>⟨_,x.cell y c h⟩,g.Pb.fresh (ja _),λy c h=>?_,λp m=>absurd (show p∈([]:List (Addr × Obj))from m) (by simp),g.Pb.kept D,?_⟩
 ·exact name_of_addr x.apart (ie B) (ie d)
 ·have j:scope.names.lookup y=some .cell\/scope.names.lookup y=some .free:=j;rcases j with j|j
  ·exact wM j
  ·exact absurd rfl (S.jx _ (ie j))
 ·exact Qc (x.above y c (ie h))
 ·have C:i<vs.length:=by
   unfold nt at d;by_cases C:i<vs.length
   ·exact C
   ·rw[Cd (by simpa using C)]at d;rw[vp]at d;split at d<;>cases d
  have G:vs[i]?=some v:=by
   unfold nt at d;rw[Ua (by simpa using C),Xa]at d;cases e:vs[i]? with
   |none=>rw[e]at d;cases d
   |some a=>rw[e]at d;cases d;rfl
  obtain⟨u,F,J⟩:=r.get G;have m:ps[i]?=some y:=by
   rw[<-S.pre,Fo (by omega)];exact B
  have o:ps.Nodup:=by rw[<-S.pre];exact S.nd.sublist (List.take_sublist _ _)
  refine⟨u,J,?_⟩;rcases S.par y (Ga m)with k|k
  ·exact .inl ⟨k,JL o m F k⟩
  ·obtain⟨c,e⟩:=wM (n:=s.heap.objs.size+1) k;refine .inr ⟨.inl k,c,e,?_⟩;have q:=x.cell y c e;rw[TN o m F (by show scope.names.lookup y≠_;rw[k];decide)]at q;exact q
 ·exact g.Pb.fresh (Qc (x.above y c (ie h)))
 ·unfold nt;show _=N.length;rw[Ya,Ta,List.length_replicate];omega
theorem DM{CX:xr}{P:ra}{w:Ia}{K:W.Frag}{mg:qa->Option Value}{base:Heap}{k:Nat}{f:Addr}{name qual:qa}{c:Arguments}{body:List Stmt}{scope:Scope}{dV kV j O a ct oc:Value}{L od:Option Addr}
  {D:Array (Option Value)} {N ps:List qa} {sp:Sp} (lk:K.lookup f=some ⟨oc,od,.func (W.fnOf name qual c body scope dV kV j O L a ct),D⟩) (z:W.codeIn K a qual=true) (S:Ka N ps scope)
  (len:∀ vs H Q E,sp vs H Q E->vs.length=ps.length)
  (h:∀ (A:Ja) (outer:List Cg) (s:Shared) (H:Hp) (vs:List V) (Q:VK) (E:XK),ke k (A.deeper (Kg qual scope s.heap.objs.size f a))->sp vs H Q E->
   ∃ t,Nq (Dp CX P w K mg base N qual scope f a A outer s H E) body t/\t { nx:=λ_ g=>Q .Hb g,rt:=Q } (nt N vs) H) :
  Og P w K mg base CX (k+1) f (W.fnOf name qual c body scope dV kV j O L a ct) ps sp:=by
 refine⟨len,λA outer s H M us vs Q E B l hb r p=>?_⟩;have U:=len _ _ _ _ p;have G:K.In s.heap:=l.mod.vw.keeps λb o e=>(l.bs b o e).1;have C:s.heap.NoLimit:=l.mod.nolimit.keeps λb o e=>(l.bs b o e).1;have i:∀ y∈ps.zip us,scope.names.lookup y.1=some .local\/(scope.names.lookup y.1=some .cell/\((pB (s.heap.objs.size+1) scope.names []).lookup y.1).isSome=true):=λ⟨n,v⟩ Z=>by
  rcases S.par n (fm Z).1 with q|q
  ·exact .inl q
  ·exact .inr ⟨q,yx _ _ _ (.inl q)⟩
 refine codeAny_call_function B.depth (G _ _ lk) rfl S.co S.gen rfl (W.codeRec_of G z) (hb _ _ _ _ ?_);refine wpAny_newFunctionEnv_cells S.kind i λenv T s1 x=>?_;subst T;refine⟨C.keeps x.toInCall.keep,codeAny_func ?_⟩;obtain⟨t,Y,X⟩:=h A outer s H vs Q E (B.deeper _) p;have I:Inv (Dp CX P w K mg base N qual scope f a A outer s H E) [] (nt N vs) H s1:=vW S B.hd l U r x;refine Uc (Y [] s1 (nt N vs) H _ I X) (λR s' hs=>?_) λe s' hs=>hs;have m:∀ {d:St} {g:Hp} {v:V} {u:Value},Inv (Dp CX P w K mg base N qual scope f a A outer s H E) [] d g s'->Zc v u->Q v g->CE outer P w H s Q u s':=
  fun {d g v u} J F q=>⟨v,g,J.os,J.bare,J.base,J.Pb,F,q⟩
 cases R with
 |ret u=>
  obtain⟨v,d,g,J,F,q⟩:=hs;exact m J F q
 |next=>
  obtain⟨d,g,J,q⟩:=hs;exact m (v:=V.Hb) (u:=Sa) J rfl q
 |brk=>
  obtain⟨_,_,_,q⟩:=hs;exact False.elim q
 |cont=>
  obtain⟨_,_,_,q⟩:=hs;exact False.elim q
section
variable{X:Cx}{x:qa}{p pos:se}{e:Ea}{es:List Ea}{t:TA}{id T:String}{r:List V->Hp->VK->Prop}
noncomputable def qG(r:List V->Hp->VK->Prop)(t:TA):TE:=λc H Q=>t c H λb a=>r b a Q
theorem FC(i:Zl X (.builtin id) r)(k:Gl X x)(hm:X.mg x=none)(l:bootBuiltins x=some (.builtin id))(g:PA X (e::es) t)(hn:x ≠ "__name__":=by decide)(b:(x == ("__debug__" : qa))=false:=by decide)
  (j:na (e::es) X.env=(false,Gb e X.env)::na es X.env:=by rfl) (c:(vc pos (na es X.env)).any (·.1)=false:=by rfl):PE X (.Call (.Name x p) (e::es) [] pos) (qG r t):=by
 intro a s d H Q I h;refine Sf (HA I k hm l ?_ hn b);exact OD (Ad (g pos a s d H _ I h) λus s1 ⟨o,H1,f,n,m⟩=>i a s1 d H1 o us Q f n m) j c
theorem nH(i:Zl X (.type T) r)(k:Gl X x)(hm:X.mg x=none)(l:bootBuiltins x=some (.type T))(g:PA X (e::es) t)(hn:x ≠ "__name__":=by decide)(b:(x == ("__debug__" : qa))=false:=by decide)
  (j:na (e::es) X.env=(false,Gb e X.env)::na es X.env:=by rfl) (c:(vc pos (na es X.env)).any (·.1)=false:=by rfl):PE X (.Call (.Name x p) (e::es) [] pos) (qG r t):=by
 intro a s d H Q I h;refine Sf (HA I k hm l ?_ hn b);exact Zf (Ad (g pos a s d H _ I h) λus s1 ⟨o,H1,f,n,m⟩=>i a s1 d H1 o us Q f n m) j c
end
end L2
namespace HT
open PySem PyProof.Rows
section
open PySem.SeqAt
open PySem.AutoSeq1 (wpAny_loadPart')
open PySem.MeetsSeq PySem.MeetsSeq2 PySem.MeetsSeq3
end
section
variable{prog:ra}{w:Ia}{A:Ja}{E:Value->Shared->Prop}{s:Shared}
theorem Ku{t b:Addr}{vs ws:List Value}{Q:Value->Shared->Prop}(v:Cs s.heap t vs.toArray)(hb:Cs s.heap b ws.toArray)(o:vs≠[])
  (r:ws=[]->Q (.ref t) s) (u:ws≠[]->Q (.ref s.heap.objs.size) { s with heap:=s.heap.push { cls:=.type "tuple",data:=.seq (vs++ws).toArray } })
  (hsz:vs.length+ws.length<=sizeLine):wpAny (model prog w) A (ef .Add (.ref t) (.ref b)) Q E s:=by
 obtain⟨⟨cls,l,data,q⟩,h,m,n,hd⟩:=id v;obtain⟨⟨k,c,j,g⟩,a,d,p,f⟩:=id hb;simp only at m hd d f;subst m hd d f;have e:vs.toArray++ws.toArray=(vs++ws).toArray:=by simp
 by_cases i:ws=[]
 ·exact Ct ⟨_,h,rfl⟩ ⟨_,a,rfl⟩ Tn Er xh gh (Zg _ _)
   (tuple_addW1 t b vs.toArray ws.toArray n p l c q g (by simpa using o) (by simp[i])) ⟨h,a,r i⟩
 ·refine Ct ⟨_,h,rfl⟩ ⟨_,a,rfl⟩ Tn Er xh gh (Zg _ _)
   (tuple_addW2 t b vs.toArray ws.toArray n p l c q g (by simpa using o) (by simpa using i) (by rw[xa,xa];exact hsz)) ⟨h,a,?_⟩
  rw[e];exact u i
noncomputable def Ue(n d:Nat):Option Int->Nat
 |none=>d
 |some v=>if v<0 then (v+(n:Int)).toNat else min v.toNat n
theorem xU(n d:Nat)(hd:d<=n)(o:Option Int):Ue n d o<=n:=by
 cases o with
 |none=>exact hd
 |some v=>
  show (if v<0 then (v+(n:Int)).toNat else min v.toNat n)<=n;by_cases a:v<0
  ·rw[da a];omega
  ·rw[ga a];exact Nat.min_le_right _ _
theorem QO(v:Int)(n d:Nat):(if v<0 then max (v+(n:Int)) 0 else min v (n:Int))=((Ue n d (some v):Nat):Int):=by
 show (if v<0 then max (v+(n:Int)) 0 else min v (n:Int))=(((if v<0 then (v+(n:Int)).toNat else min v.toNat n):Nat):Int);by_cases a:v<0
 ·simp only[da a];omega
 ·simp only[ga a];omega
theorem XY(b a:Option Int)(n:Nat):wg b a 1 (n:Int)=(((Ue n 0 b:Nat):Int),((Ue n n a:Nat):Int)):=by
 have c:¬ ((1:Int)<0):=by omega
 unfold wg;simp only[c,Ph];refine GP ?_ ?_
 ·cases b with
  |none=>rfl
  |some v=>exact QO v n 0
 ·cases a with
  |none=>rfl
  |some v=>exact QO v n n
theorem cR(i j:Nat):Ge (i:Int) (j:Int) 1=j - i:=by
 unfold Ge;have a:(1:Int) > 0:=by omega
 simp only[a,ee,Int.ediv_one];split<;>omega
theorem qL{v:Value}{o:Option Int}{Q:Option Int->Shared->Prop}(p:Sj v o)(h:Q o s):wpAny (model prog w) A (qB v) Q E s:=by
 cases p with
 |none=>exact DH h
 |int i t=>exact slicePart_int h
theorem kK{g:Addr}{e f:Value}{a c:Option Int}{n:Nat}{Q:Int × Int × Nat->Shared->Prop}(hs:s.heap.IsSliceOf g e f .none)(pl:Sj e a)(j:Sj f c)
  (h:Q (((Ue n 0 a:Nat):Int),1,Ue n n c - Ue n 0 a) s):wpAny (model prog w) A (tj (.ref g) (pure (n:Int))) Q E s:=by
 obtain⟨os,d,i,b⟩:=id hs;unfold tj rB;refine aa (aa (Pj d b (x:=e) rfl (aa (Pj d b (x:=f) rfl (aa (Pj d b (x:=.none) rfl (ia ?_)))))));refine aa (DH ?_);show wpAny _ _ (if ((1:Int) == 0)=true then _ else _) _ _ s;rw[ga (by decide)];refine aa (qL pl (aa (qL j (aa (ia ?_)))));show wpAny _ _ (match wg a c 1 (n:Int)with|(a,c)=>pure (a,(1:Int),Ge a c 1)) _ _ s;rw[XY a c n];show wpAny _ _ (pure (((Ue n 0 a:Nat):Int),(1:Int),Ge ((Ue n 0 a:Nat):Int) ((Ue n n c:Nat):Int) 1)) _ _ s;rw[cR];exact ia h
theorem Z3(xs:Array Value)(i k:Nat):((List.range k).filterMap λ(m:Nat)=>xs[((i:Int)+(m:Int) * 1).toNat]?).toArray=((xs.toList.drop i).take k).toArray:=by
 have e:(λ(m:Nat)=>xs[((i:Int)+(m:Int) * 1).toNat]?)=λm=>xs[i+m]?:=by
  funext m;have:((i:Int)+(m:Int) * 1).toNat=i+m:=by omega
  rw[this]
 rw[e];have:=pick_run xs i k;rw[List.filterMap_map]at this;have a:((λx=>xs[x]?) ∘ λx=>i+x)=λm=>xs[i+m]?:=rfl;rw[a]at this;rw[this]
theorem qj{t k:Addr}{a:Array Value}{l n:Value}{c d:Option Int}{Q:Value->Shared->Prop}(e:Cs s.heap t a)(hs:s.heap.IsSliceOf k l n .none)(pl:Sj l c)(r:Sj n d)
  (p:¬ (Ue a.size 0 c=0/\Ue a.size a.size d=a.size))
  (h:Q (.ref s.heap.objs.size) { s with heap:=s.heap.push { cls:=.type "tuple",data:=.seq ((a.toList.drop (Ue a.size 0 c)).take (Ue a.size a.size d - Ue a.size 0 c)).toArray } })
  (hsz:a.size<=sizeLine):wpAny (model prog w) A (Qh (.ref t) (.ref k)) Q E s:=by
 have b:sizeOk (.seq ((a.toList.drop (Ue a.size 0 c)).take (Ue a.size a.size d - Ue a.size 0 c)).toArray):=by
  show ((a.toList.drop (Ue a.size 0 c)).take (Ue a.size a.size d - Ue a.size 0 c)).toArray.size<=sizeLine;rw[xa,Vk,vu,pb];omega
 have u:Ue a.size a.size d<=a.size:=xU _ _ (ja _) d;obtain⟨os,j,g,o⟩:=id hs;have f:s.TypeIs (.ref k) "slice":=⟨os,j,g⟩
 unfold Qh;try with_reducible refine Wc ?_
 first|refine aa (ia ?_)|skip
 refine aa (Ny e.typeIs (by decide) ?_);refine aa (vd (name:=Vf "__getitem__") e.typeIs Nb
  (yc Nb e.typeIs dw ?_ (zx _ _)))
 show wpAny _ _ (uj (.ref t) >>= _) _ _ s;refine aa (HP e ?_);refine aa (Ti f ?_);rw[da (by decide)];refine aa (kK hs pl r ?_);have i:¬ ((((Ue a.size 0 c:Nat):Int) == 0 && (1:Int) == 1 && (Ue a.size a.size d - Ue a.size 0 c) == a.size)=true):=by
  intro q;rw[Ma,Ma]at q;have v:((Ue a.size 0 c:Nat):Int)=0:=eq_of_beq q.1.1;have x:Ue a.size a.size d - Ue a.size 0 c=a.size:=eq_of_beq q.2;exact p ⟨by omega,by omega⟩
 show wpAny _ _ (if (((Ue a.size 0 c:Nat):Int) == 0 && (1:Int) == 1 && (Ue a.size a.size d - Ue a.size 0 c) == a.size)=true then _ else _) _ _ s;rw[ga i,Z3];first
  |exact aa (m:=Me _) (Ib (ia ⟨_,rfl,ia h⟩) b)
  |exact aa (m:=Me _) (Ib (aa (ia (ia ⟨_,rfl,ia h⟩))) b)
  |exact aa (aa (m:=Me _) (Ib (ia (ia ⟨_,rfl,ia h⟩)) b))
  |exact aa (aa (m:=Me _) (Ib (ia ⟨_,rfl,ia h⟩) b))
end
end HT
namespace L2
open PySem PySem.Spec PyProof.Rows
noncomputable abbrev TO:=St->Hp->(Option Int->Hp->Prop)->Prop
noncomputable def PO(X:Cx)(e:Option Ea)(t:TO):Prop:=
 ∀ (a:List (Addr × Obj)) (s:Shared) (σ:St) (H:Hp) (Q:Option Int->Hp->Prop),Inv X a σ H s->t σ H Q->
  wpAny (model X.prog X.w) X.A (evalPart e X.env) (λu c=>∃ o b,Inv X a σ b c/\Sj u o/\Q o b) X.xe s
noncomputable def P2:TO:=λ_ H Q=>Q none H
noncomputable def A2(t:TE):TO:=λb H Q=>t b H λx a=>∃ i,x=.int i/\Q (some i) a
theorem AE{ns:List Int}:∀ {us:List Value},zd (ns.map V.int) us->oh us ns:=by
 induction ns with
 |nil=>intro us r;rw[Vd]at r;cases r;exact .nil
 |cons n ns a=>
  intro us r;rw[za]at r;cases r with
  |cons b c=>
   obtain⟨t,e⟩:=b;subst e;exact .cons n t (a c)
section
variable{X:Cx}{e:Ea}{te:TE}{lo hi:Option Ea}{tl th:TO}{pos p2:se}
theorem TX:PO X none P2:=by
 intro a s b H Q I h;rw[IP];exact ia ⟨none,H,I,.none,h⟩
theorem JW(h:PE X e te):PO X (some e) (A2 te):=by
 intro a s g H Q I c;rw[evalPart_some];refine Ad (h a s g H _ I c) λu s1 ⟨x,H1,b,f,d⟩=>?_;obtain⟨i,rfl,q⟩:=d;obtain⟨t,rfl⟩:=f;exact⟨some i,H1,b,.int i t,q⟩
noncomputable def nu(X:Cx)(r:V->Option Int->Option Int->Hp->VK->Prop):Prop:=
 ∀ (a:List (Addr × Obj)) (s:Shared) (σ:St) (H:Hp) (x:V) (v c d:Value) (lo hi:Option Int) (b:Addr) (Q:VK),Inv X a σ H s->Zc x v->s.heap.IsSliceOf b c d .none->Sj c lo->Sj d hi->r x lo hi H Q->
  ∃ T e,typeLookup (.type T) "__getitem__" = pure (some (.builtin e))/\s.TypeIs v T/\wpAny (model X.prog X.w) X.A (Qh v (.ref b)) (EP X a σ Q) X.xe s
theorem nu.or{r c:V->Option Int->Option Int->Hp->VK->Prop}(h:nu X r)(h':nu X c):nu X (λx lo hi H Q=>r x lo hi H Q\/c x lo hi H Q):=by
 intro a s i H x v f g lo hi e Q I d hs pl b q;rcases q with q|q
 ·exact h a s i H x v f g lo hi e Q I d hs pl b q
 ·exact h' a s i H x v f g lo hi e Q I d hs pl b q
noncomputable def yU(r:V->Option Int->Option Int->Hp->VK->Prop)(te:TE)(tl th:TO):TE:=λa H Q=>te a H λx b=>tl a b λl c=>th a c λu d=>r x l u d Q
theorem nZ{r:V->Option Int->Option Int->Hp->VK->Prop}(z:nu X r)(p:PE X e te)(y:PO X lo tl)(C:PO X hi th):PE X (.Subscript e (.Slice lo hi none p2) pos) (yU r te tl th):=by
 intro a s c H Q I h;refine Ax (Ad (p a s c H _ I h) λv s1 ⟨x,H1,j,G,D⟩=>?_);refine wpAny_Slice (Ad (y a s1 c H1 _ j D) λd s2 ⟨l,i,k,pl,E⟩=>Ad (C a s2 c i _ k E) λf s3 ⟨u,g,m,pu,F⟩=>?_);rw[IP];refine ia ?_;have n:Inv X a c g { s3 with heap:=s3.heap.push { cls:=.type "slice",data:=.fields #[d,f,.none] } }:=m.kept (t':=s3.toks) λb K q=>ba _ q;obtain⟨T,J,o,B,t⟩:=z a { s3 with heap:=s3.heap.push { cls:=.type "slice",data:=.fields #[d,f,.none] } } c g x v d f l u s3.heap.objs.size Q n G (Oy ..) pl pu F;show wpAny (model X.prog X.w) X.A (Lr e (.Slice lo hi none p2) v (.ref s3.heap.objs.size)) (EP X a c Q) X.xe { s3 with heap:=s3.heap.push { cls:=.type "slice",data:=.fields #[d,f,.none] } };exact tail_any (ops:=[.ref s3.heap.objs.size,v]) B o t (by with_unfolding_all rfl)
noncomputable def Pv(xs:List V)(lo hi:Option Int):List V:=(xs.drop (HT.Ue xs.length 0 lo)).take (HT.Ue xs.length xs.length hi - HT.Ue xs.length 0 lo)
theorem ZO(xs:List V)(lo hi:Option Int):(Pv xs lo hi).length<=xs.length:=by
 unfold Pv;rw[Vk,vu];omega
noncomputable def zN(K:W.Frag):V->Option Int->Option Int->Hp->VK->Prop:=λx lo hi H Q=>∃ a xs,x=.ref a/\ph K H a xs/\
 ¬ (HT.Ue xs.length 0 lo=0/\HT.Ue xs.length xs.length hi=xs.length)/\∀ p,H p=none->Q (.ref p) (upd H p (.tup (Pv xs lo hi)))
theorem uS:nu X (zN X.K):=by
 intro g s u H x v p t lo hi n Q I l hs pl k h;obtain⟨a,xs,rfl,j,i,q⟩:=h;cases l;obtain⟨d,r,e,f⟩:=I.tuple j;have c:d.toArray.size=xs.length:=by rw[xa];exact r.length.symm
 refine⟨"tuple",_,Nb.lookup,e.typeIs,?_⟩;refine HT.qj e hs pl k (by rw[c];exact i) ?_ (by rw[c];exact f);rw[c];refine⟨.ref s.heap.objs.size,_,I.laid (t':=s.toks) (o:=.tup (Pv xs lo hi)) (λb m q=>ba _ q) (ja _) ?_,rfl,q _ (I.Pb.fresh (ja _))⟩;exact⟨Qa (ZO xs lo hi) f,_,(r.drop (HT.Ue xs.length 0 lo)).take (HT.Ue xs.length xs.length hi - HT.Ue xs.length 0 lo),PD _ _⟩
noncomputable def xV(K:W.Frag):R2:=λx y H Q=>∃ a b xs c,x=.ref a/\y=.ref b/\ph K H a xs/\ph K H b c/\xs≠[]/\xs.length+c.length<=sizeLine/\
 (c=[]->Q (.ref a) H)/\(c≠[]->∀ p,H p=none->Q (.ref p) (upd H p (.tup (xs++c))))
theorem zd.rn{xs:List V}{us:List Value}(r:zd xs us):us=[] ↔ xs=[]:=by
 cases r with
 |nil=>simp
 |cons _ _=>simp
theorem uU:Oh X (ef .Add) (xV X.K):=by
 intro g s B H x y v u Q I p r h;obtain⟨a,b,xs,t,rfl,rfl,i,hb,j,e,m,n⟩:=h;cases p;cases r;obtain⟨k,d,l,_⟩:=I.tuple i;obtain⟨f,c,p2,_⟩:=I.tuple hb;refine HT.Ku l p2 (λz=>j (d.rn.mp z)) (λz=>⟨.ref a,H,I,rfl,m (c.rn.mp z)⟩) (λz=>?_) (by rw[<-d.length,<-c.length];exact e);refine⟨.ref s.heap.objs.size,_,I.laid (t':=s.toks) (o:=.tup (xs++t)) (λb A q=>ba _ q) (ja _) ?_,rfl,n (λw=>z (c.rn.mpr w)) _ (I.Pb.fresh (ja _))⟩;exact⟨by rw[Ya];exact e,_,d.append c,PD _ _⟩
end
noncomputable def Bq(n:Nat)(i:Int):Option Nat:=if 0<=i then (if i<n then some i.toNat else none)else if -(n:Int)<=i then some (i+n).toNat else none
noncomputable def Yl{α:Type}(xs:List α)(i:Int):Option α:=(Bq xs.length i).bind λj=>xs[j]?
theorem vJ{n:Nat}{i:Int}{j:Nat}(h:Bq n i=some j):seqIndex? i n=some j/\j<n/\-(n:Int)<=i/\i<n:=by
 unfold Bq at h;by_cases h0:0<=i
 ·rw[da h0]at h;by_cases a:i<n
  ·rw[da a]at h;have e:i.toNat=j:=qb h;exact⟨by rw[iv h0 a,e],by omega,by omega,a⟩
  ·rw[ga a]at h;cases h
 ·rw[ga h0]at h;by_cases a:-(n:Int)<=i
  ·rw[da a]at h;have e:(i+n).toNat=j:=qb h;exact⟨by rw[Dt (by omega) a,e],by omega,a,by omega⟩
  ·rw[ga a]at h;cases h
theorem qP{a:Type}{xs:List a}{i:Int}{v:a}(h:Yl xs i=some v):∃ j,seqIndex? i xs.length=some j/\xs[j]?=some v/\j<xs.length/\-(xs.length:Int)<=i/\i<xs.length:=by
 unfold Yl at h;cases e:Bq xs.length i with
 |none=>rw[e]at h;cases h
 |some j=>
  rw[e]at h;obtain⟨b,c,d,f⟩:=vJ e;exact⟨j,b,h,c,d,f⟩
theorem Vv{a:Type}{xs:List a}{j:Nat}{v:a}(h:xs[j]?=some v):Yl xs (j:Int)=some v:=by
 have b:j<xs.length:=(ka.mp h).1;have e:Bq xs.length (j:Int)=some j:=by
  unfold Bq;rw[da (by omega),da (by omega)];simp
 unfold Yl;rw[e];exact h
noncomputable def gL(b:Ea):Prop:=∀ o i,Lo b false o i=G4 [o,i] (Qh o i)
noncomputable def Uu(X:Cx)(r:R2):Prop:=
 ∀ (b a:Ea) (pins:List (Addr × Obj)) (s:Shared) (σ:St) (H:Hp) (x y:V) (v u:Value) (Q:VK),Inv X pins σ H s->Zc x v->Zc y u->r x y H Q->
  Lo a false v u=G4 [v,u] (Qh v u)->wpAny (model X.prog X.w) X.A (Lr b a v u) (EP X pins σ Q) X.xe s
noncomputable def Tr(X:Cx)(b:String)(r:V->List V->Hp->VK->Prop):Prop:=
 ∀ (a:List (Addr × Obj)) (s:Shared) (σ:St) (H:Hp) (x:V) (xs:List V) (v:Value) (us:List Value) (Q:VK),Inv X a σ H s->Zc x v->zd xs us->r x xs H Q->
  wpAny (model X.prog X.w) X.A (call (.builtin b) (v::us)) (EP X a σ Q) X.xe s
section
variable{X:Cx}{a b:Ea}{ta tb:TE}{pos:se}
theorem Uu.or{r d:R2}(h:Uu X r)(h':Uu X d):Uu X (λx y H Q=>r x y H Q\/d x y H Q):=by
 intro b a c s g H x y v u Q I e f q hs;rcases q with q|q
 ·exact h b a c s g H x y v u Q I e f q hs
 ·exact h' b a c s g H x y v u Q I e f q hs
theorem Tr.or{b:String}{r c:V->List V->Hp->VK->Prop}(h:Tr X b r)(h':Tr X b c):Tr X b (λx xs H Q=>r x xs H Q\/c x xs H Q):=by
 intro a s g H x xs v f Q I e d q;rcases q with q|q
 ·exact h a s g H x xs v f Q I e d q
 ·exact h' a s g H x xs v f Q I e d q
theorem y3{r:R2}(g:Uu X r)(f:PE X a ta)(hb:PE X b tb)(hs:gL b):PE X (.Subscript a b pos) (Oz r ta tb):=by
 intro c s l H Q I h;exact Ax (YF f hb I h λv u k x y d e i j q=>g a b c k l d x y v u Q e i j q (hs _ _))
noncomputable def xH(K:W.Frag):R2:=λx y H Q=>∃ p xs i v,x=.ref p/\y=.int i/\zf K H p xs/\Yl xs i=some v/\Q v H
noncomputable def BG(K:W.Frag):R2:=λx y H Q=>∃ p xs i v,x=.ref p/\y=.int i/\ph K H p xs/\Yl xs i=some v/\Q v H
theorem DS:Uu X (xH X.K):=by
 intro k g a s m H x y v u Q I E F h hs;obtain⟨p,xs,i,z,rfl,rfl,D,B,q⟩:=h;cases E;obtain⟨t,rfl⟩:=F;obtain⟨e,r,pl,L⟩:=I.list D;obtain⟨j,c,n,J,o,A⟩:=qP B;obtain⟨w,l,f⟩:=r.get n;have C:=r.length;have hn:=pD;have b:EP X a m Q w s:=⟨z,H,I,f,q⟩
 by_cases h0:0<=i
 ·have d:i.toNat=j:=by
   rw[iv h0 A]at c;exact qb c
  exact item_listR pl.isList h0 (by omega) (by rw[d];simpa using l) b hs
 ·have d:(i+(e.toArray.size:Int)).toNat=j:=by
   rw[Dt (by omega) o]at c;rw[xa,<-C];exact qb c
  exact Et (x:=w) pl.isList.typeIs Py.lookup
   (wpAny_getItem_list_neg (Q:=λr G=>r=w/\EP X a m Q r G) pl.isList (by omega) (by rw[xa]<;>omega) (by omega) (by rw[d];simpa using l) ⟨rfl,b⟩) hs
theorem iR:Uu X (BG X.K):=by
 intro e d a s f H x y v u Q I B C h hs;obtain⟨p,xs,i,z,rfl,rfl,o,m,q⟩:=h;cases B;obtain⟨t,rfl⟩:=C;obtain⟨A,r,pl,J⟩:=I.tuple o;obtain⟨j,k,l,E,F,G⟩:=qP m;obtain⟨w,g,c⟩:=r.get l;have n:=r.length;have hn:=pD;have b:EP X a f Q w s:=⟨z,H,I,c,q⟩
 exact Et (x:=w) pl.typeIs slot_tuple_getitem.lookup
  (getItem_tuple (j:=j) (Q:=λr D=>r=w/\EP X a f Q r D) pl (by omega) (by omega) (by rw[xa,<-n];exact k) (by simpa using g) ⟨rfl,b⟩) hs
theorem EY(its:List Value)(n j:Nat)(u:Value):Bf (·.setIfInBounds j u) { cls:=.type "list",data:=.seq its.toArray n }={ cls:=.type "list",data:=.seq (its.set j u).toArray n }:=by
 simp[Bf]
theorem Inv.lst{a:List (Addr × Obj)}{σ:St}{H:Hp}{s:Shared}{p:Addr}{xs:List V}(I:Inv X a σ H s)(h:H p=some (.lst xs)) :
  ∃ (its:List Value) (n:Nat),zd xs its/\s.heap.get? p=some { cls:=.type "list",data:=.seq its.toArray n }/\xs.length<=sizeLine:=by
 obtain⟨z,its,n,r,e⟩:=I.Pb p _ h;exact⟨its,n,r,e,z⟩
theorem Inv.ux{a:List (Addr × Obj)}{σ:St}{H:Hp}{s:Shared}{p:Addr}{xs ys:List V}{its its':List Value}{n c:Nat}{f:Obj->Obj}(I:Inv X a σ H s)(h:H p=some (.lst xs))
  (g:s.heap.get? p=some { cls:=.type "list",data:=.seq its.toArray n }) (d:f { cls:=.type "list",data:=.seq its.toArray n }={ cls:=.type "list",data:=.seq its'.toArray c }) (r:zd ys its') (hz:ys.length<=sizeLine) (t:Nat) :
  Inv X a σ (upd H p (.lst ys)) { s with heap:=s.heap.update p f,toks:=t }:=by
 have e:(s.heap.update p f).get? p=some { cls:=.type "list",data:=.seq its'.toArray c }:=by
  rw[cc f g (by rw[d]<;>rfl),d]
 refine I.write (x:=p) (e:=p) (by rw[h];trivial) (.inl rfl) (λb u hb q=>(Be _ _ (Fe hb)).trans q) ⟨_,e⟩ ?_;exact⟨hz,its',c,r,e⟩
noncomputable def T0:V->V->V->Hp->(Hp->Prop)->Prop:=λo i v H Q=>∃ p xs k j,o=.ref p/\i=.int k/\H p=some (.lst xs)/\Bq xs.length k=some j/\Q (upd H p (.lst (xs.set j v)))
theorem jS:yF X T0:=by
 intro b s C H o i v F E u Q I A z B h;obtain⟨p,xs,k,j,rfl,rfl,w,x,q⟩:=h;cases A;obtain⟨t,rfl⟩:=z;obtain⟨a,n,r,f,y⟩:=I.lst w;obtain⟨c,D,l,m⟩:=vJ x;have e:=r.length;have hn:=pD;have g:Inv X b C (upd H p (.lst (xs.set j v))) { s with heap:=s.heap.update p (Bf (·.setIfInBounds j u)) }:=
  I.ux w f (EY a n j u) (r.set B j) (by rw[List.length_set];exact y) s.toks
 by_cases h0:0<=k
 ·have d:k.toNat=j:=by
   rw[iv h0 m]at c;exact qb c
  exact W.ki_setAt f h0 (by omega) (by rw[xa,<-e];exact m) (by rw[d];exact⟨_,g,q⟩)
 ·have d:(k+(a.toArray.size:Int)).toNat=j:=by
   rw[Dt (by omega) l]at c;rw[xa,<-e];exact qb c
  exact W.ki_setBack f (by omega) (by rw[xa,<-e];exact l) (by omega) (by rw[d];exact⟨_,g,q⟩)
theorem LW(b a:Option Int)(n:Nat):(Pg b a none n).1=((HT.Ue n 0 b:Nat):Int)/\(Pg b a none n).2.1=((HT.Ue n n a:Nat):Int)/\(Pg b a none n).2.2=1:=by
 refine⟨?_,?_,rfl⟩
 ·cases b with
  |none=>simp[Pg,HT.Ue]
  |some i=>
   simp only[Pg,HT.Ue,As,show (1:Int) > 0 by decide,ee];by_cases h:i<0
   ·simp only[h,ee]<;>omega
   ·simp only[h,Ph]<;>omega
 ·cases a with
  |none=>simp[Pg,HT.Ue]
  |some i=>
   simp only[Pg,HT.Ue,As,show (1:Int) > 0 by decide,ee];by_cases h:i<0
   ·simp only[h,ee]<;>omega
   ·simp only[h,Ph]<;>omega
theorem aS(its:List Value)(a b:Option Int):slicePick its.toArray a b none=((its.drop (HT.Ue its.length 0 a)).take (HT.Ue its.length its.length b - HT.Ue its.length 0 a)).toArray:=by
 obtain⟨c,d,e⟩:=LW a b its.toArray.size;unfold slicePick;rw[c,d,e];simp only[sliceRange_one,pick_run,xa]<;>rfl
noncomputable def uI(K:W.Frag):V->Option Int->Option Int->Hp->VK->Prop:=λx c b H Q=>∃ a xs,x=.ref a/\zf K H a xs/\∀ p,H p=none->Q (.ref p) (upd H p (.lst (Pv xs c b)))
theorem IV:nu X (uI X.K):=by
 intro g s w H x v t u d e p Q I m hs pl l h;obtain⟨a,xs,rfl,i,q⟩:=h;cases m;obtain⟨k,r,f,j⟩:=I.list i;have c:=r.length;refine⟨"list",_,Py.lookup,f.isList.typeIs,?_⟩;refine wpAny_getItem_list_slice f.isList hs pl l .none (by simp) ?_ (by rw[xa]<;>omega);rw[aS,<-c];refine⟨.ref s.heap.objs.size,_,I.laid (t':=s.toks) (o:=.lst (Pv xs d e)) (λb n q=>ba _ q) (ja _) ?_,rfl,q _ (I.Pb.fresh (ja _))⟩;exact⟨Qa (ZO xs d e) j,_,0,(r.drop (HT.Ue xs.length 0 d)).take (HT.Ue xs.length xs.length e - HT.Ue xs.length 0 d),Aa _ rfl⟩
noncomputable def ii:V->Bool
 | .Hb=>true
 | .bl _=>true
 | .int _=>true
 | .str _=>true
 |_=>false
noncomputable def um:V->V->Bool
 | .Hb,.Hb=>true
 | .bl a,.bl b=>a == b
 | .bl a,.int b=>(if a then 1 else 0) == b
 | .int a,.bl b=>a == (if b then 1 else 0)
 | .int a,.int b=>a == b
 | .str a,.str b=>a == b
 |_,_=>false
theorem oE{A:Ja}{s:Shared}{y x:V}{u v:Value}(f:Zc y u)(c:Zc x v)(g:ii y=true)(e:ii x=true):Wd A s u v (um y x):=by
 cases y with
 |Hb=>
  cases f;cases x with
  |Hb=>cases c;exact yj _
  |bl b=>cases c;exact JP b
  |int b=>obtain⟨t,rfl⟩:=c;exact KP b t
  |str b=>obtain⟨t,rfl⟩:=c;exact LP b t
  |_=>exact absurd (show false=true from e) Wa
 |bl a=>
  cases f;cases x with
  |Hb=>cases c;exact MP a
  |bl b=>cases c;exact NP a b
  |int b=>obtain⟨t,rfl⟩:=c;exact OP a b t
  |str b=>obtain⟨t,rfl⟩:=c;exact PP a b t
  |_=>exact absurd (show false=true from e) Wa
 |int a=>
  obtain⟨d,rfl⟩:=f;cases x with
  |Hb=>cases c;exact QP a d
  |bl b=>cases c;exact RP a d b
  |int b=>obtain⟨t,rfl⟩:=c;exact UP a d b t
  |str b=>obtain⟨t,rfl⟩:=c;exact Do a d b t
  |_=>exact absurd (show false=true from e) Wa
 |str a=>
  obtain⟨d,rfl⟩:=f;cases x with
  |Hb=>cases c;exact VP a d
  |bl b=>cases c;exact WP a d b
  |int b=>obtain⟨t,rfl⟩:=c;exact Eo a d b t
  |str b=>obtain⟨t,rfl⟩:=c;exact XP a d b t
  |_=>exact absurd (show false=true from e) Wa
 |_=>exact absurd (show false=true from g) Wa
noncomputable def bv(x:V)(u:Value):Bool:=match u with
 | .none=>um .Hb x
 | .bool b=>um (.bl b) x
 | .int i _=>um (.int i) x
 | .str z _=>um (.str z) x
 |_=>false
theorem IJ{x y:V}{u:Value}(r:Zc y u)(f:ii y=true):bv x u=um y x:=by
 cases y with
 |Hb=>cases r;rfl
 |bl b=>cases r;rfl
 |int i=>obtain⟨t,rfl⟩:=r;rfl
 |str z=>obtain⟨t,rfl⟩:=r;rfl
 |_=>exact absurd (show false=true from f) Wa
theorem BH{x:V}:∀ {xs:List V} {us:List Value},zd xs us->xs.all ii=true->us.any (bv x)=xs.any λy=>um y x
 |_,_,.nil,_=>rfl
 |y::xs,u::us,.cons r t,f=>by
  rw[lf,Ma]at f;rw[yd,yd,IJ r f.1,BH t f.2]
theorem JG{A:Ja}{s:Shared}{x:V}{v:Value}(c:Zc x v)(b:ii x=true):∀ {xs:List V} {us:List Value},zd xs us->xs.all ii=true->∀ u∈us,Wd A s u v (bv x u)
 |_,_,.nil,_=>λu a=>by cases a
 |y::xs,u::us,.cons r t,f=>λd a=>by
  rw[lf,Ma]at f;rcases Ca.mp a with rfl|a
  ·rw[IJ r f.1];exact oE r c f.1 b
  ·exact JG c b t f.2 d a
noncomputable def oC(x:V)(xs:List V):Bool:=xs.any λy=>um y x
noncomputable def bI(K:W.Frag)(neg:Bool):R2:=λx y H Q=>∃ p xs,y=.ref p/\(zf K H p xs\/ph K H p xs)/\ii x=true/\xs.all ii=true/\Q (.bl (if neg then !oC x xs else oC x xs)) H
theorem nK:Oh X (Rb .In) (bI X.K false):=by
 intro e s j H x y v u Q I f i h;obtain⟨p,xs,rfl,b,d,fs,q⟩:=h;cases i;rcases b with b|b
 ·obtain⟨a,r,pl,g⟩:=I.list b;refine SeqAt.in_listAt (bv x) pl.isList (λw c=>JG f d r fs w (by simpa using c)) ⟨.bl _,H,I,rfl,?_⟩;rw[show a.toArray.any (bv x)=a.any (bv x) by simp,BH r fs];exact q
 ·obtain⟨a,r,pl,g⟩:=I.tuple b;refine SeqAt.in_tupleAt (bv x) pl (λw c=>JG f d r fs w (by simpa using c)) ⟨.bl _,H,I,rfl,?_⟩;rw[show a.toArray.any (bv x)=a.any (bv x) by simp,BH r fs];exact q
theorem Yu:Zl X (.builtin "len") (λxs H Q=>∃ p ys,xs=[.ref p]/\(zf X.K H p ys\/ph X.K H p ys)/\Q (.int ys.length) H):=by
 intro e s j H xs i Q I r h;obtain⟨p,ys,rfl,b,q⟩:=h;obtain⟨u,rfl,g⟩:=Yr r;cases g;have hn:=pD;rcases b with b|b
 ·obtain⟨c,d,pl,f⟩:=I.list b;have a:=d.length;exact Calls.call_len_list pl.isList (by simp only[xa]<;>omega) ⟨.int ys.length,H,I.tok _,⟨s.toks+1,by rw[xa,a]⟩,q⟩
 ·obtain⟨c,d,pl,f⟩:=I.tuple b;have a:=d.length;exact len_tuple pl (by simp only[xa]<;>omega) ⟨.int ys.length,H,I.tok _,⟨s.toks+1,by rw[xa,a]⟩,q⟩
theorem Zl.or{f:Value}{r b:List V->Hp->VK->Prop}(h:Zl X f r)(h':Zl X f b):Zl X f (λxs H Q=>r xs H Q\/b xs H Q):=by
 intro a s e H xs d Q I c q;rcases q with q|q
 ·exact h a s e H xs d Q I c q
 ·exact h' a s e H xs d Q I c q
theorem qC:Zl X (.type "list") (λxs H Q=>∃ p ys,xs=[.ref p]/\(zf X.K H p ys\/ph X.K H p ys)/\∀ l,H l=none->Q (.ref l) (upd H l (.lst ys))):=by
 intro m s z H xs A Q I r h;obtain⟨p,ys,rfl,j,q⟩:=h;obtain⟨u,rfl,y⟩:=Yr r;cases y;have g:∀ (a:List Value),zd ys a->ys.length<=sizeLine->∀ (c:Heap) (d:Nat),(∀ b x,s.heap.get? b=some x->c.get? b=some x)->
   c.get? s.heap.objs.size=some { cls:=.type "list",dict:=none,data:=.seq a.toArray d,slots:=#[] }->EP X m z Q (.ref s.heap.objs.size) { s with heap:=c }:=λa f k c d kp e=>
  ⟨.ref s.heap.objs.size,_,I.laid (t':=s.toks) kp (ja _) (show Wh X.prog X.w _ c _ (.lst ys)from⟨k,a,d,f,e⟩),rfl,q _ (I.Pb.fresh (ja _))⟩
 rcases j with j|j
 ·obtain⟨a,f,pl,k⟩:=I.list j;have i:=f.length;obtain⟨o,v,t,n,hd⟩:=pl.isList;exact YP p (.inl rfl) v t hd (λc d kp e=>g a f k c d kp e) (by simp only[xa]<;>omega)
 ·obtain⟨a,f,pl,k⟩:=I.tuple j;have i:=f.length;obtain⟨o,v,t,n,hd⟩:=pl;exact YP p (.inr rfl) v t hd (λc d kp e=>g a f k c d kp e) (by simp only[xa]<;>omega)
noncomputable def lK(K:W.Frag)(T:String)(x:V)(H:Hp):Prop:=match x with
 | .str _=>T = "str"
 | .int _=>T = "int"
 | .ref p=>(T = "list"/\∃ xs,zf K H p xs)\/(T = "tuple"/\∃ o,K.lookup p=some o/\o.cls=.type "tuple"/\o.dict=none)\/
   (T = "dict"/\((∃ a,H p=some (.dK a))\/∃ a,H p=some (.dT a)))\/(T = "set"/\∃ S n,H p=some (.set S n))
 |_=>False
theorem HR{d:List (Addr × Obj)}{σ:St}{H:Hp}{s:Shared}{T:String}{x:V}{v:Value}(I:Inv X d σ H s)(r:Zc x v)(ty:lK X.K T x H) :
  s.TypeIs v T/\∀ a,v=.ref a->∃ ob,s.heap.get? a=some ob/\ob.dict=none:=by
 cases x with
 |str z=>
  obtain⟨t,rfl⟩:=r;cases (show T = "str" from ty);exact⟨typeIs_str s z t,λ_ e=>nomatch e⟩
 |int i=>
  obtain⟨t,rfl⟩:=r;cases (show T = "int" from ty);exact⟨typeIs_int s i t,λ_ e=>nomatch e⟩
 |ref p=>
  cases r;rcases ty with⟨rfl,xs,j⟩|⟨rfl,o,b,h,hd⟩|⟨rfl,b⟩|⟨rfl,S,n,b⟩
  ·obtain⟨k,_,pl,_⟩:=I.list j;refine⟨pl.isList.typeIs,λa e=>?_⟩;cases e;obtain⟨o,n,e,c,hd,_⟩:=pl;exact⟨o,e,hd⟩
  ·refine⟨⟨o,I.Kj p o b,h⟩,λa e=>?_⟩;cases e;exact⟨o,I.Kj _ o b,hd⟩
  ·have z:∃ o,s.heap.get? p=some o/\o.ExactDict:=by
    rcases b with⟨g,b⟩|⟨g,b⟩
    ·obtain⟨_,_,_,_,o,_,_,e,ex,_⟩:=I.Pb p _ b;exact⟨o,e,ex⟩
    ·obtain⟨_,_,_,_,o,_,_,e,ex,_⟩:=I.Pb p _ b;exact⟨o,e,ex⟩
   obtain⟨o,e,ex⟩:=z;refine⟨⟨o,e,ex.1⟩,λa f=>?_⟩;cases f;exact⟨o,e,ex.2.1⟩
  ·obtain⟨o,_,_,_,e,ex,_⟩:=I.Pb p _ b;refine⟨⟨o,e,ex.1⟩,λa f=>?_⟩;cases f;exact⟨o,e,ex.2.1⟩
 |_=>exact False.elim ty
noncomputable def aW(K:W.Frag)(T:String)(r:V->List V->Hp->VK->Prop)(to:TE)(t:TA):TE:=λb H Q=>to b H λx a=>lK K T x a/\t b a λxs c=>r x xs c Q
variable{o e:Ea}{es:List Ea}{to:TE}{t:TA}{name:qa}{apos cpos:se}{T id:String}{r:V->List V->Hp->VK->Prop}
theorem oY(y:Xl T)(slot:NH T name id)(g:Hx (.builtin id)=pure (.type "method_descriptor"))(hm:Tr X id r)(w:PE X o to)(u:PA X (e::es) t)
  (c:Yc o name X.env (Gb o X.env)=Gb o X.env:=by rfl)
  (f:((vc cpos (na (e::es) X.env)).all (λx=>!x.1) && (Nm cpos (Rh [] X.env)).all (λx=>x.1.isSome)
   && decide ((e::es).length+([]:List Wi).length+(if ([]:List Wi).isEmpty then 0 else 1)<30))=true:=by rfl)
  (d:(apos.endLine == cpos.line)=true:=by rfl) (hs:na (e::es) X.env=(false,Gb e X.env)::na es X.env:=by rfl) (b:(vc cpos (na es X.env)).any (·.1)=false:=by rfl) :
  PE X (.Call (.Attribute o name apos) (e::es) [] cpos) (aW X.K T r to t):=by
 intro a s i H Q I h;refine Ft c f d rfl (Ad (w a s i H _ I h) λv s1 ⟨x,H1,j,l,ty,z⟩=>?_);obtain⟨p,q⟩:=HR j l ty;refine⟨T,id,y,slot,g,p,q,?_⟩;have k:=u cpos a s1 i H1 _ j z;rw[hs]at k ⊢;refine Kh (by show (false || (vc cpos (na es X.env)).any (·.1))=false;rw[b]<;>rfl) (Ci ?_);exact Ad k λus s2 ⟨C,m,n,B,A⟩=>hm a s2 i m x C v us Q n l B A
end
noncomputable def vO(X:Cx)(b:String)(r:V->List V->Hp->VK->Prop):Prop:=
 ∀ (a:List (Addr × Obj)) (s:Shared) (σ:St) (H:Hp) (x:V) (xs:List V) (v:Value) (us:List Value) (Q:VK),Inv X a σ H s->Zc x v->zd xs us->r x xs H Q->
  wpAny (model X.prog X.w) X.A (call (.builtin b) (v::us)) (EP X a σ Q) X.xe s
theorem zd.one:∀ {x:V} {us:List Value},zd [x] us->∃ u,us=[u]/\Zc x u
 |_,_,.cons r .nil=>⟨_,rfl,r⟩
theorem zd.two:∀ {x y:V} {us:List Value},zd [x,y] us->∃ u v,us=[u,v]/\Zc x u/\Zc y v
 |_,_,_,.cons r (.cons q .nil)=>⟨_,_,rfl,r,q⟩
theorem zd.zero:∀ {us:List Value},zd [] us->us=[]
 |_,.nil=>rfl
theorem zd.eraseIdx:∀ {xs:List V} {us:List Value} (i:Nat),zd xs us->zd (xs.eraseIdx i) (us.eraseIdx i)
 |_,_,_,.nil=>.nil
 |_,_,0,.cons _ t=>t
 |_,_,i+1,.cons r t=>.cons r (zd.eraseIdx i t)
section
variable{X:Cx}{pins:List (Addr × Obj)}{σ:St}{H:Hp}{s:Shared}{l b:Addr}{xs ys zs:List V}
theorem Inv.Zz{its its':List Value}{n:Nat}{f:Array Value->Array Value}{t':Nat}(I:Inv X pins σ H s)(hH:H l=some (.lst xs))
  (e:s.heap.get? l=some { cls:=.type "list",data:=.seq its.toArray n }) (a:f its.toArray=its'.toArray) (c:zd ys its') (hz:ys.length<=sizeLine) :
  Inv X pins σ (upd H l (.lst ys)) { s with heap:=s.heap.update l (Bf f),toks:=t' }:=by
 have q:=u4 e f;rw[a]at q;refine I.write (x:=l) (e:=l) (by rw[hH];exact trivial) (.inl rfl) (λd u hb b=>(Be s.heap (Bf f) (Fe hb)).trans b) ⟨_,q⟩ ?_;exact⟨hz,its',_,c,q⟩
theorem Inv.Mw{its:List Value}{t':Nat}(I:Inv X pins σ H s)(a:zd ys its)(hz:ys.length<=sizeLine) :
  Inv X pins σ (upd H s.heap.objs.size (.lst ys)) { s with heap:=s.heap.push { cls:=.type "list",data:=.seq its.toArray },toks:=t' }:=
 I.laid (λ_ _ q=>ba _ q) (ja _) ⟨hz,its,0,a,Aa _ rfl⟩
theorem Inv.fresh(I:Inv X pins σ H s):H s.heap.objs.size=none:=I.Pb.fresh (ja _)
theorem Inv.ut(I:Inv X pins σ H s)(hH:H l=some (.lst xs)):xs.length<=sizeLine/\∃ (its:List Value) (n:Nat),zd xs its/\xs.length=its.length/\s.heap.get? l=some { cls:=.type "list",data:=.seq its.toArray n }:=by
 obtain⟨z,its,n,r,e⟩:=I.Pb l _ hH;exact⟨z,its,n,r,r.length,e⟩
theorem t3{n:Nat}(h:n<=sizeLine):Ig n=false:=by
 unfold Ig;exact Pc (by omega)
end
section
variable{X:Cx}
noncomputable def fF:V->List V->Hp->VK->Prop:=λx a H Q=>∃ l xs y,x=.ref l/\a=[y]/\H l=some (.lst xs)/\xs.length<sizeLine/\Q .Hb (upd H l (.lst (xs++[y])))
theorem kZ:vO X "list.append" fF:=by
 intro b s m H x k v j Q I f d h;obtain⟨l,xs,y,rfl,rfl,hH,i,q⟩:=h;cases f;obtain⟨u,rfl,c⟩:=d.one;obtain⟨z,a,n,r,g,e⟩:=I.ut hH;refine call_meets F.slot_list_append ⟨_,e,rfl⟩ F.entry_list_append (F.args_list_append_2 _ _) (PySem.list_append l a.toArray n u (by rw[xa];omega)) ⟨e,?_⟩;refine⟨.Hb,_,I.Zz (its':=a++[u]) hH e (by simp) (r.append (.cons c .nil)) ?_,rfl,q⟩;rw[Ya,List.length_singleton];omega
noncomputable def sN:V->List V->Hp->VK->Prop:=λx c H Q=>∃ l b xs a,x=.ref l/\c=[.ref b]/\H l=some (.lst xs)/\H b=some (.lst a)/\xs.length+a.length<=sizeLine/\Q .Hb (upd H l (.lst (xs++a)))
theorem MV:vO X "list.extend" sN:=by
 intro g s G H x C v B Q I w t h;obtain⟨l,b,xs,E,rfl,rfl,hH,j,A,q⟩:=h;cases w;obtain⟨u,rfl,p⟩:=t.one;cases p;obtain⟨z,c,n,r,y,e⟩:=I.ut hH;obtain⟨D,a,m,o,k,i⟩:=I.ut j;have f:c.toArray.size+a.toArray.size<=sizeLine:=by rw[xa,xa];omega
 have d:¬ (!c.toArray.isEmpty && Ig (c.toArray.size+a.toArray.size))=true:=by
  rw[t3 f,ew];exact Wa
 refine call_meets F.slot_list_extend ⟨_,e,rfl⟩ F.entry_list_extend (F.args_list_extend_2 _ _)
  (G6 l c.toArray n b a.toArray m d (by rw[xa];omega) (by omega)) ⟨e,i,?_⟩
 refine⟨.Hb,_,I.Zz (its':=c++a) hH e (by simp) (r.append o) ?_,rfl,q⟩;rw[Ya];omega
noncomputable def m2:R2:=λx y H Q=>∃ l b xs a,x=.ref l/\y=.ref b/\H l=some (.lst xs)/\H b=some (.lst a)/\xs.length+a.length<=sizeLine/\∀ p,H p=none->Q (.ref p) (upd H p (.lst (xs++a)))
theorem TQ:Oh X (ef .Add) m2:=by
 intro d s C H x y v u Q I m o h;obtain⟨l,b,xs,B,rfl,rfl,hH,i,t,q⟩:=h;cases m;cases o;obtain⟨z,c,n,r,p,e⟩:=I.ut hH;obtain⟨A,a,w,k,j,f⟩:=I.ut i;refine PySem.P.add_list e f ?_ (by rw[xa,xa];omega);have g:c.toArray++a.toArray=(c++a).toArray:=by simp
 rw[g];exact⟨.ref _,_,I.Mw (t':=s.toks) (r.append k) (by rw[Ya];omega),rfl,q _ I.fresh⟩
end
section
variable{prog:ra}{w:Ia}{A:Ja}{E:Value->Shared->Prop}{s:Shared}
set_option maxRecDepth 100000 in
end
section
variable{X:Cx}
end
end L2
namespace Att
open PySem PySem.W PySem.Calls PyProof.Rows
theorem nX{P:OH}{h:Heap}:∀ (ns:List Int) (vs:List Value),WellAll P h vs (ns.map YD)->oh vs ns:=by
 intro ns;induction ns with
 |nil=>
  intro vs w;rw[Vd]at w;cases w;exact .nil
 |cons n ns c=>
  intro vs w;rw[za]at w;cases w with
  |cons a b=>
   cases a;exact .cons _ _ (c _ b)
theorem jW{l:J4}{n:Nat}(hn:l.most=some n){P:OH}{h:Heap}{args:List WData}{c:List Value}
  (b:l.row.toRowW.claim.pre args=true) (k:WellAll P h c args) :
  ∃ a vs ns,c=[kb a]/\args=[WData.list (ns.map YD)]/\h.get? a=some { cls:=.type "list",data:=.seq vs.toArray }/\oh vs ns/\ns.length<=n:=by
 have j:WShape.hasAll [] args [.list .int]=true:=(pre_splitW b).1;have m:l.pre.holds [] { args:=args }=true:=(pre_splitW b).2;obtain⟨d,r,rfl,o,p⟩:=hasAllW_cons j;obtain rfl:=hasAllW_nil p;obtain⟨xs,rfl,s⟩:=hasW_list o;obtain⟨ns,rfl⟩:=items_int s;have f:ns.length<=n:=by
  unfold OpenLaw.pre at m;have g:(WTm.not (.lt (.lit (.int (n:Int))) (.len (.arg 0)))).holds [] { args:=[.list (ns.map .int)] }=true:=by
   have g:=(holds_andW m).1;rw[hn]at g;exact g
  have i:=condW_of g (w_not (w_lt w_lit (w_len_list (w_arg rfl))));rw[Ta]at i;refine Nat.le_of_not_lt λq=>?_;have u:(n:Int)<((ns.length:Nat):Int):=by omega
  first
   |(rw[Fg u]at i;exact absurd i (by decide))
   |(simp at i;omega)
 cases k with
 |cons v w=>
  cases w;cases v with
  |list t e=>exact⟨_,_,ns,rfl,rfl,t,nX ns _ e,f⟩
theorem DQ(l:J4)(args:List WData):l.row.toRowW.claim.post args (.bool true) args=true:=
 postW_of (r:=l.row.toRowW) (X:=(true == true))
  (show dz [] (.bool true) .bool=true by first|rfl|decide|simp[dz,WShape.arms,WShape.armsAll])
  (show (WTm.eq .res (.lit (.bool true))).value [] { args:=args,res:=some (.bool true),after:=args }=some (.bool (true == true))from w_eq_bool (w_res rfl) w_lit) rfl
theorem qp{l:J4}{n:Nat}{q:ra}{c:List qa}{y:(qa->Option Value)->Heap->Prop}{z:Ia->Heap->Prop}{d:DefRec}
  (hn:l.most=some n) (t:d.params.defaults=[])
  (call:∀ (w:Ia) (s₀ b:Shared) (mg mb:qa->Option Value) (h:Addr) (o:Obj) (x m e:Value) (a:Addr) (vs:List Value) (ns:List Int),
   Ground q c [] y w s₀ mg mb b.heap->z w b.heap->
   b.heap.get? h=some o->o.data=.func (docDef d.name d.params d.body d.scope x m e)->b.heap.CodeRec m d.name->mg d.name=some (.ref h)->
   b.heap.get? a=some { cls:=.type "list",data:=.seq vs.toArray }->oh vs ns->ns.length<=n->b.gens=#[]->
   codeAny (model l.prog w) ck (.call (.ref h) ⟨[.ref a],[]⟩) (λr p=>r=.ok (.ret (.bool true))/\OldK b.heap p.heap/\p.os=b.os/\mh p.gens) b) :
  WalkO q c y z l.row.toRowW d [] (λf vs=>PySem.call f vs):=by
 intro w s₀ b mg mb G Y h o x m e dV kV K hd s B u I A D N k C M v J;obtain rfl:dV=.none:=Dflts.none B t;obtain rfl:kV=.none:=Dflts.noKw B;obtain⟨a,vs,ns,rfl,rfl,j,g,i⟩:=jW hn k v;refine enter_call (qf (call w s₀ b mg mb h o x m e a vs ns G Y K (fd_plain hd) s u j g i I) λr p L=>?_);obtain⟨rfl,E,F,H⟩:=L;exact⟨.inl ⟨.bool true,.bool true,[],rfl,λ_=>rfl,.bool true,DQ l _,λ_=>⟨List.Pairwise.nil,λ_ hm=>(nomatch hm)⟩⟩,E,F,H⟩
section
variable{prog:ra}{w:Ia}{A:Ja}{E:Value->Shared->Prop}{s:Shared}{K:Frag}
noncomputable def m5(h:Heap)(L d:Addr):List (Addr × Obj):=(List.range h.objs.size).filterMap λa=>if a=L\/a=d then none else (h.get? a).map λo=>(a,o)
end
end Att
namespace L2
open PySem PySem.Spec PyProof.Rows
theorem pA:∀ {vs:List Value} {ns:List Int},oh vs ns->zd (ns.map V.int) vs
 |_,_,.nil=>.nil
 |_,_,.cons n t h=>.cons ⟨t,rfl⟩ (pA h)
noncomputable def RA(H:Hp):Prop:=∀ b,H b=none\/∃ o xs,H b=some (.rb o (.lst xs))
theorem OS{P:ra}{w:Ia}{K:W.Frag}{mg mb:qa->Option Value}{CX:xr}{k:Nat}{E a:Addr}{O:Ud}{x:qa}{sp:Sp}{s₁:Shared}{vs:List Value}{ns:List Int}
  (N:K.In s₁.heap) (t:s₁.heap.Ns mainGlobals mg) (hb:s₁.heap.Ns builtinsNs mb) (I:∀ x:qa,x ≠ "__name__"->mb x=bootBuiltins x) (p:s₁.heap.NoLimit) (hg:s₁.gens=#[])
  (C:s₁.heap.get? a=some { cls:=.type "list",data:=.seq vs.toArray }) (S:oh vs ns) (T:ns.length<=sizeLine) (hr:ke k ck)
  (F:∀ base:Heap,K.In base->base.Ns mainGlobals mg->Og P w K mg base CX k E O [x] sp) (i:∀ (s:Shared) (u:Value),Xe s O ⟨[u],[]⟩ [(x,u)])
  (L:∀ H:Hp,RA H->zf K H a (ns.map V.int)->sp [.ref a] H (λv _=>v=.bl true) λ_ _ _=>False)
  (G:∀ H e s',CX [] H s₁ (λ_ _ _=>False) e s'->False) :
  codeAny (model P w) ck (.call (.ref E) ⟨[.ref a],[]⟩) (λr s'=>r=.ok (.ret (.bool true))/\OldK s₁.heap s'.heap/\s'.os=s₁.os/\mh s'.gens) s₁:=by
 have U:=pA S;have A:=S.length;have g:∀ H:Hp,RA H->zf K H a (ns.map V.int)->Hh P w H s₁.heap->(∀ b,H b≠none->b=a)->(H a≠none->K.lookup a=none)->
   codeAny (model P w) ck (.call (.ref E) ⟨[.ref a],[]⟩) (λr s'=>r=.ok (.ret (.bool true))/\OldK s₁.heap s'.heap/\s'.os=s₁.os/\mh s'.gens) s₁:=by
  intro H R hS Pb Q hK;have c:∀ {b:Addr} {o:Obj},s₁.heap.get? b=some o->H b=none->(Pu s₁.heap H).get? b=some o:=λe n=>HW e n;have M:∀ {b:Addr} {o:Obj} {j:Array Hs} {ep:Nat},s₁.heap.get? b=some o->o.data=.dict j ep->H b=none:=fun {b o j ep} e d=>by
   cases q:H b with
   |none=>rfl
   |some u=>
    have D:b=a:=Q b (by rw[q];simp);subst D;rw[C]at e;cases e;have X:Data.seq vs.toArray _=Data.dict j ep:=d;cases X
  have f:∀ {b:Addr} {m:qa->Option Value},s₁.heap.Ns b m->(Pu s₁.heap H).Ns b m:=fun {b m} ⟨o,j,ep,e,d,r⟩=>⟨o,j,ep,c e (M e d),d,r⟩
  have l:K.In (Pu s₁.heap H):=λb o e=>c (N b o e) (by
   cases q:H b with
   |none=>rfl
   |some u=>
    have D:b=a:=Q b (by rw[q];simp);subst D;rw[hK (by rw[q];simp)]at e;cases e)
  have hM:Mod K mg (Pu s₁.heap H):=⟨l,f t,⟨mb,f hb,I⟩,let ⟨mc,h1,h2⟩:=p;⟨mc,f h1,h2⟩⟩
  have Y:xl P w K mg (Pu s₁.heap H) ck [] s₁ H:=⟨rfl,hM,λb o e=>iX e,gB (zZ _ _),trivial,λb hb=>absurd (show b∈([]:List Addr)from hb) (by simp),Pb,.of_eq hg⟩
  refine qf ((F _ l (f t)).run ck [] s₁ H ⟨[.ref a],[]⟩ [.ref a] [.ref a] _ _ hr Y (i s₁ (.ref a)) (.cons rfl .nil) (L H R hS)) λr s' h=>?_;cases r with
  |error e=>exact(G H e s' h).elim
  |ok fl=>
   cases fl with
   |next=>exact False.elim h
   |brk=>exact False.elim h
   |cont=>exact False.elim h
   |ret u=>
    obtain⟨v,H',os,bare,un,y,r',q⟩:=h;have q':v=.bl true:=q;subst q';obtain rfl:u=tf true:=r';refine⟨rfl,OldK.of_keep λb o e=>?_,os,bare⟩;cases q:H b with
    |none=>exact un.keep b o e q (by intro z;exact absurd (show b∈([]:List Addr)from z) (by simp)) (by simp)
    |some u=>
     rcases R b with z|⟨ob,xs,z⟩
     ·rw[q]at z;cases z
     ·have z2:=un.vh b ob _ z;obtain⟨e1,_⟩:=Pb b _ z;obtain⟨Z,_⟩:=y b _ z2;rw[e]at e1;cases e1;exact Z
 cases J:K.lookup a with
 |some o=>
  have e:=N a o J;rw[C]at e;cases e;refine g (λ_=>none) (λ_=>.inl rfl) (.inr ⟨_,vs.toArray,_,J,rfl,rfl,rfl,by rw[xa,A];exact T,by simpa using U⟩) (λb u z=>by have B:(none:Option HO)=some u:=z;cases B) (λb z=>absurd rfl z) λz=>absurd rfl z
 |none=>
  refine g (λb=>if b=a then some (.rb { cls:=.type "list",data:=.seq vs.toArray } (.lst (ns.map V.int)))else none) (λb=>?_) (.inl (.inr ⟨{ cls:=.type "list",data:=.seq vs.toArray },da rfl⟩)) (λb u z=>?_) (λb z=>?_) λ_=>J
  ·by_cases hb:b=a
   ·exact .inr ⟨_,_,da hb⟩
   ·exact .inl (ga hb)
  ·by_cases hb:b=a
   ·have B:=(da hb).symm.trans z;cases B;subst hb;exact⟨C,by rw[Ta];exact T,vs,_,U,C⟩
   ·have B:=(ga hb).symm.trans z;cases B
  ·by_cases hb:b=a
   ·exact hb
   ·exact absurd (ga hb) z
noncomputable abbrev La{K:W.Frag}{h:Heap}(_:K.In h):W.Frag:=K
theorem j0{l:W.OpenLaw}{n k:Nat}{q:ra}{j:List qa}{J:(qa->Option Value)->Heap->Prop}{E:Ia->Heap->Prop}{d:DefRec}{K:OH->W.Frag}{CX:Ia->xr}{sp:Ia->Sp}{x:qa}
  (hn:l.most=some n) (B:n<=sizeLine) (z:d.params.defaults=[]) (R:ke k ck)
  (O:∀ (w:Ia) (h:Heap),E w h->(K w.params).In h)
  (F:∀ (w:Ia) (mg:qa->Option Value) (r:Addr) (h:Heap),(K w.params).In h->h.Ns mainGlobals mg->mg d.name=some (.ref r)->
   ∃ t:Ud,(∀ (s:Shared) (u:Value),Xe s t ⟨[u],[]⟩ [(x,u)])/\
    ∀ base:Heap,(K w.params).In base->base.Ns mainGlobals mg->Og l.prog w (K w.params) mg base (CX w) k r t [x] (sp w))
  (C:∀ (w:Ia) (H:Hp) (a:Addr) (ns:List Int),ns.length<=n->RA H->zf (K w.params) H a (ns.map V.int)->sp w [.ref a] H (λv _=>v=.bl true) λ_ _ _=>False)
  (y:∀ (w:Ia) (H:Hp) (s:Shared) (e:Value) (s':Shared),CX w [] H s (λ_ _ _=>False) e s'->False) :
  W.WalkO q j J E l.row.toRowW d [] (λf I=>PySem.call f I):=by
 refine Att.qp hn z λw s₀ p mg mb r o X S L a I ns G Y U hd P A m i c Q=>?_;have D:=O w _ Y;obtain⟨t,hb,M⟩:=F w mg r _ D G.T.g A;exact OS D G.T.g G.T.b G.T.builtins G.T.nolimit Q m i (Qa c B) R M hb (λH N hS=>C w H a ns c N hS) λH e s'=>y w H p e s'
noncomputable def ml(s:Stmt):Arguments:=match s with
 | .FunctionDef _ a _ _ _ _ _ _ _ _=>a
 |_=>{ posonlyargs:=[],args:=[],vararg:=none,kwonlyargs:=[],kw_defaults:=[],kwarg:=none,defaults:=[] }
noncomputable def Ei(s:Stmt):List Stmt:=match s with
 | .FunctionDef _ _ b _ _ _ _ _ _ _=>b
 |_=>[]
noncomputable def pd(s:Stmt):Scope:=match s with
 | .FunctionDef _ _ _ _ _ _ sc _ _ _=>sc
 |_=>{ kind:=.function,names:=[],isGenerator:=false,isCoroutine:=false }
noncomputable abbrev vP:xr:=λ_ _ _ _ _ _=>False
noncomputable abbrev E0:XK:=λ_ _ _=>False
structure ox(K:W.Frag)(x qual:qa)(st:Stmt)(f:Addr)(fd:Ud):Prop where
 ex:∃ (oc:Value) (od:Option Addr) (kV doc pm:Value) (an:Option Addr) (cdv ct:Value) (osl:Array (Option Value)),
  fd=W.fnOf x qual (ml st) (Ei st) (pd st) .none kV doc pm an cdv ct/\K.lookup f=some ⟨oc,od,.func fd,osl⟩/\W.codeIn K cdv qual=true
 kp:W.keepIn K (.ref f)=true
section
variable{P:ra}{w:Ia}{K:W.Frag}{mg:qa->Option Value}{base:Heap}
theorem ox.ok{x qual:qa}{c:Stmt}{f:Addr}{g:Ud}{N ps:List qa}{k:Nat}{sp:Sp}(F:ox K x qual c f g)(S:Ka N ps (pd c))(len:∀ vs H Q E,sp vs H Q E->vs.length=ps.length)
  (b:∀ (a:Value) (A:Ja) (outer:List Cg) (s:Shared) (H:Hp) (vs:List V) (Q:VK) (E:XK),ke k (A.deeper (Kg qual (pd c) s.heap.objs.size f a))->sp vs H Q E->
   ∃ t,Nq (Dp vP P w K mg base N qual (pd c) f a A outer s H E).Co (Ei c) t/\t { nx:=λ_ i=>Q .Hb i,rt:=Q } (nt N vs) H):Og P w K mg base vP (k+1) f g ps sp:=by
 obtain⟨o,p,kV,j,r,n,a,ct,m,rfl,lk,d⟩:=F.ex;refine DM lk d S len λA outer s H vs Q E l e=>?_;obtain⟨t,h,q⟩:=b a A outer s H vs Q E l e;exact⟨t,h.Co,q⟩
theorem ox.binds{x qual:qa}{c:Stmt}{f:Addr}{g:Ud}{ps:List qa}(F:ox K x qual c f g)
  (h:∀ (kV b e:Value) (d:Option Addr) (a ct:Value) (us:List Value),us.length=ps.length->bindArgs (W.fnOf x qual (ml c) (Ei c) (pd c) .none kV b e d a ct) ⟨us,[]⟩=pure (ps.zip us)):Up K g ps []:=by
 obtain⟨k,l,kV,b,e,d,a,ct,j,rfl,lk,i⟩:=F.ex;exact .all (h kV b e d a ct)
theorem FL{x qual:qa}{d:Stmt}{f:Addr}{i:Value}{od g:Option Addr}{e:Array (Option Value)}{kV b h a ct:Value}(l:K.lookup f=some ⟨i,od,.func (W.fnOf x qual (ml d) (Ei d) (pd d) .none kV b h g a ct),e⟩)
  (c:W.codeIn K a qual=true) (k:W.keepIn K (.ref f)=true):ox K x qual d f (W.fnOf x qual (ml d) (Ei d) (pd d) .none kV b h g a ct):=⟨⟨i,od,kV,b,h,g,a,ct,e,rfl,l,c⟩,k⟩
end
theorem aI{n:Nat}(h:n<=1000):n<sizeLine:=Ht h (by decide)
section
variable{X:Cx}
end
noncomputable def au(H a:Hp):Prop:=∀ b o,H b=some o->a b=some o
theorem au.refl(H:Hp):au H H:=λ_ _ h=>h
theorem au.trans{H d H2:Hp}(a:au H d)(b:au d H2):au H H2:=λc o h=>b c o (a c o h)
theorem au.free{H a:Hp}(e:au H a){l:Addr}(h:a l=Option.none):H l=Option.none:=by
 cases q:H l with
 |none=>rfl
 |some o=>
  rw[e l o q]at h;cases h
theorem au.seq{K:W.Frag}{H b:Hp}{a:Addr}{xs:List V}(e:au H b)(h:zf K H a xs):zf K b a xs:=by
 rcases h with(h|⟨o,h⟩)|h
 ·exact .inl (.inl (e _ _ h))
 ·exact .inl (.inr ⟨o,e _ _ h⟩)
 ·exact .inr h
end L2
namespace L4
open PySem PySem.Spec PyProof.Rows L2
theorem RM{c:Type}(a:c):∃ b,b=a:=⟨a,rfl⟩
noncomputable def hide{b:Type}(a:b):b:=Classical.choose (RM a)
@[simp] theorem Jk{b:Type}(a:b):hide a=a:=v4 (RM a)
inductive D where
 |Hb|bl (b:Bool)|int (i:Int)|str (x:qa)|tup (xs:List D)|Pi (ns:List Int)|ref (n:Nat)
 |lst (xs:List D)|va (ks:List Key) (xs:List D)|obj (c:Nat) (ns:List qa) (xs:List D)|Vt (c:Nat)|gt (ss:List qa)
inductive Ob where
 |lst (xs:List D)
 |va (kvs:List (Key × D))
 |ins (c:Nat) (fs:List (qa × D))
 |lb (kvs:List (Key × D))
 |og (ks:List (List Key))
noncomputable abbrev db:=List Ob
noncomputable abbrev St:=L2.St
noncomputable abbrev Ev:=List (Option D)
structure Xn where
 cls:Nat
inductive Out(α:Type) where
 |ok (a:α) (σ:db)
 |ex (x:Xn) (σ:db)
 |bad
noncomputable abbrev M(a:Type):=db->Out a
noncomputable def ret{α:Type}(a:α):M α:=λb=>.ok a b
noncomputable def bad{α:Type}:M α:=λ_=>.bad
noncomputable def Out.bind{c β:Type}(o:Out c)(k:c->M β):Out β:=match o with
 | .ok a b=>k a b
 | .ex x b=>.ex x b
 | .bad=>.bad
noncomputable def Fc{a β:Type}(m:M a)(k:a->M β):M β:=λb=>(m b).bind k
inductive Fl where
 |nx (ρ:Ev)|rt (d:D)|bk (ρ:Ev)|ct (ρ:Ev)|xc (ρ:Ev) (x:Xn)
structure Tab where
 P:Addr
 line:Int
 col:Int
 qual:qa
structure Tx where
 QE:List Tab
 bm:Addr
structure Tb where
 K:W.Frag
 ca:Nat->Addr
 tx:Tx
noncomputable def mZ(q:qa)(c:Addr):Heap->Prop:=λh=>∃ o a t,h.get? c=some o/\o.data=.fields a/\a[1]?=some (.str q t)
noncomputable def bZ(bm:Addr):Heap->Prop:=λh=>∃ o,h.get? bm=some o/\o.cls=.type "module"/\o.dict=some builtinsNs/\o.data=.plain
noncomputable def Dq(T:Tb)(μ:List Addr)(H:Hp):Prop:=∀ t∈T.tx.QE,(T.tx.bm ∉ μ/\∃ b,H T.tx.bm=some (.rb b (.ext (bZ T.tx.bm))))/\t.P ∉ μ/\∃ a,H t.P=some (.Nr a)/\(a=#[]\/∃ c,a=#[rawInt t.line,rawInt t.col,.ref c]/\c ∉ μ/\H c=some (.ext (mZ t.qual c)))
theorem Dq.grow{T:Tb}{μ:List Addr}{H H':Hp}(h:Dq T μ H)(k:∀ b u,H b=some u->H' b=some u):Dq T μ H':=λt j=>by
 obtain⟨⟨a,l,d⟩,f,m,g,i⟩:=h t j;exact⟨⟨a,l,k _ _ d⟩,f,m,k _ _ g,i.imp id λ⟨c,e,n,z⟩=>⟨c,e,n,k _ _ z⟩⟩
theorem Dq.sub{T:Tb}{μ μ':List Addr}{H:Hp}(h:Dq T μ' H)(k:∀ b∈μ,b∈μ'):Dq T μ H:=λt j=>by
 obtain⟨⟨a,d⟩,f,l,g,i⟩:=h t j;exact⟨⟨λz=>a (k _ z),d⟩,λz=>f (k _ z),l,g,i.imp id λ⟨c,e,n,z⟩=>⟨c,e,λy=>n (k _ y),z⟩⟩
theorem Dq.more{T:Tb}{μ:List Addr}{H:Hp}{p:Addr}(h:Dq T μ H)(j:H p=none):Dq T (μ++[p]) H:=λt k=>by
 obtain⟨⟨f,l,a⟩,g,m,d,i⟩:=h t k;have ne:∀ {b:Addr} {u:HO},H b=some u->b ∉ μ->b ∉ μ++[p]:=fun {b u} e n z=>(Pd.mp z).elim n λy=>by
  have o:b=p:=by simpa using y
  subst o;rw[j]at e;cases e
 exact⟨⟨ne a f,l,a⟩,ne d g,m,d,i.imp id λ⟨c,e,n,z⟩=>⟨c,e,ne z n,z⟩⟩
theorem Dq.out{T:Tb}{μ:List Addr}{H H':Hp}{a:Addr}(h:Dq T μ H)(m:∀ b,b≠a->H' b=H b)(l:a∈μ\/∃ kvs,H a=some (.dK kvs)):Dq T μ H':=λt o=>by
 obtain⟨⟨f,p,i⟩,g,q,j,k⟩:=h t o;have ne:∀ {b:Addr} {u:HO},H b=some u->b ∉ μ->(∀ kvs,u≠.dK kvs)->H' b=some u:=fun {b u} e n d=>by
  rw[m b (λz=>by
   subst z;rcases l with y|⟨kvs,y⟩
   ·exact n y
   ·rw[e]at y;cases y;exact d kvs rfl)]
  exact e
 exact⟨⟨f,p,ne i f (λ_ z=>by cases z)⟩,g,q,ne j g (λ_ z=>by cases z),k.imp id λ⟨c,e,n,z⟩=>⟨c,e,n,ne z n (λ_ y=>by cases y)⟩⟩
noncomputable def Tb.cv(T:Tb)(x:Xn):Value:=.ref (T.ca x.cls)
noncomputable def fA(c:Nat):Option Nat:=if c<100 then none else some (c / 100 - 1)
noncomputable def tX(C a:Addr):Heap->Prop:=λh=>∃ o,h.get? a=some o/\o.cls=.ref C
noncomputable def QF(C:Addr)(dd:Option Addr)(a:Addr):Heap->Prop:=λh=>∃ o,h.get? a=some o/\o.cls=.ref C/\∀ b,dd=some b->o.dict=some b/\∃ c,o.data=.fields c
noncomputable def F0(b:Addr)(n:Nat):Heap->Prop:=λh=>∃ o,h.get? b=some o/\∃ a c t,o.data=.dict a c/\StrKeys a/\nsFind a "pot" = some (.int n t)
noncomputable def tD(K:W.Frag)(H:Hp)(a:Addr)(ns:List Int):Prop:=
 (∃ o,H a=some (.rb o (.lst (ns.map V.int))))\/
  ∃ (o:Obj) (b:Array Value) (n:Nat),K.lookup a=some o/\o.cls=.type "list"/\o.dict=none/\o.data=.seq b n/\b.size<=sizeLine/\zd (ns.map V.int) b.toList
theorem tD.seq{K:W.Frag}{H:Hp}{a:Addr}{ns:List Int}(h:tD K H a ns):zf K H a (ns.map V.int):=by
 rcases h with⟨o,h⟩|h
 ·exact .inl (.inr ⟨o,h⟩)
 ·exact .inr h
noncomputable def oA(K:W.Frag)(a:Addr)(ss:List qa):Prop:=∃ (o:Obj) (b:Array Value) (n:Nat),K.lookup a=some o/\o.cls=.type "tuple"/\o.data=.seq b n/\b.size<=sizeLine/\zd (ss.map V.str) b.toList
mutual
noncomputable def Rep(T:Tb)(μ:List Addr)(H:Hp):D->V->Prop
 | .Hb,v=>v=.Hb
 | .bl b,v=>v=.bl b
 | .int i,v=>v=.int i
 | .str x,v=>v=.str x
 | .tup ds,v=>∃ p e,v=.ref p/\H p=some (.tup e)/\Ra T μ H ds e
 | .Pi ns,v=>∃ a,v=.ref a/\tD T.K H a ns
 | .ref n,v=>∃ a,v=.ref a/\μ[n]?=some a
 | .lst ds,v=>∃ a e,v=.ref a/\a ∉ μ/\H a=some (.lst e)/\Ra T μ H ds e
 | .va j ds,v=>∃ a d,v=.ref a/\a ∉ μ/\Rd H a (.dK d)/\d.map (·.1)=j/\Ra T μ H ds (d.map (·.2))
 | .obj c ns ds,v=>∃ a h fs,v=.ref a/\a ∉ μ/\H a=some (.ins (T.ca c) h fs)/\fs.map (·.1)=ns/\Ra T μ H ds (fs.map (·.2))
 | .Vt c,v=>∃ a g,v=.ref a/\a ∉ μ/\H a=some (.ext (QF (T.ca c) g a))/\∀ n,fA c=some n->∃ f,g=some f/\f ∉ μ/\H f=some (.ext (F0 f n))
 | .gt ss,v=>∃ a,v=.ref a/\oA T.K a ss
noncomputable def Ra(T:Tb)(μ:List Addr)(H:Hp):List D->List V->Prop
 |[],a=>a=[]
 |d::ds,a=>∃ v r,a=v::r/\Rep T μ H d v/\Ra T μ H ds r
end
noncomputable def Kp(o b:HO):Prop:=b=o\/(∃ d a,o=.dK a/\b=.rb d (.dK a))\/∃ e c,o=.Nr e/\b=.Nr c
theorem Kp.trans{a b c:HO}(x:Kp a b)(y:Kp b c):Kp a c:=by
 rcases x with rfl|⟨h,d,rfl,rfl⟩|⟨g,e,rfl,rfl⟩
 ·exact y
 ·rcases y with rfl|⟨_,_,z,_⟩|⟨_,_,z,_⟩
  ·exact .inr (.inl ⟨h,d,rfl,rfl⟩)
  ·cases z
  ·cases z
 ·rcases y with rfl|⟨_,_,z,_⟩|⟨_,f,_,rfl⟩
  ·exact .inr (.inr ⟨g,e,rfl,rfl⟩)
  ·cases z
  ·exact .inr (.inr ⟨g,f,rfl,rfl⟩)
structure Ext(μ:List Addr)(H:Hp)(μ':List Addr)(H':Hp):Prop where
 pre:∃ r,μ'=μ++r
 tup:∀ p xs,H p=some (.tup xs)->H' p=some (.tup xs)
 rb:∀ p o u,H p=some (.rb o u)->H' p=some (.rb o u)
 keep:∀ p o,H p=some o->p ∉ μ->(∃ o',H' p=some o'/\Kp o o')/\p ∉ μ'
theorem Ext.refl(μ:List Addr)(H:Hp):Ext μ H μ H:=⟨⟨[],by simp⟩,λ_ _ h=>h,λ_ _ _ h=>h,λ_ _ h n=>⟨⟨_,h,.inl rfl⟩,n⟩⟩
theorem Ext.trans{μ c d:List Addr}{H e H2:Hp}(a:Ext μ H c e)(b:Ext c e d H2):Ext μ H d H2:=by
 obtain⟨⟨r,rfl⟩,y,i,m⟩:=a;obtain⟨⟨x,rfl⟩,z,j,q⟩:=b;exact⟨⟨r++x,by simp⟩,λp xs h=>z p xs (y p xs h),λp o u h=>j p o u (i p o u h),λp o h n=>let ⟨⟨v,k,f⟩,s⟩:=m p o h n;let ⟨⟨w,l,g⟩,t⟩:=q p v k s;⟨⟨w,l,f.trans g⟩,t⟩⟩
theorem Ext.kj{μ μ':List Addr}{H a:Hp}(e:Ext μ H μ' a)(p:Addr)(o:HO)(h:H p=some o)(n:p ∉ μ)(hd:(∀ kvs,o≠.dK kvs)/\∀ ps,o≠.Nr ps:=by exact⟨(λ_ z=>by cases z),(λ_ z=>by cases z)⟩):a p=some o/\p ∉ μ':=by
 obtain⟨⟨f,b,c⟩,d⟩:=e.keep p o h n;rcases c with rfl|⟨_,kvs,z,_⟩|⟨ps,_,z,_⟩
 ·exact⟨b,d⟩
 ·exact absurd z (hd.1 kvs)
 ·exact absurd z (hd.2 ps)
theorem Ext.rd{μ μ':List Addr}{H b:Hp}(e:Ext μ H μ' b)(p:Addr)(kvs:List (Key × V))(h:Rd H p (.dK kvs))(n:p ∉ μ):Rd b p (.dK kvs)/\p ∉ μ':=by
 rcases h with h|⟨a,h⟩
 ·obtain⟨⟨i,d,c⟩,g⟩:=e.keep p _ h n;rcases c with rfl|⟨a,f,z,rfl⟩|⟨_,_,z,_⟩
  ·exact⟨.inl d,g⟩
  ·cases z;exact⟨.inr ⟨a,d⟩,g⟩
  ·cases z
 ·exact⟨.inr ⟨a,e.rb _ _ _ h⟩,(e.keep p _ h n).2⟩
theorem Ext.get{μ μ':List Addr}{H b:Hp}(e:Ext μ H μ' b){n:Nat}{a:Addr}(h:μ[n]?=some a):μ'[n]?=some a:=by
 obtain⟨⟨r,rfl⟩,_,_⟩:=e;rw[Ua (ka.mp h).1];exact h
mutual
theorem Rep.mono{T:Tb}{μ μ':List Addr}{H r:Hp}(e:Ext μ H μ' r):∀ (d:D) (v:V),Rep T μ H d v->Rep T μ' r d v
 | .Hb,v,h=>by simpa [Rep]using h
 | .bl b,v,h=>by simpa [Rep]using h
 | .int i,v,h=>by simpa [Rep]using h
 | .str x,v,h=>by simpa [Rep]using h
 | .tup ds,v,h=>by
  rw[Rep]at h ⊢;obtain⟨p,k,g,f,j⟩:=h;exact⟨p,k,g,e.tup _ _ f,Ra.mono e ds k j⟩
 | .Pi ns,v,h=>by
  rw[Rep]at h ⊢;obtain⟨a,g,f⟩:=h;refine⟨a,g,?_⟩;rcases f with⟨o,f⟩|f
  ·exact .inl ⟨o,e.rb _ _ _ f⟩
  ·exact .inr f
 | .ref n,v,h=>by
  rw[Rep]at h ⊢;obtain⟨a,g,f⟩:=h;exact⟨a,g,e.get f⟩
 | .lst ds,v,h=>by
  rw[Rep]at h ⊢;obtain⟨a,k,g,f,j,l⟩:=h;exact⟨a,k,g,(e.kj _ _ j f).2,(e.kj _ _ j f).1,Ra.mono e ds k l⟩
 | .va A ds,v,h=>by
  rw[Rep]at h ⊢;obtain⟨a,k,g,f,j,m,l⟩:=h;exact⟨a,k,g,(e.rd _ _ j f).2,(e.rd _ _ j f).1,m,Ra.mono e ds _ l⟩
 | .obj c ns ds,v,h=>by
  rw[Rep]at h ⊢;obtain⟨a,y,k,g,f,j,m,l⟩:=h;exact⟨a,y,k,g,(e.kj _ _ j f).2,(e.kj _ _ j f).1,m,Ra.mono e ds _ l⟩
 | .Vt c,v,h=>by
  rw[Rep]at h ⊢;obtain⟨a,w,g,f,j,l⟩:=h;exact⟨a,w,g,(e.kj _ _ j f).2,(e.kj _ _ j f).1,λn q=>let ⟨u,z,s,t⟩:=l n q;⟨u,z,(e.kj _ _ t s).2,(e.kj _ _ t s).1⟩⟩
 | .gt ss,v,h=>by rw[Rep]at h ⊢;exact h
theorem Ra.mono{T:Tb}{μ μ':List Addr}{H a:Hp}(e:Ext μ H μ' a):∀ (ds:List D) (vs:List V),Ra T μ H ds vs->Ra T μ' a ds vs
 |[],vs,h=>by simpa [Ra]using h
 |d::ds,vs,h=>by
  rw[Ra]at h ⊢;obtain⟨v,r,b,c,f⟩:=h;exact⟨v,r,b,Rep.mono e d v c,Ra.mono e ds r f⟩
end
theorem Ra.nil{T:Tb}{μ:List Addr}{H:Hp}:Ra T μ H [] []:=by rw[Ra]
theorem Ra.cons{T:Tb}{μ:List Addr}{H:Hp}{d:D}{v:V}{ds:List D}{vs:List V}(a:Rep T μ H d v)(b:Ra T μ H ds vs):Ra T μ H (d::ds) (v::vs):=by
 rw[Ra];exact⟨v,vs,rfl,a,b⟩
theorem Ra.length{T:Tb}{μ:List Addr}{H:Hp}:∀ {ds:List D} {vs:List V},Ra T μ H ds vs->ds.length=vs.length
 |[],vs,h=>by rw[Ra]at h;subst h;rfl
 |d::ds,vs,h=>by
  rw[Ra]at h;obtain⟨v,r,rfl,_,a⟩:=h;simp[Ra.length a]
theorem Ra.get{T:Tb}{μ:List Addr}{H:Hp}:∀ {ds:List D} {vs:List V} {i:Nat} {d:D},Ra T μ H ds vs->ds[i]?=some d->∃ v,vs[i]?=some v/\Rep T μ H d v
 |[],vs,i,d,h,e=>by simp at e
 |d::ds,vs,0,x,h,e=>by
  rw[Ra]at h;obtain⟨v,r,rfl,a,b⟩:=h;simp at e;subst e;exact⟨v,rfl,a⟩
 |d::ds,vs,i+1,x,h,e=>by
  rw[Ra]at h;obtain⟨v,r,rfl,a,b⟩:=h;simpa using Ra.get (i:=i) b (by simpa using e)
theorem Ra.append{T:Tb}{μ:List Addr}{H:Hp}:∀ {ds es:List D} {vs us:List V},Ra T μ H ds vs->Ra T μ H es us->Ra T μ H (ds++es) (vs++us)
 |[],es,vs,us,h,a=>by rw[Ra]at h;subst h;simpa using a
 |d::ds,es,vs,us,h,a=>by
  rw[Ra]at h;obtain⟨v,r,rfl,b,c⟩:=h;exact Ra.cons b (Ra.append c a)
theorem Ra.set{T:Tb}{μ:List Addr}{H:Hp}{d:D}{v:V}(hd:Rep T μ H d v):∀ {ds:List D} {vs:List V} (i:Nat),Ra T μ H ds vs->Ra T μ H (ds.set i d) (vs.set i v)
 |[],vs,i,h=>by rw[Ra]at h;subst h;simpa using Ra.nil
 |x::ds,vs,0,h=>by
  rw[Ra]at h;obtain⟨w,r,rfl,b,a⟩:=h;exact Ra.cons hd a
 |x::ds,vs,i+1,h=>by
  rw[Ra]at h;obtain⟨w,r,rfl,b,a⟩:=h;exact Ra.cons b (Ra.set hd i a)
theorem Ra.drop{T:Tb}{μ:List Addr}{H:Hp}:∀ {ds:List D} {vs:List V} (n:Nat),Ra T μ H ds vs->Ra T μ H (ds.drop n) (vs.drop n)
 |ds,vs,0,h=>by simpa using h
 |[],vs,n+1,h=>by rw[Ra]at h;subst h;simpa using Ra.nil
 |x::ds,vs,n+1,h=>by
  rw[Ra]at h;obtain⟨w,r,rfl,b,a⟩:=h;simpa using Ra.drop n a
theorem Ra.take{T:Tb}{μ:List Addr}{H:Hp}:∀ {ds:List D} {vs:List V} (n:Nat),Ra T μ H ds vs->Ra T μ H (ds.take n) (vs.take n)
 |ds,vs,0,h=>by simpa using Ra.nil
 |[],vs,n+1,h=>by rw[Ra]at h;subst h;simpa using Ra.nil
 |x::ds,vs,n+1,h=>by
  rw[Ra]at h;obtain⟨w,r,rfl,a,b⟩:=h;exact Ra.cons a (Ra.take n b)
noncomputable def zr(T:Tb)(μ:List Addr)(H:Hp):List (qa × D)->List (qa × V)->Prop:=Paired λp q=>p.1=q.1/\Rep T μ H p.2 q.2
noncomputable def yf(T:Tb)(μ:List Addr)(H:Hp):List (Key × D)->List (Key × V)->Prop:=Paired λp q=>p.1=q.1/\Rep T μ H p.2 q.2
noncomputable def Dn(T:Tb)(μ:List Addr)(H:Hp)(a:Addr):Ob->Prop
 | .lst ds=>∃ b,H a=some (.lst b)/\Ra T μ H ds b
 | .va d=>∃ b,H a=some (.dK b)/\yf T μ H d b
 | .ins c fs=>∃ e b,H a=some (.ins (T.ca c) e b)/\zr T μ H fs b
 | .lb d=>∃ g b,H a=some (.rb g (.dK b))/\yf T μ H d b
 | .og f=>∃ b,H a=some (.dT b)/\b.map (·.1)=f
structure Rel(T:Tb)(μ:List Addr)(H:Hp)(σ:db):Prop where
 len:μ.length=σ.length
 nd:μ.Nodup
 obs:∀ (n:Nat) (o:Ob),σ[n]?=some o->∃ a,μ[n]?=some a/\Dn T μ H a o
 tb:Dq T μ H
noncomputable def eh(T:Tb)(μ:List Addr)(H:Hp)(ρ:Ev)(a:St):Prop:=ρ.length=a.length/\∀ (i:Nat) (d:D),ρ[i]?=some (some d)->∃ v,a[i]?=some (some v)/\Rep T μ H d v
theorem eh.mono{T:Tb}{μ μ':List Addr}{H a:Hp}{ρ:Ev}{st:St}(e:Ext μ H μ' a)(h:eh T μ H ρ st):eh T μ' a ρ st:=
 ⟨h.1,λi d q=>let ⟨v,b,c⟩:=h.2 i d q;⟨v,b,Rep.mono e d v c⟩⟩
theorem eh.set{T:Tb}{μ:List Addr}{H:Hp}{ρ:Ev}{b:St}{d:D}{v:V}(h:eh T μ H ρ b)(i:Nat)(r:Rep T μ H d v):eh T μ H (ρ.set i (some d)) (b.set i (some v)):=by
 refine⟨by simpa using h.1,λj x q=>?_⟩;rw[Xc]at q;by_cases a:i=j
 ·subst a;rw[da rfl]at q;split at q
  ·rename_i f
   cases q;exact⟨v,by rw[Xc,da rfl,da (by rw[<-h.1];exact f)],r⟩
  ·cases q
 ·rw[ga a]at q;obtain⟨w,c,e⟩:=h.2 j x q;exact⟨w,by rw[Xc,ga a];exact c,e⟩
noncomputable def JT(e:Addr)(cls a0:Value)(h:Heap):Prop:=∃ b a,h.get? e=some b/\b.cls=cls/\b.data=.fields a/\1<a.size/\a[0]?=some a0/\a[1]?=some .none
noncomputable def mr(B:Heap)(l:List Cg)(e:Addr)(cls a0:Value)(h:Heap):Prop:=B.StaysIn h/\B.get? e=none/\h.FunFrames B l/\((∃ a,h.TracedAtW B e cls a0 a)\/JT e cls a0 h)
noncomputable def m3(o:Obj)(n:Nat):Prop:=∃ a b t,o.data=.dict a b/\StrKeys a/\nsFind a "pot" = some (.int n t)
noncomputable def wA(f:Option Nat)(e:Addr)(B h h0:Heap)(d:Hp):Prop:=∀ n,f=some n->∃ a b c,h.get? e=some c/\c.dict=some a/\B.get? a=some b/\m3 b n/\d a=none/\h0.get? a=none
structure Mx(P:ra)(w:Ia)(outer:List Cg)(H:Hp)(s:Shared)(cls:Value)(fd:Option Nat)(H':Hp)(e:Value)(s':Shared):Prop where
 ex:∃ (ea:Addr) (a0:Value) (B:Heap),e=.ref ea/\mr B outer ea cls a0 s'.heap/\H' ea=none/\s.heap.get? ea=none/\
  (∀ b o,H' b=some o->∃ ob,B.get? b=some ob)/\(∀ b o,s.heap.get? b=some o->H b=none->b ∉ yi outer->B.get? b=some o)/\(∀ b o,s.heap.get? b=some o->b ∉ yi outer->∃ o',B.get? b=some o')/\wA fd ea B s'.heap s.heap H'
 os:s'.os=s.os
 bare:mh s'.gens
 un:Un (yi outer) [] H H' s.heap s'.heap
 Pb:Hh P w H' s'.heap
noncomputable def Qk(P:ra)(w:Ia):xr:=λouter H s E e c=>∃ cls b a,Mx P w outer H s cls b a e c/\E cls b a
structure Ly(X:Cx)(st:St)(cls:Value)(fd:Option Nat)(H':Hp):Prop where
 xB:∀ (pins:List (Addr × Obj)) (H:Hp) (s:Shared) (e:Value) (s':Shared),Inv X pins st H s->Mx X.prog X.w X.stack H s cls fd H' e s'->X.xe e s'
noncomputable abbrev XE(X:Cx)(c:St):XK:=λcls b a=>Ly X c cls b a
noncomputable def Cb{d e:Type}(T:Tb)(E:XK)(R:List Addr->Hp->d->e->Prop)(μ:List Addr)(H:Hp)(o:Out d)(Q:e->Hp->Prop):Prop:=match o with
 | .ok a σ=>∀ b g c,Ext μ H b c->Rel T b c σ->R b c a g->Q g c
 | .ex x σ=>∀ b c,Ext μ H b c->Rel T b c σ->E (T.cv x) (fA x.cls) c
 | .bad=>False
theorem Cb.mono{j k:Type}{T:Tb}{E:XK}{R:List Addr->Hp->j->k->Prop}{μ c:List Addr}{H i:Hp}{o:Out j}{Q:k->Hp->Prop}(e:Ext μ H c i)(h:Cb T E R μ H o Q):Cb T E R c i o Q:=by
 cases o with
 |ok a σ=>exact λb g d f r q=>h b g d (e.trans f) r q
 |ex x σ=>exact λb d f r=>h b d (e.trans f) r
 |bad=>exact h
theorem Cb.imp{d e:Type}{T:Tb}{E:XK}{R:List Addr->Hp->d->e->Prop}{μ:List Addr}{H:Hp}{o:Out d}{Q Q':e->Hp->Prop}(h:Cb T E R μ H o Q)(k:∀ g b,Q g b->Q' g b):Cb T E R μ H o Q':=by
 cases o with
 |ok a σ=>exact λc g b f r q=>k _ _ (h c g b f r q)
 |ex x σ=>exact h
 |bad=>exact h
theorem Cb.bind{i o p s:Type}{T:Tb}{E:XK}{R:List Addr->Hp->i->p->Prop}{l:List Addr->Hp->o->s->Prop}{μ:List Addr}{H:Hp}{m:M i}{k:i->M o}{σ:db}{Q:s->Hp->Prop}{Q1:p->Hp->Prop}
  (h:Cb T E l μ H (Fc m k σ) Q) (f:∀ a b c g d,m σ=.ok a b->Ext μ H c d->Rel T c d b->R c d a g->Cb T E l c d (k a b) Q->Q1 g d):Cb T E R μ H (m σ) Q1:=by
 unfold Fc at h;cases e:m σ with
 |ok a b=>
  rw[e]at h;exact λj g t n r q=>f a b j g t e n r q (h.mono n)
 |ex x b=>rw[e]at h;exact h
 |bad=>rw[e]at h;exact h
theorem Cb.here{T:Tb}{E:XK}{b a:Type}{R:List Addr->Hp->b->a->Prop}{μ:List Addr}{H:Hp}{d:b}{σ:db}{g:a}{Q:a->Hp->Prop}(h:Cb T E R μ H (.ok d σ) Q)(r:Rel T μ H σ)(p:R μ H d g):Q g H:=h μ g H (Ext.refl _ _) r p
section
variable(T:Tb)(X:Cx)
noncomputable def tF(f:Ev->M D):TE:=λb H Q=>∃ a c d,eh T a H c b/\Rel T a H d/\Cb T (XE X b) (Rep T) a H (f c d) Q
noncomputable def wH:List Addr->Hp->Bool->Bool->Prop:=λ_ _ a b=>b=a
noncomputable def tT(f:Ev->M Bool):TT:=λb H Q=>∃ a c d,eh T a H c b/\Rel T a H d/\Cb T (XE X b) wH a H (f c d) Q
noncomputable def tL(f:Ev->M (List D)):TA:=λb H Q=>∃ a c d,eh T a H c b/\Rel T a H d/\Cb T (XE X b) (Ra T) a H (f c d) Q
inductive ul where
 |nx (st:St)|rt (v:V)|bk (st:St)|ct (st:St)|xc (st:St) (cls:Value) (fd:Option Nat)
noncomputable def Vm(T:Tb)(μ:List Addr)(H:Hp):Fl->ul->Prop
 | .nx a,.nx st=>eh T μ H a st
 | .rt d,.rt v=>Rep T μ H d v
 | .bk a,.bk st=>eh T μ H a st
 | .ct a,.ct st=>eh T μ H a st
 | .xc a x,.xc st cls fd=>eh T μ H a st/\cls=T.cv x/\fd=fA x.cls
 |_,_=>False
noncomputable def Nl(X:Cx)(D:Ends):ul->Hp->Prop
 | .nx st,H=>D.nx st H
 | .rt v,H=>D.rt v H
 | .bk st,H=>D.bk st H
 | .ct st,H=>D.ct st H
 | .xc st cls fd,H=>Ly X st cls fd H
noncomputable abbrev EN:XK:=λ_ _ _=>False
noncomputable def tS(g:Ev->M Fl):TS:=λD d H=>∃ a b c,eh T a H b d/\Rel T a H c/\Cb T EN (Vm T) a H (g b c) (Nl X D)
end
noncomputable def xs{c:Type}(ρ:Ev)(m:M c)(k:c->M Fl):M Fl:=λd=>match m d with
 | .ok a b=>k a b
 | .ex x b=>.ok (.xc ρ x) b
 | .bad=>.bad
theorem Cb.xs{o p:Type}{T:Tb}{X:Cx}{D:Ends}{R:List Addr->Hp->o->p->Prop}{μ:List Addr}{H:Hp}{ρ:Ev}{n:St}{m:M o}{k:o->M Fl}{σ:db}{Q1:p->Hp->Prop}(s:eh T μ H ρ n)
  (h:Cb T EN (Vm T) μ H (L4.xs ρ m k σ) (Nl X D)) (f:∀ a b c g i,m σ=.ok a b->Ext μ H c i->Rel T c i b->R c i a g->Cb T EN (Vm T) c i (k a b) (Nl X D)->Q1 g i):Cb T (XE X n) R μ H (m σ) Q1:=by
 unfold L4.xs at h;cases e:m σ with
 |ok a b=>
  rw[e]at h;exact λd g l j r q=>f a b d g l e j r q (h.mono j)
 |ex x b=>
  rw[e]at h;intro d l j r;exact h d (.xc n (T.cv x) (fA x.cls)) l j r ⟨s.mono j,rfl,rfl⟩
 |bad=>rw[e]at h;exact h
noncomputable abbrev FE(T:Tb)(X:Cx)(e:Ea)(f:Ev->M D):Prop:=PE X e (tF T X f)
noncomputable abbrev FT(T:Tb)(X:Cx)(e:Ea)(f:Ev->M Bool):Prop:=PT X e (tT T X f)
noncomputable abbrev FW(T:Tb)(X:Cx)(e:Ea)(f:Ev->M Bool):Prop:=PW X e (tT T X f)
noncomputable abbrev FA(T:Tb)(X:Cx)(es:List Ea)(f:Ev->M (List D)):Prop:=PA X es (tL T X f)
noncomputable abbrev FS(T:Tb)(X:Cx)(a:Stmt)(g:Ev->M Fl):Prop:=PS X a (tS T X g)
noncomputable abbrev Qo(T:Tb)(X:Cx)(a:List Stmt)(g:Ev->M Fl):Prop:=Nq X a (tS T X g)
end L4
namespace L4
open PySem PySem.Spec PyProof.Rows L2
noncomputable def Ch:Nat:=1000
theorem Vw{n:Nat}(h:n<=Ch):n<=sizeLine:=Qc (aI h)
theorem QV{n:Nat}(h:n<Ch):n<sizeLine:=aI (Qc h)
theorem ZB{g:Type}{l:List g}(h:l.Nodup){i j:Nat}{a:g}(k:l[i]?=some a)(m:l[j]?=some a):i=j:=by
 obtain⟨c,d⟩:=ka.mp k;obtain⟨e,f⟩:=ka.mp m;have b:=Vn.mp h;rcases wu i j with z|z|z
 ·exact absurd (d.trans f.symm) (b i j c e z)
 ·exact z
 ·exact absurd (f.trans d.symm) (b j i e c z)
section
variable{T:Tb}{μ μ':List Addr}{H H':Hp}{σ:db}
theorem nE{a:Type}(e:Ext μ H μ' H'){xs:List (a × D)}{ys:List (a × V)}(h:Paired (λ(p:a × D) (q:a × V)=>p.1=q.1/\Rep T μ H p.2 q.2) xs ys) :
  Paired (λ(p:a × D) (q:a × V)=>p.1=q.1/\Rep T μ' H' p.2 q.2) xs ys:=L2.Paired.nq h λp q z=>⟨z.1,Rep.mono e _ _ z.2⟩
theorem Dn.mono(e:Ext μ H μ' H'){a:Addr}(d:H' a=H a):∀ {o:Ob},Dn T μ H a o->Dn T μ' H' a o
 | .lst ds,⟨b,h,r⟩=>⟨b,d.trans h,Ra.mono e _ _ r⟩
 | .va f,⟨b,h,r⟩=>⟨b,d.trans h,nE e r⟩
 | .ins c fs,⟨g,b,h,r⟩=>⟨g,b,d.trans h,nE e r⟩
 | .lb f,⟨i,b,h,r⟩=>⟨i,b,d.trans h,nE e r⟩
 | .og j,⟨b,h,r⟩=>⟨b,d.trans h,r⟩
theorem Dn.some{a:Addr}:∀ {o:Ob},Dn T μ H a o->∃ u,H a=Option.some u/\(∀ xs,u≠.tup xs)
 | .lst ds,⟨b,h,r⟩=>⟨_,h,(λ_ z=>by cases z)⟩
 | .va d,⟨b,h,r⟩=>⟨_,h,(λ_ z=>by cases z)⟩
 | .ins c fs,⟨e,b,h,r⟩=>⟨_,h,(λ_ z=>by cases z)⟩
 | .lb d,⟨g,b,h,r⟩=>⟨_,h,(λ_ z=>by cases z)⟩
 | .og f,⟨b,h,r⟩=>⟨_,h,(λ_ z=>by cases z)⟩
theorem Dn.Vz{a:Addr}:∀ {o:Ob},(∀ kvs,o≠.lb kvs)->Dn T μ H a o->∃ u,H a=Option.some u/\(∀ xs,u≠.tup xs)/\(∀ ob w,u≠.rb ob w)
 | .lst ds,_,⟨b,h,r⟩=>⟨_,h,(λ_ z=>by cases z),(λ_ _ z=>by cases z)⟩
 | .va kvs,_,⟨b,h,r⟩=>⟨_,h,(λ_ z=>by cases z),(λ_ _ z=>by cases z)⟩
 | .ins c fs,_,⟨d,b,h,r⟩=>⟨_,h,(λ_ z=>by cases z),(λ_ _ z=>by cases z)⟩
 | .lb kvs,n,_=>absurd rfl (n kvs)
 | .og e,_,⟨b,h,r⟩=>⟨_,h,(λ_ z=>by cases z),(λ_ _ z=>by cases z)⟩
theorem Rel.keep(r:Rel T μ H σ)(e:Ext μ H μ H')(k:∀ a∈μ,H' a=H a)(t:Dq T μ H'):Rel T μ H' σ:=
 ⟨r.len,r.nd,λn o h=>let ⟨a,b,c⟩:=r.obs n o h;⟨a,b,c.mono e (k a (Ga b))⟩,t⟩
theorem Rel.mem(r:Rel T μ H σ){a:Addr}(h:a∈μ):∃ u,H a=some u/\(∀ xs,u≠.tup xs):=by
 obtain⟨n,hn⟩:=Qq h;have d:n<σ.length:=by rw[<-r.len];exact(ka.mp hn).1
 obtain⟨e,b,c⟩:=r.obs n σ[n] (by simp[d]);rw[hn]at b;cases b;exact c.some
theorem Lj{p:Addr}{o:HO}(a:H p=none):Ext μ H μ (upd H p o):=
 ⟨⟨[],by simp⟩,λq xs h=>by rw[we (bn h a)];exact h,λq b u h=>by rw[we (bn h a)];exact h,λq b h n=>⟨⟨b,by rw[we (bn h a)];exact h,.inl rfl⟩,n⟩⟩
theorem Rel.fresh(r:Rel T μ H σ){p:Addr}{o:HO}(c:H p=none):Rel T μ (upd H p o) σ:=
 r.keep (Lj c) (λa d=>by obtain⟨u,h,_⟩:=r.mem d;rw[we (bn h c)]) (r.tb.grow λb u h=>by rw[we (bn h c)];exact h)
theorem Lu{p:Addr}{o:HO}(a:H p=none):Ext μ H (μ++[p]) (upd H p o):=
 ⟨⟨[p],rfl⟩,(Lj (μ:=μ) a).tup,(Lj (μ:=μ) a).rb,λq b h n=>⟨((Lj (μ:=μ) a).keep q b h n).1,λz=>(Pd.mp z).elim n λz=>bn h a (by simpa using z)⟩⟩
theorem Rel.push(r:Rel T μ H σ){p:Addr}{o:HO}{ob:Ob}(c:H p=none)(l:Dn T (μ++[p]) (upd H p o) p ob):Rel T (μ++[p]) (upd H p o) (σ++[ob]):=by
 refine⟨by simp[r.len],?_,λn x h=>?_,(r.tb.more c).grow λb u h=>by rw[we (bn h c)];exact h⟩
 ·rw[Zj];refine⟨r.nd,by simp,λa k b hb e=>?_⟩;have g:b=p:=by simpa using hb
  subst g;subst e;obtain⟨u,h,_⟩:=r.mem k;rw[c]at h;cases h
 ·by_cases hn:n<σ.length
  ·rw[Ua hn]at h;obtain⟨a,j,d⟩:=r.obs n x h;obtain⟨u,m,_⟩:=d.some;exact⟨a,by rw[Ua (by rw[r.len];exact hn)];exact j,d.mono (Lu c) (we (bn m c))⟩
  ·rw[Cd (by omega)]at h;have f:n - σ.length=0:=by
    have:=(ka.mp h).1;simp at this;omega
   rw[f]at h;simp at h;subst h;have i:n=μ.length:=by rw[r.len];omega
   subst i;exact⟨p,by simp,l⟩
theorem MA{p:Addr}{o:HO}(r:Rel T μ H σ):Rep T (μ++[p]) (upd H p o) (.ref σ.length) (.ref p):=by
 rw[Rep];exact⟨p,rfl,by rw[<-r.len];simp⟩
theorem Pr{a:Addr}{u o:HO}(hm:a∈μ)(b:H a=some u)(c:∀ xs,u≠.tup xs)(d:∀ ob w,u≠.rb ob w):Ext μ H μ (upd H a o):=
 ⟨⟨[],by simp⟩,λq xs h=>by rw[we (TF h b (λz=>c xs z.symm))];exact h,λq ob w h=>by rw[we (TF h b (λz=>d ob w z.symm))];exact h,λq ob h n=>⟨⟨ob,by rw[we (λz=>n (by rw[z];exact hm))];exact h,.inl rfl⟩,n⟩⟩
theorem Rel.write(r:Rel T μ H σ){n:Nat}{a:Addr}{o:HO}{ob:Ob}(hn:μ[n]?=some a)(j:Dn T μ (upd H a o) a ob)(l:∀ kvs,σ[n]?≠some (.lb kvs):=by intro kvs z;simp_all [Hi]):Ext μ H μ (upd H a o)/\Rel T μ (upd H a o) (σ.set n ob):=by
 obtain⟨u,k,c,d⟩:∃ u,H a=some u/\(∀ xs,u≠.tup xs)/\(∀ ob w,u≠.rb ob w):=by
  have g:n<σ.length:=by rw[<-r.len];exact(ka.mp hn).1
  obtain⟨p,c,d⟩:=r.obs n σ[n] (by simp[g]);rw[hn]at c;cases c;exact d.Vz λkvs z=>l kvs (by rw[jb g,z])
 have e:Ext μ H μ (upd H a o):=Pr (Ga hn) k c d;refine⟨e,by simp[r.len],r.nd,λm x h=>?_,r.tb.out (λb hb=>we hb) (.inl (Ga hn))⟩;rw[Xc]at h;by_cases hm:n=m
 ·subst hm;rw[da rfl]at h;split at h
  ·cases h;exact⟨a,hn,j⟩
  ·cases h
 ·rw[ga hm]at h;obtain⟨b,f,i⟩:=r.obs m x h;refine⟨b,f,i.mono e (we λz=>hm ?_)⟩;subst z;exact ZB r.nd hn f
theorem Rel.at(r:Rel T μ H σ){n:Nat}{v:V}{o:Ob}(h:Rep T μ H (.ref n) v)(e:σ[n]?=some o):∃ a,v=.ref a/\μ[n]?=some a/\Dn T μ H a o:=by
 rw[Rep]at h;obtain⟨a,rfl,c⟩:=h;obtain⟨f,b,d⟩:=r.obs n o e;rw[c]at b;cases b;exact⟨a,rfl,c,d⟩
end
noncomputable def ya(i:Nat):Ev->M D:=λa b=>match a[i]? with
 |some (some d)=>.ok d b
 |_=>.bad
noncomputable def eC(d:D):Ev->M D:=λ_=>ret d
noncomputable def SG(o:D->D->M D)(m:M D)(x:D):M D:=Fc m (o x)
noncomputable def Xb(o:D->D->M D)(a b:Ev->M D):Ev->M D:=λc=>Fc (a c) (SG o (b c))
noncomputable def Xd(o:D->M D)(a:Ev->M D):Ev->M D:=λb=>Fc (a b) o
noncomputable def Iy(d:D):M Bool:=match d with
 | .bl b=>ret b
 |_=>bad
noncomputable def Yi{α:Type}(p q:M α)(c:Bool):M α:=if c=true then p else q
noncomputable def HF(c:Bool):M Bool:=ret (!c)
noncomputable def Yv{α:Type}(k:Bool->M α)(d:D):M α:=Fc (Iy d) k
noncomputable def eT(f:Ev->M D):Ev->M Bool:=λa=>Fc (f a) Iy
noncomputable def Wu(a b:Ev->M Bool):Ev->M Bool:=λc=>Fc (a c) (Yi (b c) (ret false))
noncomputable def Qx(a b:Ev->M Bool):Ev->M Bool:=λc=>Fc (a c) (Yi (ret true) (b c))
noncomputable def br(a:Ev->M Bool):Ev->M Bool:=λb=>Fc (a b) HF
noncomputable def km(a b:Ev->M D):Ev->M D:=λc=>Fc (a c) (Yv (Yi (b c) (ret (.bl false))))
noncomputable def qD(a b:Ev->M D):Ev->M D:=λc=>Fc (a c) (Yv (Yi (ret (.bl true)) (b c)))
noncomputable def QG(c:Bool):M D:=ret (.bl (!c))
noncomputable def DG(a:Ev->M D):Ev->M D:=λb=>Fc (a b) (Yv QG)
noncomputable def wy(t:Ev->M Bool)(a b:Ev->M D):Ev->M D:=λc=>Fc (t c) (Yi (a c) (b c))
noncomputable def Ab:Ev->M (List D):=λ_=>ret []
noncomputable def BF(x:D)(xs:List D):M (List D):=ret (x::xs)
noncomputable def jH(m:M (List D))(x:D):M (List D):=Fc m (BF x)
noncomputable def ib(e:Ev->M D)(r:Ev->M (List D)):Ev->M (List D):=λa=>Fc (e a) (jH (r a))
noncomputable def Bv(ds:List D):M D:=if ds.length<=Ch then ret (.tup ds)else bad
noncomputable def qr(a:Ev->M (List D)):Ev->M D:=λb=>Fc (a b) Bv
noncomputable def Xw(ds:List D):M D:=λa=>.ok (.ref a.length) (a++[.lst ds])
noncomputable def gA(ds:List D):M D:=if ds.length<=Ch then Xw ds else bad
noncomputable def tw(a:Ev->M (List D)):Ev->M D:=λb=>Fc (a b) gA
noncomputable def WA(ds:List D):M D:=if ds.length<=Ch then ret (.lst ds)else bad
noncomputable def fq(a:Ev->M (List D)):Ev->M D:=λb=>Fc (a b) WA
noncomputable def gk(T:Tb)(r:R2)(o:D->D->M D):Prop:=∀ (E:XK) a H b x y v u Q,Rel T a H b->Rep T a H x v->Rep T a H y u->Cb T E (Rep T) a H (o x y b) Q->r v u H Q
noncomputable def tr(T:Tb)(r:List V->Hp->VK->Prop)(o:List D->M D):Prop:=∀ (E:XK) a H c xs b Q,Rel T a H c->Ra T a H xs b->Cb T E (Rep T) a H (o xs c) Q->r b H Q
section
variable{T:Tb}{X:Cx}{a b c:Ea}{fa fb:Ev->M D}{ta tb:Ev->M Bool}{pos:se}
theorem Fa(i:Nat){x:qa}(hN:X.N[i]?=some x:=by rfl)(l:cG X.env.scope x:=by first|exact Or.inl rfl|exact Or.inr (Or.inl rfl)|exact Or.inr (Or.inr rfl))(hd:(x == ("__debug__" : qa))=false:=by decide)
  (c:(x == ("__classdict__" : qa))=false:=by decide):FE T X (.Name x pos) (ya i):=by
 intro b s m H Q I h;obtain⟨p,n,q,j,k,a⟩:=h;refine D1 hN l hd c b s m H Q I ?_;unfold ya at a;cases e:n[i]? with
 |none=>rw[e]at a;exact a.elim
 |some o=>
  cases o with
  |none=>rw[e]at a;exact a.elim
  |some d=>
   rw[e]at a;obtain⟨v,f,g⟩:=j.2 i d e;exact⟨v,f,a.here k g⟩
theorem Xx{e:Ea}{v:V}{d:D}(h:PE X e (tC v))(r:∀ μ H,Rep T μ H d v):FE T X e (eC d):=by
 intro a s g H Q I c;obtain⟨μ,j,k,i,f,b⟩:=c;exact h a s g H Q I (Cb.here b f (r _ _))
theorem Mc{i:Int}{j}:FE T X (.Constant (.int i) j pos) (eC (.int i)):=Xx y2 λ_ _=>by rw[Rep]
theorem mq{i:Bool}{j}:FE T X (.Constant (.bool i) j pos) (eC (.bl i)):=Xx lU λ_ _=>by rw[Rep]
theorem dt{j}:FE T X (.Constant .none j pos) (eC .Hb):=Xx dR λ_ _=>by rw[Rep]
theorem Rs{i:qa}{j}:FE T X (.Constant (.str i) j pos) (eC (.str i)):=Xx wV λ_ _=>by rw[Rep]
theorem Ss{x:qa}{u:Value}{i:Int}(a:Gl X x)(hm:X.mg x=some u)(r:Zc (.int i) u)(hd:(x == ("__debug__" : qa))=false:=by decide):FE T X (.Name x pos) (eC (.int i)):=Xx (OO a hm r hd) λ_ _=>by rw[Rep]
theorem two{r:R2}{o:D->D->M D}(hs:gk T r o){f:St}{H:Hp}{Q:VK}(h:tF T X (Xb o fa fb) f H Q):Oz r (tF T X fa) (tF T X fb) f H Q:=by
 obtain⟨w,g,z,e,l,k⟩:=h;exact⟨w,g,z,e,l,k.bind λx c a v A _ e1 s m p=>⟨a,g,c,e.mono e1,s,p.bind λy d b u i _ j t n q=>hs _ b i d x y v u Q t (Rep.mono j _ _ m) n q⟩⟩
theorem jl{op:nv}{r:R2}{o:D->D->M D}(e:Oh X (ef op) r)(hs:gk T r o)(d:FE T X a fa)(hb:FE T X b fb):FE T X (.BinOp a op b pos) (Xb o fa fb):=
 λc s f H Q I h=>RX e d hb c s f H Q I (two hs h)
theorem Wr{op:Jo}{r:R2}{o:D->D->M D}(e:Oh X (Rb op) r)(hs:gk T r o)(d:FE T X a fa)(hb:FE T X b fb)(hm:ue op b=false):FE T X (.Compare a [op] [b] pos) (Xb o fa fb):=
 λc s f H Q I h=>sZ e d hb hm c s f H Q I (two hs h)
theorem qi{r:R2}{o:D->D->M D}(e:Uu X r)(hs:gk T r o)(d:FE T X a fa)(hb:FE T X b fb)(f:gL b):FE T X (.Subscript a b pos) (Xb o fa fb):=
 λc s g H Q I h=>y3 e d hb f c s g H Q I (two hs h)
theorem fC{E:XK}{d:D}{σ:db}{μ:List Addr}{H:Hp}{v:V}{b e:Type}{a:List Addr->Hp->b->e->Prop}{k:Bool->M b}{Q:e->Hp->Prop}(r:Rep T μ H d v)(h:Cb T E a μ H (Fc (Iy d) k σ) Q):∃ c,d=.bl c/\v=.bl c/\Cb T E a μ H (k c σ) Q:=by
 cases d with
 |bl c=>rw[Rep]at r;exact⟨c,rfl,r,h⟩
 |_=>exact h.elim
theorem rP{E:XK}{d:D}{σ:db}{μ:List Addr}{H:Hp}{v:V}{Q:Bool->Hp->Prop}(r:Rep T μ H d v)(h:Cb T E wH μ H (Iy d σ) Q):∃ c,v=.bl c/\Cb T E wH μ H (.ok c σ) Q:=by
 cases d with
 |bl c=>rw[Rep]at r;exact⟨c,r,h⟩
 |_=>exact h.elim
theorem Oi{op:Jo}{r:R2}{o:D->D->M D}(i:Oh X (Rb op) r)(hs:gk T r o)(f:FE T X a fa)(hb:FE T X b fb)(hm:ue op b=false):FT T X (.Compare a [op] [b] pos) (eT (Xb o fa fb)):=by
 intro c s t H Q I h;refine kW i f hb hm c s t H Q I ?_;refine two (o:=o) hs ?_;obtain⟨u,x,y,g,l,j⟩:=h;refine⟨u,x,y,g,l,j.bind λd z w v A _ e1 p m n=>?_⟩;obtain⟨k,e,q⟩:=rP m n;exact⟨k,e,q.here p rfl⟩
theorem Ur{e:Ea}{f:Ev->M D}(h:FE T X e f)(i:∀ a,Gx e X.env a=(do let v <-a;ak e.pos;Ce [v] (truthy v)):=by intro _;rfl):FT T X e (eT f):=by
 intro b s r H Q I m;refine bR h i b s r H Q I ?_;obtain⟨t,w,x,g,l,j⟩:=m;refine⟨t,w,x,g,l,j.bind λd y u v z _ e1 p n o=>?_⟩;obtain⟨k,c,q⟩:=rP n o;exact⟨k,c,q.here p rfl⟩
theorem tt(h:FT T X a ta):FT T X (.UnaryOp .Not a pos) (br ta):=by
 intro b s l H Q I g;refine aZ h b s l H Q I ?_;obtain⟨m,o,p,d,f,e⟩:=g;exact⟨m,o,p,d,f,e.bind λc q n v r _ e1 k i j=>by cases i;exact j.here k rfl⟩
variable{Jh:List Ea}
theorem nz(h:FT T X a ta):FW T X (.BoolOp .And [a] pos) ta:=pQ h
theorem XC(h:FT T X a ta):FW T X (.BoolOp .Or [a] pos) ta:=LU h
theorem uz(h:FT T X a ta)(hb:FW T X (.BoolOp .And (b::Jh) pos) tb):FW T X (.BoolOp .And (a::b::Jh) pos) (Wu ta tb):=by
 intro q e s p H Q I n;refine P1 h hb q e s p H Q I ?_;obtain⟨r,k,t,i,m,l⟩:=n;refine⟨r,k,t,i,m,l.bind λc g f v u _ e1 j o d=>?_⟩;cases o;cases c with
 |true=>unfold Yi at d;rw[da rfl]at d ⊢;exact⟨f,k,g,i.mono e1,j,d⟩
 |false=>unfold Yi at d;rw[ga Wa]at d ⊢;exact d.here j rfl
theorem MB(h:FT T X a ta)(hb:FW T X (.BoolOp .Or (b::Jh) pos) tb):FW T X (.BoolOp .Or (a::b::Jh) pos) (Qx ta tb):=by
 intro q e s p H Q I n;refine nV h hb q e s p H Q I ?_;obtain⟨r,k,t,i,m,l⟩:=n;refine⟨r,k,t,i,m,l.bind λc g f v u _ e1 j o d=>?_⟩;cases o;cases c with
 |true=>unfold Yi at d;rw[da rfl]at d ⊢;exact d.here j rfl
 |false=>unfold Yi at d;rw[ga Wa]at d ⊢;exact⟨f,k,g,i.mono e1,j,d⟩
theorem Hu{op}(h:FE T X a fa):FE T X (.BoolOp op [a] pos) fa:=QR h
theorem Pn(h:FE T X a fa)(hb:FE T X (.BoolOp .And (b::Jh) pos) fb):FE T X (.BoolOp .And (a::b::Jh) pos) (km fa fb):=by
 intro e s t H Q I o;refine XV h hb e s t H Q I ?_;obtain⟨u,k,w,i,n,m⟩:=o;refine⟨u,k,w,i,n,m.bind λd g f v x _ e1 j p r=>?_⟩;obtain⟨c,rfl,l,q⟩:=fC p r;refine⟨c,l,?_⟩;cases c with
 |true=>unfold Yi at q;rw[da rfl]at q ⊢;exact⟨f,k,g,i.mono e1,j,q⟩
 |false=>unfold Yi at q;rw[ga Wa]at q ⊢;exact Cb.here q j (by rw[Rep])
theorem dL(h:FE T X a fa)(hb:FE T X (.BoolOp .Or (b::Jh) pos) fb):FE T X (.BoolOp .Or (a::b::Jh) pos) (qD fa fb):=by
 intro e s t H Q I o;refine xT h hb e s t H Q I ?_;obtain⟨u,k,w,i,n,m⟩:=o;refine⟨u,k,w,i,n,m.bind λd g f v x _ e1 j p r=>?_⟩;obtain⟨c,rfl,l,q⟩:=fC p r;refine⟨c,l,?_⟩;cases c with
 |true=>unfold Yi at q;rw[da rfl]at q ⊢;exact Cb.here q j (by rw[Rep])
 |false=>unfold Yi at q;rw[ga Wa]at q ⊢;exact⟨f,k,g,i.mono e1,j,q⟩
theorem wZ(h:FE T X a fa):FE T X (.UnaryOp .Not a pos) (DG fa):=by
 intro b s n H Q I j;refine Y0 h b s n H Q I ?_;obtain⟨o,r,t,f,i,g⟩:=j;refine⟨o,r,t,f,i,g.bind λd u p v w _ e1 m k l=>?_⟩;obtain⟨c,rfl,e,q⟩:=fC k l;exact⟨c,e,Cb.here q m (by rw[Rep])⟩
theorem NE(m:FT T X c ta)(l:FE T X a fa)(hb:FE T X b fb):FE T X (.IfExp c a b pos) (wy ta fa fb):=by
 intro f s r H Q I p;refine BU m l hb f s r H Q I ?_;obtain⟨t,j,u,i,o,n⟩:=p;refine⟨t,j,u,i,o,n.bind λd h g v w _ e1 k q e=>?_⟩;cases q;cases d with
 |true=>unfold Yi at e;rw[da rfl]at e ⊢;exact⟨g,j,h,i.mono e1,k,e⟩
 |false=>unfold Yi at e;rw[ga Wa]at e ⊢;exact⟨g,j,h,i.mono e1,k,e⟩
variable{e:Ea}{es:List Ea}{fe:Ev->M D}{fs:Ev->M (List D)}
theorem Bc:FA T X [] Ab:=by
 intro pos a s e H Q I d;refine zv pos a s e H Q I ?_;obtain⟨g,h,i,f,c,b⟩:=d;exact Cb.here b c Ra.nil
theorem ub(j:FE T X e fe)(b:FA T X es fs)(hs:na (e::es) X.env=(false,Gb e X.env)::na es X.env:=by rfl):FA T X (e::es) (ib fe fs):=by
 intro pos a s t H Q I l;refine eu j b hs pos a s t H Q I ?_;obtain⟨u,h,x,g,b,k⟩:=l;exact⟨u,h,x,g,b,k.bind λd f c v z _ e1 q m o=>⟨c,h,f,g.mono e1,q,o.bind λB y w C A _ i r n p=>Cb.here p r (Ra.cons (Rep.mono i _ _ m) n)⟩⟩
theorem CF{E:XK}{μ:List Addr}{H:Hp}{σ:db}{ds:List D}{vs:List V}{Q:VK}{p:Addr}(h:Cb T E (Rep T) μ H (.ok (.tup ds) σ) Q)(r:Rel T μ H σ)(q:Ra T μ H ds vs)(a:H p=none):Q (.ref p) (upd H p (.tup vs)):=
 h μ (.ref p) _ (Lj a) (r.fresh a) (by rw[Rep];exact⟨p,vs,rfl,fg,Ra.mono (Lj a) _ _ q⟩)
theorem Jx{E:XK}{μ:List Addr}{H:Hp}{σ:db}{ds:List D}{vs:List V}{Q:VK}{p:Addr}(h:Cb T E (Rep T) μ H (Xw ds σ) Q)(r:Rel T μ H σ)(q:Ra T μ H ds vs)(a:H p=none):Q (.ref p) (upd H p (.lst vs)):=
 h (μ++[p]) (.ref p) _ (Lu a) (r.push a ⟨vs,fg,Ra.mono (Lu a) _ _ q⟩) (MA r)
theorem ot{x1}(h:FA T X es fs):FE T X (.Tuple es x1 pos) (qr fs):=by
 intro a s l H Q I j;refine u1 h a s l H Q I ?_;obtain⟨m,o,q,g,i,d⟩:=j;refine⟨m,o,q,g,i,d.bind λf r n u t _ e1 k e b=>?_⟩;unfold Bv at b;by_cases c:f.length<=Ch
 ·rw[da c]at b;exact⟨by rw[<-e.length];exact Vw c,λp d=>CF b k e d⟩
 ·rw[ga c]at b;exact b.elim
theorem GA(h:FA T X es fs):FE T X (.List es pos) (tw fs):=by
 intro a s l H Q I j;refine wK h a s l H Q I ?_;obtain⟨m,o,q,g,i,d⟩:=j;refine⟨m,o,q,g,i,d.bind λf r n u t _ e1 k e b=>?_⟩;unfold gA at b;by_cases c:f.length<=Ch
 ·rw[da c]at b;exact⟨by rw[<-e.length];exact Vw c,λp d=>Jx b k e d⟩
 ·rw[ga c]at b;exact b.elim
theorem HB{E:XK}{μ:List Addr}{H:Hp}{σ:db}{ds:List D}{vs:List V}{Q:VK}{p:Addr}(h:Cb T E (Rep T) μ H (.ok (.lst ds) σ) Q)(r:Rel T μ H σ)(q:Ra T μ H ds vs)(a:H p=none):Q (.ref p) (upd H p (.lst vs)):=
 h μ (.ref p) _ (Lj a) (r.fresh a) (by rw[Rep];exact⟨p,vs,rfl,λhm=>(by obtain⟨u,b,_⟩:=r.mem hm;rw[a]at b;cases b),fg,Ra.mono (Lj a) _ _ q⟩)
theorem Ar(h:FA T X es fs):FE T X (.List es pos) (fq fs):=by
 intro a s l H Q I j;refine wK h a s l H Q I ?_;obtain⟨m,o,q,g,i,d⟩:=j;refine⟨m,o,q,g,i,d.bind λf r n u t _ e1 k e b=>?_⟩;unfold WA at b;by_cases c:f.length<=Ch
 ·rw[da c]at b;exact⟨by rw[<-e.length];exact Vw c,λp d=>HB b k e d⟩
 ·rw[ga c]at b;exact b.elim
end
noncomputable def oI(g:Int->Int->Int):D->D->M D
 | .int i,.int j=>ret (.int (g i j))
 |_,_=>bad
noncomputable def oB(g:Int->Int->Bool):D->D->M D
 | .int i,.int j=>ret (.bl (g i j))
 |_,_=>bad
noncomputable def ow(C:Int->Int->Bool)(g:Int->Int->Int):D->D->M D
 | .int i,.int j=>if C i j=true then ret (.int (g i j))else bad
 |_,_=>bad
noncomputable def UF(_ j:Int):Bool:=hide (decide (0<j) && decide (j<1073741824))
noncomputable def FF(_ j:Int):Bool:=hide (decide (0<j))
noncomputable def cy(i j:Int):Bool:=hide (decide (0<=j) && decide (j<=1000000) && decide (i.natAbs<2 ^ 64))
noncomputable abbrev LA:=oI (λi j=>i - j)
noncomputable abbrev gx:=ow UF (λi j=>i / j)
noncomputable abbrev Rt:=ow FF (λi j=>i % j)
noncomputable abbrev mz:=ow cy (λi j=>i ^ j.toNat)
noncomputable abbrev oLt:=oB (λi j=>decide (i<j))
noncomputable abbrev oLe:=oB (λi j=>decide (i<=j))
noncomputable abbrev xC:=oB (λi j=>decide (j<i))
noncomputable abbrev QC:=oB (λi j=>decide (j<=i))
noncomputable def rD(T:Tb)(o:D->D->M D):R2:=λv u H Q=>∃ (E:XK) (a:List Addr) (σ:db) (x y:D),Rel T a H σ/\Rep T a H x v/\Rep T a H y u/\Cb T E (Rep T) a H (o x y σ) Q
theorem Sk{T:Tb}{o:D->D->M D}:gk T (rD T o) o:=λE a H b x y v u Q r p q h=>⟨E,a,b,x,y,r,p,q,h⟩
section
variable{T:Tb}{X:Cx}
theorem oo{μ:List Addr}{H:Hp}{i:Int}{v:V}(h:Rep T μ H (.int i) v):v=.int i:=by simpa [Rep]using h
theorem fS{g:Int->Int->Int}:gk T (gq λi j=>.int (g i j)) (oI g):=by
 intro E a H b x y v u Q r p q h;cases x with
 |int i=>
  cases y with
  |int j=>exact⟨i,j,oo p,oo q,Cb.here h r (by rw[Rep])⟩
  |_=>exact h.elim
 |_=>exact h.elim
theorem NC{g:Int->Int->Bool}:gk T (gq λi j=>.bl (g i j)) (oB g):=by
 intro E a H b x y v u Q r p q h;cases x with
 |int i=>
  cases y with
  |int j=>exact⟨i,j,oo p,oo q,Cb.here h r (by rw[Rep])⟩
  |_=>exact h.elim
 |_=>exact h.elim
theorem oP{C:Int->Int->Bool}{b:Int->Int->Prop}{g:Int->Int->Int}(d:∀ i j,C i j=true->b i j):gk T (rI b λi j=>.int (g i j)) (ow C g):=by
 intro E f H k x y v u Q r p q h;cases x with
 |int i=>
  cases y with
  |int j=>
   by_cases a:C i j=true
   ·have c:Cb T E (Rep T) f H (ret (.int (g i j)) k) Q:=by
     have e:ow C g (.int i) (.int j)=ret (.int (g i j)):=by show (if C i j=true then _ else _)=_;rw[da a]
     rw[e]at h;exact h
    exact⟨i,j,oo p,oo q,d i j a,Cb.here c r (by rw[Rep])⟩
   ·have e:ow C g (.int i) (.int j)=bad:=by show (if C i j=true then _ else _)=_;rw[ga a]
    rw[e]at h;exact h.elim
  |_=>exact h.elim
 |_=>exact h.elim
theorem cC:gk T (gq λi j=>.int (i - j)) LA:=fS
theorem jz:gk T (rI vM λi j=>.int (i / j)) gx:=oP λi j h=>by
 simp only[UF,Jk,Ma,nc]at h;exact h
theorem bw:gk T (rI (λ_ j=>0<j) λi j=>.int (i % j)) Rt:=oP λi j h=>by
 simp only[FF,Jk,nc]at h;exact h
theorem pH:gk T (gq λi j=>.bl (decide (i<j))) oLt:=NC
theorem ZJ:gk T (gq λi j=>.bl (decide (i<=j))) oLe:=NC
theorem YE:gk T (gq λi j=>.bl (decide (j<i))) xC:=NC
theorem YG:gk T (gq λi j=>.bl (decide (j<=i))) QC:=NC
end
noncomputable def sc:D->Option V
 | .Hb=>some .Hb
 | .bl b=>some (.bl b)
 | .int i=>some (.int i)
 | .str x=>some (.str x)
 |_=>none
noncomputable def Hi(σ:db)(n:Nat):Option (List D):=match σ[n]? with
 |some (.lst xs)=>some xs
 |_=>none
theorem iW{σ:db}{n:Nat}{xs:List D}(h:Hi σ n=some xs):σ[n]?=some (.lst xs):=by
 unfold Hi at h;cases e:σ[n]? with
 |none=>rw[e]at h;cases h
 |some o=>rw[e]at h;cases o<;>simp at h;subst h;rfl
inductive Kd where
 |s (v:V)|t (xs:List D)|l (xs:List D)|o
noncomputable def kd(σ:db):D->Kd
 | .Hb=>.s .Hb
 | .bl b=>.s (.bl b)
 | .int i=>.s (.int i)
 | .str x=>.s (.str x)
 | .tup xs=>.t xs
 | .lst xs=>.l xs
 | .ref n=>match Hi σ n with
  |some xs=>.l xs
  |none=>.o
 |_=>.o
noncomputable def Gq(f:D->D->Option Bool):List D->List D->Option Bool
 |[],[]=>some true
 |[],_::_=>some false
 |_::_,[]=>some false
 |x::xs,y::a=>match f x y,Gq f xs a with
  |some b,some c=>some (b && c)
  |_,_=>none
noncomputable def Tu(f:D->D->Option Bool):Kd->Kd->Option Bool
 | .s a,.s b=>some (um a b)
 | .t xs,.t c=>Gq f xs c
 | .l xs,.l c=>Gq f xs c
 | .s _,.t _=>some false
 | .t _,.s _=>some false
 | .s _,.l _=>some false
 | .l _,.s _=>some false
 | .t _,.l _=>some false
 | .l _,.t _=>some false
 |_,_=>none
noncomputable def Vp(σ:db):Nat->D->D->Option Bool
 |0,x,y=>Tu (λ_ _=>none) (kd σ x) (kd σ y)
 |n+1,x,y=>Tu (Vp σ n) (kd σ x) (kd σ y)
noncomputable def ur(f:D->D->Option Bool)(xs ys:List D)(j:Nat):Bool:=match xs[j]?,ys[j]? with
 |some a,some b=>(f a b).getD false
 |_,_=>false
theorem VI(f:D->D->Option Bool):∀ (xs ys:List D) (b:Bool),Gq f xs ys=some b->
  (∀ (j:Nat) (a c:D),xs[j]?=some a->ys[j]?=some c->∃ k,f a c=some k)/\b=((List.range (min xs.length ys.length)).all (ur f xs ys) && xs.length == ys.length)
 |[],[],b,h=>by simp[Gq]at h;subst h;simp
 |[],y::ys,b,h=>by simp[Gq]at h;subst h;simp
 |x::xs,[],b,h=>by simp[Gq]at h;subst h;simp
 |x::xs,y::ys,b,h=>by
  unfold Gq at h;cases e1:f x y with
  |none=>rw[e1]at h;cases h
  |some b1=>
   cases d:Gq f xs ys with
   |none=>rw[e1,d]at h;cases h
   |some i=>
    rw[e1,d]at h;cases h;obtain⟨q,r⟩:=VI f xs ys i d;refine⟨λj a c e g=>?_,?_⟩
    ·cases j with
     |zero=>simp at e g;subst e;subst g;exact⟨b1,e1⟩
     |succ j=>exact q j a c (by simpa using e) (by simpa using g)
    ·have l:min (x::xs).length (y::ys).length=min xs.length ys.length+1:=by simp[Nat.succ_min_succ]
     have m:∀ j,ur f (x::xs) (y::ys) (j+1)=ur f xs ys j:=λj=>by simp[ur]
     have n:ur f (x::xs) (y::ys) 0=b1:=by simp[ur,e1]
     rw[l,Np,lf,Qy,n,r];have o:(ur f (x::xs) (y::ys) ∘ Nat.succ)=ur f xs ys:=funext λj=>m j;have p:((x::xs).length == (y::ys).length)=(xs.length == ys.length):=by simp
     rw[o,p,Bool.and_assoc]
section
variable{T:Tb}{μ:List Addr}{H:Hp}{σ:db}
theorem Rel.lst(r:Rel T μ H σ){n:Nat}{v:V}{xs:List D}(h:Rep T μ H (.ref n) v)(e:Hi σ n=some xs):∃ a vs,v=.ref a/\μ[n]?=some a/\H a=some (.lst vs)/\Ra T μ H xs vs:=by
 obtain⟨a,rfl,b,vs,c,d⟩:=r.at h (iW e);exact⟨a,vs,rfl,b,c,d⟩
theorem AD{d:D}{v a:V}(h:Rep T μ H d v)(e:sc d=some a):v=a:=by
 cases d<;>simp[sc]at e<;>subst e<;>simpa [Rep]using h
theorem eI{d:D}{a:V}(e:sc d=some a):ii a=true:=by
 cases d<;>simp[sc]at e<;>subst e<;>rfl
theorem yV{a:V}(h:ii a=true):um a a=true:=by cases a<;>simp[ii,um]at h ⊢
theorem wv(r:Rel T μ H σ){d:D}{v:V}(h:Rep T μ H d v):match kd σ d with
  | .s a=>v=a/\ii a=true
  | .t xs=>∃ p c,v=.ref p/\H p=some (.tup c)/\Ra T μ H xs c
  | .l xs=>∃ p c,v=.ref p/\H p=some (.lst c)/\Ra T μ H xs c
  | .o=>True:=by
 cases d with
 |Hb=>exact⟨by simpa [Rep]using h,rfl⟩
 |bl b=>exact⟨by simpa [Rep]using h,rfl⟩
 |int b=>exact⟨by simpa [Rep]using h,rfl⟩
 |str b=>exact⟨by simpa [Rep]using h,rfl⟩
 |tup xs=>rw[Rep]at h;exact h
 |lst xs=>rw[Rep]at h;obtain⟨a,c,f,_,g,i⟩:=h;exact⟨a,c,f,g,i⟩
 |ref n=>
  unfold kd;dsimp only;cases e:Hi σ n with
  |none=>trivial
  |some xs=>obtain⟨a,c,f,_,g,i⟩:=r.lst h e;exact⟨a,c,f,g,i⟩
 |_=>trivial
theorem OE{f:D->D->Option Bool}(e:∀ (x y:D) (v:V) (b:Bool),Rep T μ H x v->Rep T μ H y v->f x y=some b->b=true):∀ (xs ys:List D) (vs:List V) (b:Bool),Ra T μ H xs vs->Ra T μ H ys vs->Gq f xs ys=some b->b=true
 |[],ys,vs,b,c,a,h=>by
  rw[Ra]at c;subst c;cases ys with
  |nil=>simp[Gq]at h;exact h
  |cons y ys=>rw[Ra]at a;obtain⟨_,_,z,_⟩:=a;cases z
 |x::xs,ys,vs,b,c,a,h=>by
  rw[Ra]at c;obtain⟨v,r,rfl,j,l⟩:=c;cases ys with
  |nil=>rw[Ra]at a;cases a
  |cons y ys=>
   rw[Ra]at a;obtain⟨o,n,z,k,m⟩:=a;cases z;unfold Gq at h;cases e1:f x y with
   |none=>rw[e1]at h;cases h
   |some g=>
    cases d:Gq f xs ys with
    |none=>rw[e1,d]at h;cases h
    |some i=>
     rw[e1,d]at h;cases h;rw[e x y v g j k e1,OE e xs ys r i l m d];rfl
theorem vG(r:Rel T μ H σ){f:D->D->Option Bool}(B:∀ (x y:D) (v:V) (b:Bool),Rep T μ H x v->Rep T μ H y v->f x y=some b->b=true){x y:D}{v:V}{b:Bool}(C:Rep T μ H x v)(E:Rep T μ H y v)(h:Tu f (kd σ x) (kd σ y)=some b):b=true:=by
 have u:=wv r C;have g:=wv r E;generalize kd σ x=F at h u;generalize kd σ y=w at h g;cases F with
 |s a=>
  obtain⟨rfl,i⟩:=u;cases w with
  |s c=>obtain⟨rfl,_⟩:=g;cases h;exact yV i
  |t xs=>obtain⟨p,m,rfl,_⟩:=g;simp[ii]at i
  |l xs=>obtain⟨p,m,rfl,_⟩:=g;simp[ii]at i
  |o=>cases h
 |t xs=>
  obtain⟨p,m,rfl,j,z⟩:=u;cases w with
  |s c=>obtain⟨e,i⟩:=g;rw[<-e]at i;simp[ii]at i
  |t n=>
   obtain⟨q,A,e,d,k⟩:=g;cases e;rw[j]at d;cases d;exact OE B xs n m b z k h
  |l n=>obtain⟨q,A,e,d,k⟩:=g;cases e;rw[j]at d;cases d
  |o=>cases h
 |l xs=>
  obtain⟨p,m,rfl,j,z⟩:=u;cases w with
  |s c=>obtain⟨e,i⟩:=g;rw[<-e]at i;simp[ii]at i
  |t n=>obtain⟨q,A,e,d,k⟩:=g;cases e;rw[j]at d;cases d
  |l n=>
   obtain⟨q,A,e,d,k⟩:=g;cases e;rw[j]at d;cases d;exact OE B xs n m b z k h
  |o=>cases h
 |o=>cases h
theorem RL(r:Rel T μ H σ):∀ (n:Nat) (x y:D) (v:V) (b:Bool),Rep T μ H x v->Rep T μ H y v->Vp σ n x y=some b->b=true
 |0,x,y,v,b,a,c,h=>vG r (λ_ _ _ _ _ _ z=>by cases z) a c h
 |n+1,x,y,v,b,a,c,h=>vG r (λx y v b d e f=>RL r n x y v b d e f) a c h
end
section
variable{T:Tb}{X:Cx}{pins:List (Addr × Obj)}{st:St}{μ:List Addr}{H:Hp}{s:Shared}{σ:db}
theorem HC{A:Ja}{a:V}{u:Value}{p:Addr}{its:Array Value}(e:ii a=true)(r:Zc a u)(c:s.heap.IsTuple p its)(d:A.units<cLine):Wd A s u (.ref p) false/\Wd A s (.ref p) u false/\Lh A s u (.ref p) false/\Lh A s (.ref p) u false/\Lg A s u (.ref p) true/\Lg A s (.ref p) u true:=by
 cases a with
 |Hb=>cases r;exact⟨.none_tuple c d,.tuple_none c d,.none_tuple c d,.tuple_none c d,.none_tuple c d,.tuple_none c d⟩
 |bl b=>cases r;exact⟨.bool_tuple b c d,.tuple_bool b c d,.bool_tuple b c d,.tuple_bool b c d,.bool_tuple b c d,.tuple_bool b c d⟩
 |int b=>obtain⟨t,rfl⟩:=r;exact⟨.int_tuple b t c d,.tuple_int b t c d,.int_tuple b t c d,.tuple_int b t c d,.int_tuple b t c d,.tuple_int b t c d⟩
 |str b=>obtain⟨t,rfl⟩:=r;exact⟨.str_tuple b t c d,.tuple_str b t c d,.str_tuple b t c d,.tuple_str b t c d,.str_tuple b t c d,.tuple_str b t c d⟩
 |_=>simp[ii]at e
theorem kP{A:Ja}{a:V}{u:Value}{p:Addr}{its:Array Value}(e:ii a=true)(r:Zc a u)(c:s.heap.IsList p its)(d:A.units<cLine):Lh A s u (.ref p) false/\Lh A s (.ref p) u false/\Lg A s u (.ref p) true/\Lg A s (.ref p) u true:=by
 cases a with
 |Hb=>cases r;exact⟨.none_list c d,.list_none c d,.none_list c d,.list_none c d⟩
 |bl b=>cases r;exact⟨.bool_list b c d,.list_bool b c d,.bool_list b c d,.list_bool b c d⟩
 |int b=>obtain⟨t,rfl⟩:=r;exact⟨.int_list b t c d,.list_int b t c d,.int_list b t c d,.list_int b t c d⟩
 |str b=>obtain⟨t,rfl⟩:=r;exact⟨.str_list b t c d,.list_str b t c d,.str_list b t c d,.list_str b t c d⟩
 |_=>simp[ii]at e
theorem U1{A:Ja}{a:V}{u:Value}{p:Addr}{its:Array Value}(e:ii a=true)(r:Zc a u)(c:s.heap.IsList p its)(d:A.units<cLine):Wd A s u (.ref p) false:=by
 cases a with
 |Hb=>cases r;exact .none_list c d
 |bl b=>cases r;exact .bool_list b c d
 |int b=>obtain⟨t,rfl⟩:=r;exact .int_list b t c d
 |str b=>obtain⟨t,rfl⟩:=r;exact .str_list b t c d
 |_=>simp[ii]at e
theorem V1{A:Ja}{a:V}{u:Value}{p:Addr}{its:Array Value}(e:ii a=true)(r:Zc a u)(c:s.heap.IsList p its)(d:A.units<cLine):Wd A s (.ref p) u false:=by
 cases a with
 |Hb=>cases r;exact .list_none c d
 |bl b=>cases r;exact .list_bool b c d
 |int b=>obtain⟨t,rfl⟩:=r;exact .list_int b t c d
 |str b=>obtain⟨t,rfl⟩:=r;exact .list_str b t c d
 |_=>simp[ii]at e
theorem BQ{A:Ja}{a b:V}{u w:Value}(f:Zc a u)(d:Zc b w)(g:ii a=true)(e:ii b=true):Lh A s u w (um a b)/\Lg A s u w (!um a b):=by
 cases a with
 |Hb=>
  cases f;cases b with
  |Hb=>cases d;exact⟨.none_none,.none_none⟩
  |bl y=>cases d;exact⟨.none_bool y,.none_bool y⟩
  |int y=>obtain⟨t,rfl⟩:=d;exact⟨.none_int y t,.none_int y t⟩
  |str y=>obtain⟨t,rfl⟩:=d;exact⟨.none_str y t,.none_str y t⟩
  |_=>simp[ii]at e
 |bl x=>
  cases f;cases b with
  |Hb=>cases d;exact⟨.bool_none x,.bool_none x⟩
  |bl y=>cases d;exact⟨.bool_bool x y,.bool_bool x y⟩
  |int y=>obtain⟨t,rfl⟩:=d;exact⟨.bool_int x y t,.bool_int x y t⟩
  |str y=>obtain⟨t,rfl⟩:=d;exact⟨.bool_str x y t,.bool_str x y t⟩
  |_=>simp[ii]at e
 |int x=>
  obtain⟨c,rfl⟩:=f;cases b with
  |Hb=>cases d;exact⟨.int_none x c,.int_none x c⟩
  |bl y=>cases d;exact⟨.int_bool x c y,.int_bool x c y⟩
  |int y=>obtain⟨t,rfl⟩:=d;exact⟨.int_int x c y t,.int_int x c y t⟩
  |str y=>obtain⟨t,rfl⟩:=d;exact⟨.int_str x c y t,.int_str x c y t⟩
  |_=>simp[ii]at e
 |str x=>
  obtain⟨c,rfl⟩:=f;cases b with
  |Hb=>cases d;exact⟨.str_none x c,.str_none x c⟩
  |bl y=>cases d;exact⟨.str_bool x c y,.str_bool x c y⟩
  |int y=>obtain⟨t,rfl⟩:=d;exact⟨.str_int x c y t,.str_int x c y t⟩
  |str y=>obtain⟨t,rfl⟩:=d;exact⟨.str_str x c y t,.str_str x c y t⟩
  |_=>simp[ii]at e
 |_=>simp[ii]at g
theorem kL{xs:List V}{us:List Value}{i:Nat}{u:Value}(r:zd xs us)(h:us[i]?=some u):∃ x,xs[i]?=some x/\Zc x u:=by
 have d:=r.length;have c:=(ka.mp h).1;obtain⟨e,a,b⟩:=r.get (i:=i) (x:=xs[i]'(by omega)) (by simp);rw[h]at a;cases a;exact⟨_,by simp,b⟩
theorem YK{ds:List D}{vs:List V}{i:Nat}{v:V}(r:Ra T μ H ds vs)(h:vs[i]?=some v):∃ d,ds[i]?=some d/\Rep T μ H d v:=by
 have e:=r.length;have c:=(ka.mp h).1;obtain⟨f,a,b⟩:=r.get (i:=i) (d:=ds[i]'(by omega)) (by simp);rw[h]at a;cases a;exact⟨_,by simp,b⟩
theorem GL{A:Ja}{f:D->D->Option Bool}(C:∀ (x y:D) (v w:V) (r t:Value) (b:Bool),Rep T μ H x v->Rep T μ H y w->Zc v r->Zc w t->f x y=some b->Wd A s r t b)
  {xs ys:List D} {vs ws:List V} {us a:List Value} {b:Bool} (p:Ra T μ H xs vs) (q:Ra T μ H ys ws) (n:zd vs us) (o:zd ws a) (h:Gq f xs ys=some b) :
  (∀ j (l:j<us.toArray.size) (m:j<a.toArray.size),Wd A s us.toArray[j] a.toArray[j] (ur f xs ys j))/\b=((List.range (min us.toArray.size a.toArray.size)).all (ur f xs ys) && us.toArray.size == a.toArray.size):=by
 obtain⟨l,m⟩:=VI f xs ys b h;have E:=p.length;have F:=q.length;have G:=n.length;have I:=o.length;refine⟨λj L g2=>?_,?_⟩
 ·obtain⟨v,e1,K⟩:=kL (i:=j) (u:=us.toArray[j]) n (by simp);obtain⟨w,z,c⟩:=kL (i:=j) (u:=a.toArray[j]) o (by simp);obtain⟨x,d,J⟩:=YK p e1;obtain⟨y,e,p4⟩:=YK q z;obtain⟨k,g⟩:=l j x y d e;have B:ur f xs ys j=k:=by simp[ur,d,e,g]
  rw[B];exact C x y v w _ _ k J p4 K c g
 ·simp only[xa];rw[m,E,F,G,I]
noncomputable abbrev TL(A:Ja)(s:Shared)(v w:Value)(b:Bool):Prop:=Lh A s v w b/\Lg A s v w (!b)
theorem aF{A:Ja}(I:Inv X pins st H s)(r:Rel T μ H σ)(hu:A.units+1<cLine){f:D->D->Option Bool}
  (hf:∀ (x y:D) (v w:V) (P Q:Value) (b:Bool),Rep T μ H x v->Rep T μ H y w->Zc v P->Zc w Q->f x y=some b->Wd A.in1 s P Q b)
  {x y:D} {v w:V} {P Q:Value} {b:Bool} (hx:Rep T μ H x v) (hy:Rep T μ H y w) (O:Zc v P) (d:Zc w Q) (h:Tu f (kd σ x) (kd σ y)=some b):TL A s P Q b:=by
 have g:A.units<cLine:=by omega
 have S:=wv r hx;have m:=wv r hy;generalize kd σ x=k1 at h S;generalize kd σ y=Y at h m;cases k1 with
 |o=>cases h
 |s a=>
  obtain⟨rfl,U⟩:=S;cases Y with
  |o=>cases h
  |s c=>obtain⟨rfl,L⟩:=m;cases h;exact BQ O d U L
  |t C=>
   obtain⟨q,R,rfl,j,z⟩:=m;cases h;cases d;obtain⟨k,_,u,_⟩:=L2.Inv.tuple I (ph.of (K:=X.K) j);obtain⟨_,_,E,F,G,J⟩:=HC U O u g;exact⟨E,G⟩
  |l C=>
   obtain⟨q,R,rfl,j,z⟩:=m;cases h;cases d;obtain⟨k,_,pl,_⟩:=L2.Inv.list I (zf.of (K:=X.K) j);obtain⟨E,F,G,J⟩:=kP U O pl.isList g;exact⟨E,G⟩
 |t xs=>
  obtain⟨p,vs,rfl,W,r1⟩:=S;cases O;obtain⟨k,Z,N,_⟩:=L2.Inv.tuple I (ph.of (K:=X.K) W);cases Y with
  |o=>cases h
  |s c=>
   obtain⟨rfl,L⟩:=m;cases h;obtain⟨_,_,E,F,G,J⟩:=HC L d N g;exact⟨F,J⟩
  |t C=>
   obtain⟨q,R,rfl,j,z⟩:=m;cases d;obtain⟨i,q2,u,_⟩:=L2.Inv.tuple I (ph.of (K:=X.K) j);obtain⟨M,g2⟩:=GL (A:=A.in1) hf r1 z Z q2 h;rw[g2];exact⟨.tuples N u (by omega) M,.tuples N u (by omega) M⟩
  |l C=>
   obtain⟨q,R,rfl,j,z⟩:=m;cases h;cases d;obtain⟨i,_,pl,_⟩:=L2.Inv.list I (zf.of (K:=X.K) j);exact⟨.tuple_list N pl.isList g,.tuple_list N pl.isList g⟩
 |l xs=>
  obtain⟨p,vs,rfl,W,r1⟩:=S;cases O;obtain⟨k,Z,pl,_⟩:=L2.Inv.list I (zf.of (K:=X.K) W);cases Y with
  |o=>cases h
  |s c=>
   obtain⟨rfl,L⟩:=m;cases h;obtain⟨E,F,G,J⟩:=kP L d pl.isList g;exact⟨F,J⟩
  |t C=>
   obtain⟨q,R,rfl,j,z⟩:=m;cases h;cases d;obtain⟨i,_,u,_⟩:=L2.Inv.tuple I (ph.of (K:=X.K) j);exact⟨.list_tuple pl.isList u g,.list_tuple pl.isList u g⟩
  |l C=>
   obtain⟨q,R,rfl,j,z⟩:=m;cases d;obtain⟨i,q2,n,_⟩:=L2.Inv.list I (zf.of (K:=X.K) j);obtain⟨M,g2⟩:=GL (A:=A.in1) hf r1 z Z q2 h;by_cases B:k.toArray.size=i.toArray.size
   ·have e:b=(List.range k.toArray.size).all (ur f xs C):=by rw[g2,<-B];simp
    rw[e];exact⟨.lists pl.isList n.isList B (by omega) M,.lists pl.isList n.isList B (by omega) M⟩
   ·have e:b=false:=by rw[g2,kc.mpr B,ew]
    rw[e];exact⟨.lists_lengths pl.isList n.isList (by simpa using B) (by omega),.lists_lengths pl.isList n.isList (by simpa using B) (by omega)⟩
theorem gO{A:Ja}(I:Inv X pins st H s)(r:Rel T μ H σ)(W:A.units+1<cLine){f:D->D->Option Bool}
  (R:∀ (x y:D) (v w:V) (F G:Value) (b:Bool),Rep T μ H x v->Rep T μ H y w->Zc v F->Zc w G->f x y=some b->Wd A.in1 s F G b)
  (hs:∀ (x y:D) (v:V) (b:Bool),Rep T μ H x v->Rep T μ H y v->f x y=some b->b=true)
  {x y:D} {v w:V} {F G:Value} {b:Bool} (J:Rep T μ H x v) (L:Rep T μ H y w) (n:Zc v F) (d:Zc w G) (h:Tu f (kd σ x) (kd σ y)=some b):Wd A s F G b:=by
 have k:A.units<cLine:=by omega
 have M:=(aF I r W R J L n d h).1;by_cases i:v=w
 ·subst i;have hb:=vG r hs J L h;have m:=wv r J;have g:=wv r L;generalize kd σ x=P at h m;generalize kd σ y=E at h g;cases P with
  |o=>cases h
  |s a=>
   obtain⟨rfl,j⟩:=m;cases E with
   |o=>cases h
   |s c=>obtain⟨rfl,u⟩:=g;cases h;exact oE n d j u
   |t C=>obtain⟨q,B,e,_⟩:=g;rw[e]at j;simp[ii]at j
   |l C=>obtain⟨q,B,e,_⟩:=g;rw[e]at j;simp[ii]at j
  |t xs=>
   obtain⟨p,Q,rfl,_⟩:=m;cases n;cases d;rw[hb];exact yj _
  |l xs=>
   obtain⟨p,Q,rfl,_⟩:=m;cases n;cases d;rw[hb];exact yj _
 ·have m:=wv r J;have g:=wv r L;generalize kd σ x=P at h m;generalize kd σ y=E at h g;cases P with
  |o=>cases h
  |s a=>
   obtain⟨rfl,j⟩:=m;cases E with
   |o=>cases h
   |s c=>obtain⟨rfl,u⟩:=g;cases h;exact oE n d j u
   |t C=>
    obtain⟨q,B,rfl,O,Z⟩:=g;cases h;cases d;obtain⟨z,_,U,_⟩:=L2.Inv.tuple I (ph.of (K:=X.K) O);exact(HC j n U k).1
   |l C=>
    obtain⟨q,B,rfl,O,Z⟩:=g;cases h;cases d;obtain⟨z,_,pl,_⟩:=L2.Inv.list I (zf.of (K:=X.K) O);exact U1 j n pl.isList k
  |t xs=>
   obtain⟨p,Q,rfl,N,Y⟩:=m;cases n;cases E with
   |o=>cases h
   |s c=>
    obtain⟨rfl,u⟩:=g;cases h;obtain⟨z,_,S,_⟩:=L2.Inv.tuple I (ph.of (K:=X.K) N);exact(HC u d S k).2.1
   |t C=>obtain⟨q,B,rfl,_⟩:=g;cases d;exact .of_refs (λe=>i (by rw[e])) M
   |l C=>obtain⟨q,B,rfl,_⟩:=g;cases d;exact .of_refs (λe=>i (by rw[e])) M
  |l xs=>
   obtain⟨p,Q,rfl,N,Y⟩:=m;cases n;cases E with
   |o=>cases h
   |s c=>
    obtain⟨rfl,u⟩:=g;cases h;obtain⟨z,_,pl,_⟩:=L2.Inv.list I (zf.of (K:=X.K) N);exact V1 u d pl.isList k
   |t C=>obtain⟨q,B,rfl,_⟩:=g;cases d;exact .of_refs (λe=>i (by rw[e])) M
   |l C=>obtain⟨q,B,rfl,_⟩:=g;cases d;exact .of_refs (λe=>i (by rw[e])) M
theorem uK(I:Inv X pins st H s)(r:Rel T μ H σ):∀ (n:Nat) (A:Ja) (x y:D) (v w:V) (c d:Value) (b:Bool),A.units+n+1<cLine->Rep T μ H x v->Rep T μ H y w->Zc v c->Zc w d->Vp σ n x y=some b->Wd A s c d b
 |0,A,x,y,v,w,c,d,b,o,i,j,k,a,h=>gO I r (by omega) (λ_ _ _ _ _ _ _ _ _ _ _ z=>by cases z) (λ_ _ _ _ _ _ z=>by cases z) i j k a h
 |n+1,A,x,y,v,w,c,d,b,o,i,j,k,a,h=>gO I r (by omega) (λx y v w c d b e f g l m=>uK I r n A.in1 x y v w c d b (by show A.units+1+n+1<cLine;omega) e f g l m) (λx y v b e f g=>RL r n x y v b e f g) i j k a h
theorem WM{A:Ja}(I:Inv X pins st H s)(r:Rel T μ H σ)(n:Nat)(o:A.units+n+1<cLine){x y:D}{v w:V}{c d:Value}{b:Bool}(e:Rep T μ H x v)(f:Rep T μ H y w)(g:Zc v c)(a:Zc w d)(h:Vp σ n x y=some b):TL A s c d b:=by
 cases n with
 |zero=>exact aF I r (by omega) (λ_ _ _ _ _ _ _ _ _ _ _ z=>by cases z) e f g a h
 |succ n=>exact aF I r (by omega) (λx y v w c d b i j k l m=>uK I r n A.in1 x y v w c d b (by show A.units+1+n+1<cLine;omega) i j k l m) e f g a h
end
section
variable{T:Tb}{X:Cx}{pins:List (Addr × Obj)}{st:St}{μ:List Addr}{H:Hp}{s:Shared}{σ:db}
noncomputable def oEq(x y:D):M D:=λσ=>match Vp σ 8 x y with
 |some b=>.ok (.bl b) σ
 |none=>.bad
noncomputable def iq(x y:D):M D:=λσ=>match Vp σ 8 x y with
 |some b=>.ok (.bl (!b)) σ
 |none=>.bad
theorem js(i:X.A.units+9<cLine):Oh X (Rb .Eq) (rD T oEq):=by
 intro pins s st H v u k j Q I g f h;obtain⟨E,μ,σ,x,y,r,c,d,a⟩:=h;unfold oEq at a;cases e:Vp σ 8 x y with
 |none=>rw[e]at a;exact a.elim
 |some b=>
  rw[e]at a;have:=(WM I r 8 (by omega) c d g f e).1 X.prog X.w X.xe (EP X pins st Q) ⟨.bl b,H,I,rfl,Cb.here a r (by rw[Rep])⟩;exact this
theorem ky(i:X.A.units+9<cLine):Oh X (Rb .NotEq) (rD T iq):=by
 intro pins s st H v u k j Q I g f h;obtain⟨E,μ,σ,x,y,r,c,d,a⟩:=h;unfold iq at a;cases e:Vp σ 8 x y with
 |none=>rw[e]at a;exact a.elim
 |some b=>
  rw[e]at a;have:=(WM I r 8 (by omega) c d g f e).2 X.prog X.w X.xe (EP X pins st Q) ⟨.bl (!b),H,I,rfl,Cb.here a r (by rw[Rep])⟩;exact this
noncomputable def Zr(x y:D):M D:=λσ=>match y with
 | .Hb=>(match x with
  | .Hb=>.ok (.bl true) σ
  |_=>.ok (.bl false) σ)
 |_=>.bad
noncomputable def mw(x y:D):M D:=λσ=>match y with
 | .Hb=>(match x with
  | .Hb=>.ok (.bl false) σ
  |_=>.ok (.bl true) σ)
 |_=>.bad
theorem ZM{x:D}{v:V}(h:Rep T μ H x v):decide (v=.Hb)=(match x with | .Hb=>true|_=>false):=by
 cases x with
 |Hb=>rw[Rep]at h;subst h;rfl
 |tup ds=>rw[Rep]at h;obtain⟨p,_,rfl,_⟩:=h;simp
 |Pi ds=>rw[Rep]at h;obtain⟨p,rfl,_⟩:=h;simp
 |ref ds=>rw[Rep]at h;obtain⟨p,rfl,_⟩:=h;simp
 |lst ds=>rw[Rep]at h;obtain⟨p,_,rfl,_⟩:=h;simp
 |va a ds=>rw[Rep]at h;obtain⟨p,_,rfl,_⟩:=h;simp
 |obj c a ds=>rw[Rep]at h;obtain⟨p,_,_,rfl,_⟩:=h;simp
 |Vt c=>rw[Rep]at h;obtain⟨p,_,rfl,_⟩:=h;simp
 |gt ds=>rw[Rep]at h;obtain⟨p,rfl,_⟩:=h;simp
 |_=>rw[Rep]at h;subst h;simp
theorem Fy:gk T (λx y H Q=>y=.Hb/\Q (.bl (decide (x=.Hb))) H) Zr:=by
 intro E μ H σ x y v u Q r p q h;cases y with
 |Hb=>
  refine⟨by rw[Rep]at q;exact q,?_⟩;rw[ZM p];cases x<;>exact Cb.here h r (by rw[Rep])
 |_=>exact h.elim
theorem LF:gk T (λx y H Q=>y=.Hb/\Q (.bl (!decide (x=.Hb))) H) mw:=by
 intro E μ H σ x y v u Q r p q h;cases y with
 |Hb=>
  refine⟨by rw[Rep]at q;exact q,?_⟩;rw[ZM p];cases x<;>exact Cb.here h r (by rw[Rep]<;>rfl)
 |_=>exact h.elim
theorem uT{ds:List D}{vs:List V}{k:Int}{d:D}(r:Ra T μ H ds vs)(h:Yl ds k=some d):∃ v,Yl vs k=some v/\Rep T μ H d v:=by
 unfold Yl at h ⊢;rw[<-r.length];cases e:Bq ds.length k with
 |none=>rw[e]at h;cases h
 |some j=>rw[e]at h;exact r.get h
theorem dC:∀ (ns:List Int),Ra T μ H (ns.map D.int) (ns.map V.int)
 |[]=>Ra.nil
 |n::ns=>Ra.cons (by rw[Rep]) (dC ns)
noncomputable def cm(σ:db):D->Option (List D)
 | .tup xs=>some xs
 | .Pi ns=>some (ns.map D.int)
 | .ref n=>Hi σ n
 | .lst xs=>some xs
 | .gt ss=>some (ss.map D.str)
 |_=>none
noncomputable def Oe(x i:D):M D:=λσ=>match i with
 | .int k=>(match cm σ x with
  |some xs=>(match Yl xs k with
   |some d=>.ok d σ
   |none=>.bad)
  |none=>.bad)
 |_=>.bad
theorem DI:∀ (ss:List qa),Ra T μ H (ss.map D.str) (ss.map V.str)
 |[]=>Ra.nil
 |n::ns=>Ra.cons (by rw[Rep]) (DI ns)
theorem vA(r:Rel T μ H σ){x:D}{v:V}{xs:List D}(h:Rep T μ H x v)(e:cm σ x=some xs):∃ p vs,v=.ref p/\Ra T μ H xs vs/\(zf T.K H p vs\/ph T.K H p vs):=by
 cases x with
 |tup ds=>cases e;rw[Rep]at h;obtain⟨p,vs,rfl,b,c⟩:=h;exact⟨p,vs,rfl,c,.inr (ph.of b)⟩
 |Pi ns=>cases e;rw[Rep]at h;obtain⟨p,rfl,b⟩:=h;exact⟨p,_,rfl,dC ns,.inl b.seq⟩
 |ref n=>obtain⟨a,vs,rfl,_,b,c⟩:=r.lst h e;exact⟨a,vs,rfl,c,.inl (zf.of b)⟩
 |lst ds=>cases e;rw[Rep]at h;obtain⟨p,vs,rfl,_,b,c⟩:=h;exact⟨p,vs,rfl,c,.inl (zf.of b)⟩
 |gt ss=>cases e;rw[Rep]at h;obtain⟨p,rfl,b⟩:=h;exact⟨p,_,rfl,DI ss,.inr (.inr b)⟩
 |_=>cases e
theorem pi(l:T.K=X.K):gk T (λx y H Q=>xH X.K x y H Q\/BG X.K x y H Q) Oe:=by
 intro E μ H σ x y v u Q r p q h;cases y with
 |int k=>
  unfold Oe at h;cases e:cm σ x with
  |none=>simp only[e]at h;exact h.elim
  |some xs=>
   simp only[e]at h;cases c:Yl xs k with
   |none=>rw[c]at h;exact h.elim
   |some d=>
    rw[c]at h;obtain⟨a,i,rfl,j,b⟩:=vA r p e;obtain⟨w,f,g⟩:=uT j c;rw[l]at b;rcases b with b|b
    ·exact .inl ⟨a,i,k,w,rfl,oo q,b,f,Cb.here h r g⟩
    ·exact .inr ⟨a,i,k,w,rfl,oo q,b,f,Cb.here h r g⟩
 |_=>exact h.elim
theorem ki:Uu X (λx y H Q=>xH X.K x y H Q\/BG X.K x y H Q):=DS.or iR
noncomputable def Au(d:D):Bool:=(sc d).isSome
noncomputable def Dv(x y:D):Bool:=match sc x,sc y with
 |some a,some b=>um a b
 |_,_=>false
noncomputable def bx(neg:Bool)(x y:D):M D:=λσ=>match cm σ y with
 |some xs=>if (Au x && xs.all Au)=true then .ok (.bl (if neg then !(xs.any λz=>Dv z x)else xs.any λz=>Dv z x)) σ else .bad
 |none=>.bad
theorem eJ:∀ {ds:List D} {vs:List V},Ra T μ H ds vs->ds.all Au=true->vs.all ii=true
 |[],vs,h,_=>by rw[Ra]at h;subst h;rfl
 |d::ds,vs,h,e=>by
  rw[Ra]at h;obtain⟨v,r,rfl,c,f⟩:=h;rw[lf,Ma]at e ⊢;obtain⟨a,b⟩:=cf.mp e.1;exact⟨by rw[AD c b];exact eI b,eJ f e.2⟩
theorem lM{x:D}{a:V}(ex:sc x=some a):∀ {ds:List D} {vs:List V},Ra T μ H ds vs->ds.all Au=true->(ds.any λz=>Dv z x)=vs.any λy=>um y a
 |[],vs,h,_=>by rw[Ra]at h;subst h;rfl
 |d::ds,vs,h,e=>by
  rw[Ra]at h;obtain⟨v,r,rfl,f,g⟩:=h;rw[lf,Ma]at e;obtain⟨c,b⟩:=cf.mp e.1;rw[yd,yd,lM ex g e.2];have:Dv d x=um v a:=by unfold Dv;rw[b,ex,AD f b]
  rw[this]
theorem AO(k:T.K=X.K)(neg:Bool):gk T (bI X.K neg) (bx neg):=by
 intro E μ H σ x y v u Q r p q h;unfold bx at h;cases e:cm σ y with
 |none=>rw[e]at h;exact h.elim
 |some xs=>
  rw[e]at h;by_cases c:(Au x && xs.all Au)=true
  ·simp only[c,ee]at h;rw[Ma]at c;obtain⟨a,d⟩:=cf.mp c.1;obtain⟨b,i,rfl,f,g⟩:=vA r q e;rw[k]at g;refine⟨b,i,rfl,g,by rw[AD p d];exact eI d,eJ f c.2,?_⟩;have j:oC v i=xs.any λz=>Dv z x:=by unfold oC;rw[lM d f c.2,AD p d]
   rw[j];exact Cb.here h r (by rw[Rep])
  ·simp only[c]at h;exact h.elim
noncomputable def Ao(xs:List D):M D:=λσ=>match xs with
 |[x]=>(match cm σ x with
  |some a=>.ok (.int a.length) σ
  |none=>.bad)
 |_=>.bad
theorem Eu(g:T.K=X.K):tr T (λxs H Q=>∃ p ys,xs=[.ref p]/\(zf X.K H p ys\/ph X.K H p ys)/\Q (.int ys.length) H) Ao:=by
 intro E μ H σ xs d Q r p h
 match xs with
 |[]=>exact h.elim
 |[x]=>
  rw[Ra]at p;obtain⟨v,w,rfl,i,c⟩:=p;rw[Ra]at c;subst c;unfold Ao at h;cases e:cm σ x with
  |none=>simp only[e]at h;exact h.elim
  |some ys=>
   simp only[e]at h;obtain⟨b,d,rfl,f,a⟩:=vA r i e;rw[g]at a;exact⟨b,d,rfl,a,by rw[<-f.length];exact Cb.here h r (by rw[Rep])⟩
 |_::_::_=>exact h.elim
noncomputable def Vr(xs:List D):M D:=λσ=>match xs with
 |[x]=>(match cm σ x with
  |some a=>Xw a σ
  |none=>.bad)
 |_=>.bad
theorem TC(g:T.K=X.K):tr T (λxs H Q=>∃ p ys,xs=[.ref p]/\(zf X.K H p ys\/ph X.K H p ys)/\∀ l,H l=none->Q (.ref l) (upd H l (.lst ys))) Vr:=by
 intro E μ H σ xs d Q r p h
 match xs with
 |[]=>exact h.elim
 |[x]=>
  rw[Ra]at p;obtain⟨v,w,rfl,j,c⟩:=p;rw[Ra]at c;subst c;unfold Vr at h;cases e:cm σ x with
  |none=>simp only[e]at h;exact h.elim
  |some ys=>
   simp only[e]at h;obtain⟨b,d,rfl,f,a⟩:=vA r j e;rw[g]at a;exact⟨b,d,rfl,a,λl i=>Jx h r f i⟩
 |_::_::_=>exact h.elim
end
noncomputable def Tj(o:List D->M D)(fs:Ev->M (List D)):Ev->M D:=λa=>Fc (fs a) o
section
variable{T:Tb}{X:Cx}{x:qa}{p pos:se}{e:Ea}{es:List Ea}{fs:Ev->M (List D)}{id ty:String}{r:List V->Hp->VK->Prop}{o:List D->M D}
theorem wL(hs:tr T r o){c:St}{H:Hp}{Q:VK}(h:tF T X (Tj o fs) c H Q):qG r (tL T X fs) c H Q:=by
 obtain⟨n,p,q,f,i,g⟩:=h;exact⟨n,p,q,f,i,g.bind λe b a m d _ e1 l j k=>hs _ a d b e m Q l j k⟩
theorem Xq(f:Zl X (.builtin id) r)(hs:tr T r o)(i:Gl X x)(hm:X.mg x=none)(j:bootBuiltins x=some (.builtin id))(d:FA T X (e::es) fs)(hn:x ≠ "__name__":=by decide)(b:(x == ("__debug__" : qa))=false:=by decide)
  (g:na (e::es) X.env=(false,Gb e X.env)::na es X.env:=by rfl) (c:(vc pos (na es X.env)).any (·.1)=false:=by rfl):FE T X (.Call (.Name x p) (e::es) [] pos) (Tj o fs):=
 λa s k H Q I h=>FC f i hm j d hn b g c a s k H Q I (wL hs h)
theorem pw(f:Zl X (.type ty) r)(hs:tr T r o)(i:Gl X x)(hm:X.mg x=none)(j:bootBuiltins x=some (.type ty))(d:FA T X (e::es) fs)(hn:x ≠ "__name__":=by decide)(b:(x == ("__debug__" : qa))=false:=by decide)
  (g:na (e::es) X.env=(false,Gb e X.env)::na es X.env:=by rfl) (c:(vc pos (na es X.env)).any (·.1)=false:=by rfl):FE T X (.Call (.Name x p) (e::es) [] pos) (Tj o fs):=
 λa s k H Q I h=>nH f i hm j d hn b g c a s k H Q I (wL hs h)
end
noncomputable def Dh(σ:db):D->Option (List D)
 | .ref n=>Hi σ n
 | .lst xs=>some xs
 |_=>none
theorem Rel.ls{T:Tb}{μ:List Addr}{H:Hp}{σ:db}(r:Rel T μ H σ){x:D}{v:V}{xs:List D}(h:Rep T μ H x v)(e:Dh σ x=some xs):∃ a vs,v=.ref a/\H a=some (.lst vs)/\Ra T μ H xs vs:=by
 cases x with
 |ref n=>obtain⟨a,vs,b,_,c,d⟩:=r.lst h e;exact⟨a,vs,b,c,d⟩
 |lst f=>cases e;rw[Rep]at h;obtain⟨a,vs,b,_,c,d⟩:=h;exact⟨a,vs,b,c,d⟩
 |_=>cases e
noncomputable def Jy(o:D->List D->M D)(m:M (List D))(x:D):M D:=λa=>match Dh a x with
 |some _=>Fc m (o x) a
 |none=>.bad
noncomputable def OG(o:D->List D->M D)(f:Ev->M D)(fs:Ev->M (List D)):Ev->M D:=λa=>Fc (f a) (Jy o (fs a))
noncomputable def qA(T:Tb)(r:V->List V->Hp->VK->Prop)(o:D->List D->M D):Prop:=∀ (E:XK) a H c x xs v b Q,Rel T a H c->Rep T a H x v->Ra T a H xs b->Cb T E (Rep T) a H (o x xs c) Q->r v b H Q
noncomputable def fu(x:D)(xs:List D):M D:=λb=>match x,xs with
 | .ref n,[y]=>(match Hi b n with
  |some a=>if a.length<Ch then .ok .Hb (b.set n (.lst (a++[y])))else .bad
  |none=>.bad)
 |_,_=>.bad
section
variable{T:Tb}{X:Cx}{o e:Ea}{es:List Ea}{f:Ev->M D}{fs:Ev->M (List D)}{name:qa}{apos cpos:se}{id:String}{r:V->List V->Hp->VK->Prop}{g:D->List D->M D}
theorem YZ(M:Xl "list")(slot:NH "list" name id)(p:Hx (.builtin id)=pure (.type "method_descriptor"))(hm:Tr X id r)(hs:qA T r g)(G:FE T X o f)(F:FA T X (e::es) fs)
  (c:Yc o name X.env (Gb o X.env)=Gb o X.env:=by rfl)
  (i:((vc cpos (na (e::es) X.env)).all (λx=>!x.1) && (Nm cpos (Rh [] X.env)).all (λx=>x.1.isSome)
   && decide ((e::es).length+([]:List Wi).length+(if ([]:List Wi).isEmpty then 0 else 1)<30))=true:=by rfl)
  (d:(apos.endLine == cpos.line)=true:=by rfl) (n:na (e::es) X.env=(false,Gb e X.env)::na es X.env:=by rfl) (b:(vc cpos (na es X.env)).any (·.1)=false:=by rfl) :
  FE T X (.Call (.Attribute o name apos) (e::es) [] cpos) (OG g f fs):=by
 intro j s P H Q I h;refine oY M slot p hm G F c i d n b j s P H Q I ?_;obtain⟨U,A,V,w,K,J⟩:=h;refine⟨U,A,V,w,K,J.bind λx l q v W _ e1 z y k=>?_⟩;unfold Jy at k;cases m:Dh l x with
 |none=>rw[m]at k;exact k.elim
 |some xs=>
  rw[m]at k;obtain⟨a,R,rfl,E,Y⟩:=z.ls y m;refine⟨.inl ⟨rfl,R,zf.of E⟩,q,A,l,w.mono e1,z,k.bind λC u t S B _ D O L N=>?_⟩;exact hs _ t B u x C (.ref a) S Q O (Rep.mono D _ _ y) L N
theorem MW:qA T fF fu:=by
 intro E k H m x xs v b Q r p q h;cases x with
 |ref n=>
  match xs with
  |[]=>exact h.elim
  |[y]=>
   rw[Ra]at q;obtain⟨w,z,rfl,l,g⟩:=q;rw[Ra]at g;subst g;unfold fu at h;cases c:Hi m n with
   |none=>simp only[c]at h;exact h.elim
   |some j=>
    simp only[c]at h;by_cases d:j.length<Ch
    ·rw[da d]at h;obtain⟨a,b,rfl,hn,e,f⟩:=r.lst p c;have i:=r.write (o:=.lst (b++[w])) (ob:=.lst (j++[y])) hn ⟨_,fg,by
      have ex:Ext k H k (upd H a (.lst (b++[w]))):=Pr (Ga hn) e (λ_ z=>by cases z) (λ_ _ z=>by cases z);exact Ra.append (Ra.mono ex _ _ f) (Ra.cons (Rep.mono ex _ _ l) Ra.nil)⟩
     exact⟨a,b,w,rfl,rfl,e,by rw[<-f.length];exact QV d,h _ _ _ i.1 i.2 (by rw[Rep])⟩
    ·rw[ga d]at h;exact h.elim
  |_::_::_=>exact h.elim
 |_=>exact h.elim
end
inductive BT where
 |int|bool|str|tuple|list|dict
noncomputable def BT.nm:BT->String
 | .int=>"int" | .bool=>"bool" | .str=>"str" | .tuple=>"tuple" | .list=>"list" | .dict=>"dict"
noncomputable def SB(σ:db)(c:BT):D->Option Bool
 | .Hb=>some false
 | .bl _=>some (match c with | .int=>true | .bool=>true|_=>false)
 | .int _=>some (match c with | .int=>true|_=>false)
 | .str _=>some (match c with | .str=>true|_=>false)
 | .tup _=>some (match c with | .tuple=>true|_=>false)
 | .Pi _=>none
 | .lst _=>some (match c with | .list=>true|_=>false)
 | .va _ _=>some (match c with | .dict=>true|_=>false)
 | .obj _ _ _=>none
 | .Vt _=>none
 | .gt _=>none
 | .ref n=>match σ[n]? with
  |some (.lst _)=>some (match c with | .list=>true|_=>false)
  |some (.va _)=>some (match c with | .dict=>true|_=>false)
  |_=>none
noncomputable def ar(c:BT)(x:D):M D:=λa=>match SB a c x with
 |some b=>.ok (.bl b) a
 |none=>.bad
section
variable{T:Tb}{X:Cx}
noncomputable def ZL(K:W.Frag)(H:Hp)(x:V)(t:Value):Prop:=Dj K H x t\/∃ a b,x=.ref a/\Rd H a (.dK b)/\t=.type "dict"
noncomputable def bV(K:W.Frag)(c:String):List V->Hp->VK->Prop:=λxs H Q=>∃ x t b,xs=[x,.ty c]/\ZL K H x t/\W.kitOne K t (.type c)=some b/\Q (.bl b) H
theorem NU(c:String):Zl X (.builtin "isinstance") (bV X.K c):=by
 intro g s v H xs A Q I r h;obtain⟨x,t,b,rfl,ty,e,q⟩:=h;obtain⟨u,y,rfl,i,f⟩:=nL r;cases f;rcases ty with ty|⟨a,d,rfl,rd,rfl⟩
 ·exact Q2 I i ty e λl=>⟨.bl b,H,I.tok _,rfl,q⟩
 ·cases (show u=kb a from i);obtain⟨_,_,B,_,p⟩:=(show Wh X.prog X.w H s.heap a (.dK d)from rd.ok I.Pb)
  obtain⟨o,n,m,j,k,_⟩:=p;exact Pe Bt I.Kj ⟨o,j,k.1⟩ e (λz=>nomatch z) λl=>⟨.bl b,H,I.tok _,rfl,q⟩
theorem ET{μ:List Addr}{H:Hp}{σ:db}{x:D}{v:V}{c:BT}{b:Bool}(r:Rel T μ H σ)(p:Rep T μ H x v)(h:SB σ c x=some b):∃ t,ZL X.K H v t/\W.kitOne X.K t (.type c.nm)=some b:=by
 cases x with
 |Hb=>rw[Rep]at p;subst p;refine⟨_,.inl (.Hb),?_⟩;cases c<;>cases h<;>rfl
 |bl i=>rw[Rep]at p;subst p;refine⟨_,.inl (.bl i),?_⟩;cases c<;>cases h<;>rfl
 |int i=>rw[Rep]at p;subst p;refine⟨_,.inl (.int i),?_⟩;cases c<;>cases h<;>rfl
 |str i=>rw[Rep]at p;subst p;refine⟨_,.inl (.str i),?_⟩;cases c<;>cases h<;>rfl
 |tup ds=>rw[Rep]at p;obtain⟨q,f,rfl,d,_⟩:=p;refine⟨_,.inl (.tup d),?_⟩;cases c<;>cases h<;>rfl
 |Pi ns=>cases h
 |lst ds=>rw[Rep]at p;obtain⟨q,f,rfl,_,d,_⟩:=p;refine⟨_,.inl (.lst d),?_⟩;cases c<;>cases h<;>rfl
 |va l ds=>rw[Rep]at p;obtain⟨q,f,rfl,_,d,_⟩:=p;refine⟨_,.inr ⟨q,_,rfl,d,rfl⟩,?_⟩;cases c<;>cases h<;>rfl
 |obj j l ds=>cases h
 |Vt j=>cases h
 |gt ss=>cases h
 |ref n=>
  unfold SB at h;dsimp only at h;cases e:σ[n]? with
  |none=>rw[e]at h;cases h
  |some o=>
   rw[e]at h;obtain⟨a,rfl,_,k⟩:=r.at p e;cases o with
   |lst xs=>obtain⟨f,g,_⟩:=k;refine⟨_,.inl (.lst g),?_⟩;cases c<;>cases h<;>rfl
   |va xs=>obtain⟨f,g,_⟩:=k;refine⟨_,.inl (.dK g),?_⟩;cases c<;>cases h<;>rfl
   |ins j fs=>cases h
   |lb xs=>cases h
   |og _=>cases h
theorem Lx(c:BT){a:qa}{e:Ea}{f:Ev->M D}{p i pos:se}(A:FE T X e f)(B:Gl X "isinstance")(hm:X.mg "isinstance" = none)(l:Gl X a)(m:X.mg a=none)(q:bootBuiltins a=some (.type c.nm))(n:a ≠ "__name__":=by decide)(k:(a == ("__debug__" : qa))=false:=by decide)
  (hs:na [e,.Name a i] X.env=(false,Gb e X.env)::na [.Name a i] X.env:=by rfl) (o:(vc pos (na [.Name a i] X.env)).any (·.1)=false:=by rfl) :
  FE T X (.Call (.Name "isinstance" p) [e,.Name a i] [] pos) (Xd (ar c) f):=by
 intro d s G H Q I h;refine FC (NU c.nm) B hm boot_isinstance (eu A (eu (D2 l m q (v:=.ty c.nm) rfl n k) zv) hs) (by decide) (by decide) hs o d s G H Q I ?_;obtain⟨J,L,N,z,E,C⟩:=h;refine⟨J,L,N,z,E,C.bind λx r K v O _ e1 u F g=>?_⟩;unfold ar at g;cases j:SB r c x with
 |none=>rw[j]at g;exact g.elim
 |some b=>
  rw[j]at g;obtain⟨t,w,y⟩:=ET (X:=X) u F j;exact⟨v,t,b,rfl,w,y,Cb.here g u (by rw[Rep])⟩
end
noncomputable def ti:Ev->M Fl:=λa=>ret (.nx a)
noncomputable def VA(h:Ev->M Fl):Fl->M Fl
 | .nx a=>h a
 | .rt d=>ret (.rt d)
 | .bk a=>ret (.bk a)
 | .ct a=>ret (.ct a)
 | .xc a x=>ret (.xc a x)
noncomputable def wc(g h:Ev->M Fl):Ev->M Fl:=λa=>Fc (g a) (VA h)
noncomputable def GG:D->M Fl:=λd=>ret (.rt d)
noncomputable def cg(f:Ev->M D):Ev->M Fl:=λa=>xs a (f a) GG
noncomputable def sF(ρ:Ev):D->M Fl:=λ_=>ret (.nx ρ)
noncomputable def pp(f:Ev->M D):Ev->M Fl:=λa=>xs a (f a) (sF a)
noncomputable def kz(i:Nat)(ρ:Ev):D->M Fl:=λd=>ret (.nx (ρ.set i (some d)))
noncomputable def aj(i:Nat)(f:Ev->M D):Ev->M Fl:=λa=>xs a (f a) (kz i a)
noncomputable def Ih(t:Ev->M Bool)(a b:Ev->M Fl):Ev->M Fl:=λc=>xs c (t c) (Yi (a c) (b c))
section
variable{T:Tb}{X:Cx}{st':Stmt}{Jh:List Stmt}{g h:Ev->M Fl}{e:Ea}{f:Ev->M D}{pos:se}
theorem oj:Qo T X [] ti:=by
 intro a s b H D I f;obtain⟨h,i,j,c,e,d⟩:=f;exact rY a s b H D I (Cb.here (g:=ul.nx b) d e c)
theorem CQ{μ:List Addr}{H:Hp}{σ:db}{a:Fl}{gl:ul}{D:Ends}{N:St->Hp->Prop}(r:Rel T μ H σ)(q:Vm T μ H a gl)(k:Fl->M Fl)
  (hn:∀ ρ,a=.nx ρ->∀ b,gl=.nx b->eh T μ H ρ b->N b H) (e:(∀ ρ,a≠.nx ρ)->Cb T EN (Vm T) μ H (.ok a σ) (Nl X D)):Nl X { D with nx:=N } gl H:=by
 cases a with
 |nx ρ=>cases gl with
  |nx b=>exact hn ρ rfl b rfl q
  |_=>exact q.elim
 |rt d=>cases gl with
  |rt v=>have z:=Cb.here (g:=ul.rt v) (e λ_ z=>by cases z) r q;exact z
  |_=>exact q.elim
 |bk ρ=>cases gl with
  |bk v=>have z:=Cb.here (g:=ul.bk v) (e λ_ z=>by cases z) r q;exact z
  |_=>exact q.elim
 |ct ρ=>cases gl with
  |ct v=>have z:=Cb.here (g:=ul.ct v) (e λ_ z=>by cases z) r q;exact z
  |_=>exact q.elim
 |xc ρ x=>cases gl with
  |xc v c fd=>have z:=Cb.here (g:=ul.xc v c fd) (e λ_ z=>by cases z) r q;exact z
  |_=>exact q.elim
theorem Jd(k:FS T X st' g)(l:Qo T X Jh h):Qo T X (st'::Jh) (wc g h):=by
 intro b s t H D I q;refine FZ k l b s t H D I ?_;obtain⟨v,w,x,m,p,o⟩:=q;refine⟨v,w,x,m,p,o.bind λj d c gl y _ e1 f r e=>?_⟩;refine CQ (X:=X) f r (λ_=>bad) (λa i u z n=>?_) (λhn=>?_)
 ·subst i;exact⟨c,a,d,n,f,e⟩
 ·cases j with
  |nx a=>exact(hn a rfl).elim
  |_=>exact e
theorem Vc(a:FS T X st' g):Qo T X [st'] g:=sX a
theorem Bg(c:FE T X e f):FS T X (.Return (some e) pos) (cg f):=by
 intro a s n H D I j;refine UW c a s n H D I ?_;obtain⟨o,q,r,b,i,h⟩:=j;exact⟨o,q,r,b,i,h.xs b λd t p v u _ e1 m l k=>Cb.here (g:=ul.rt v) k m l⟩
theorem qs(h:FE T X e f)(hs:Di e none pos.line X.env=pure false:=by rfl):FS T X (.Expr e pos) (pp f):=by
 intro a s c H D I k;refine C0 h hs a s c H D I ?_;obtain⟨n,p,q,b,j,i⟩:=k;exact⟨n,p,q,b,j,i.xs b λd r o v t _ e1 m u l=>Cb.here (g:=ul.nx c) l m (b.mono e1)⟩
theorem Kl{i:Nat}{x:qa}{a:se}(hN:X.N.Nodup)(l:X.N[i]?=some x)(p:Loc X.env.scope x)(j:FE T X e f)(hs:Di e (some (.Name x a)) pos.line X.env=pure false:=by rfl)(k:X.fn x=true\/X.env.scope.names.lookup x=some .local:=by first|exact .inl rfl|exact .inr rfl|assumption) :
  FS T X (.Assign [.Name x a] e pos) (aj i f):=by
 intro b s h H D I o;refine G1 hN l p j hs k b s h H D I ?_;obtain⟨u,y,z,c,n,m⟩:=o;exact⟨u,y,z,c,n,m.xs c λd A w v B _ e1 t r q=>Cb.here (g:=ul.nx (h.set i (some v))) q t ((c.mono e1).set i r)⟩
theorem Ii{c:Ea}{a b:List Stmt}{m:Ev->M Bool}{j k:Ev->M Fl}(o:FT T X c m)(n:Qo T X a j)(hb:Qo T X b k):FS T X (.If c a b pos) (Ih m j k):=by
 intro e s u H D I r;refine uX o n hb e s u H D I ?_;obtain⟨w,i,x,h,q,p⟩:=r;refine⟨w,i,x,h,q,p.xs h λc g f v y _ e1 l t d=>?_⟩;cases t;cases c with
 |true=>unfold Yi at d;rw[da rfl]at d ⊢;exact⟨f,i,g,h.mono e1,l,d⟩
 |false=>unfold Yi at d;rw[ga Wa]at d ⊢;exact⟨f,i,g,h.mono e1,l,d⟩
noncomputable def gD(T:Tb)(tg:D->Ev->Option Ev):TG:=λv e H Q=>∃ b f c d a,eh T b H c e/\Rel T b H f/\Rep T b H d v/\tg d c=some a/\∀ st',eh T b H a st'->Q st' H
noncomputable def oZ(T:Tb)(tg:List D->Ev->Option Ev):Gv:=λf e H Q=>∃ b g d c a,eh T b H d e/\Rel T b H g/\Ra T b H c f/\tg c d=some a/\∀ st',eh T b H a st'->Q st' H
noncomputable abbrev FG(T:Tb)(X:Cx)(t:Ea)(tg:D->Ev->Option Ev):Prop:=PG X t (gD T tg)
noncomputable abbrev VC(T:Tb)(X:Cx)(a:List Ea)(tg:List D->Ev->Option Ev):Prop:=AA X a (oZ T tg)
noncomputable def Ed(i:Nat):D->Ev->Option Ev:=λd a=>some (a.set i (some d))
noncomputable def bp:List D->Ev->Option Ev
 |[],a=>some a
 |_::_,_=>none
noncomputable def Bi(t:D->Ev->Option Ev)(u:List D->Ev->Option Ev):List D->Ev->Option Ev
 |[],_=>none
 |d::ds,b=>(t d b).bind λa=>u ds a
noncomputable def zo(n:Nat)(t:List D->Ev->Option Ev):D->Ev->Option Ev
 | .tup ds,a=>if ds.length=n then t ds a else none
 |_,_=>none
theorem Uh{i:Nat}{x:qa}(hN:X.N.Nodup)(e:X.N[i]?=some x)(j:Loc X.env.scope x)(c:X.fn x=true\/X.env.scope.names.lookup x=some .local:=by first|exact .inl rfl|exact .inr rfl|assumption):FG T X (.Name x pos) (Ed i):=by
 intro a s k H v u Q I r h;obtain⟨n,p,o,d,l,b,m,hd,g,f⟩:=h;cases g;exact RZ hN e j c a s k H v u Q I r (f _ (b.set i hd))
theorem Gw:VC T X [] bp:=by
 intro a s g H l i Q I r h;obtain⟨m,o,n,b,j,e,k,hd,c,f⟩:=h;cases b with
 |nil=>cases c;rw[Ra]at hd;subst hd;exact yZ a s g H [] i Q I r ⟨rfl,f _ e⟩
 |cons d b=>cases c
theorem Iq{es:List Ea}{t:D->Ev->Option Ev}{u:List D->Ev->Option Ev}(p:FG T X e t)(q:VC T X es u)
  (hs:(Td (e::es) X.env).map (·.2)=ah e X.env::(Td es X.env).map (·.2):=by rfl):VC T X (e::es) (Bi t u):=by
 intro a s z H E B Q I r h;obtain⟨m,n,C,c,j,x,k,hd,l,y⟩:=h;cases c with
 |nil=>cases l
 |cons d c=>
  rw[Ra]at hd;obtain⟨v,w,rfl,g,i⟩:=hd;obtain⟨b,e1,o⟩:=rf.mp l;refine H0 p q hs a s z H (v::w) B Q I r ⟨v,w,rfl,m,n,C,d,b,x,k,g,e1,λA f=>?_⟩;exact⟨m,n,b,c,j,f,k,i,o,y⟩
theorem nw{es:List Ea}{k:Nat}{t:List D->Ev->Option Ev}{n:Nat}(l:X.calm=true)(h:VC T X es t)
  (hn:(Td es X.env).length=n:=by rfl) (e:(Td es X.env).findIdx? (·.1)=none:=by rfl):FG T X (.Tuple es k pos) (zo n t):=by
 intro b s x H v u Q I r w;obtain⟨z,B,A,d,f,j,q,hd,a,o⟩:=w;cases d with
 |tup ds=>
  have m:=hd;rw[Rep]at hd;obtain⟨p,y,rfl,i,g⟩:=hd;unfold zo at a;dsimp only at a;by_cases c:ds.length=n
  ·rw[da c]at a;exact Q3 l h hn e b s x H (.ref p) u Q I r ⟨p,y,rfl,ph.of i,by rw[<-g.length];exact c,z,B,A,ds,f,j,q,g,a,o⟩
  ·rw[ga c]at a;cases a
 |_=>cases a
noncomputable def Vx(x i d:D):M Unit:=λa=>match x,i with
 | .ref n,.int k=>(match Hi a n with
  |some xs=>(match Bq xs.length k with
   |some j=>.ok () (a.set n (.lst (xs.set j d)))
   |none=>.bad)
  |none=>.bad)
 |_,_=>.bad
noncomputable def Bw(ρ:Ev)(d x i:D):M Fl:=λb=>match Vx x i d b with
 | .ok _ a=>.ok (.nx ρ) a
 |_=>.bad
noncomputable def yH(ρ:Ev)(fi:Ev->M D)(d x:D):M Fl:=xs ρ (fi ρ) (Bw ρ d x)
noncomputable def bF(ρ:Ev)(a fi:Ev->M D)(d:D):M Fl:=xs ρ (a ρ) (yH ρ fi d)
noncomputable def kC(f b fi:Ev->M D):Ev->M Fl:=λa=>xs a (f a) (bF a b fi)
theorem BL{o i:Ea}{L fi:Ev->M D}{b:se}(R:FE T X e f)(U:FE T X o L)(S:FE T X i fi)
  (Q:∀ v,ah (.Subscript o i b) X.env v=(do
   let q <-Ce [v] (Gb o X.env);let w <-Ce [v,q] (Gb i X.env)
   ak b
   Ce [v,q,w] (Qp q w v)
   bz [v,q,w] []):=by intro _;rfl)
  (hs:Zk [.Subscript o i b] e pos.line X.env=pure false:=by rfl) (Z:al [.Subscript o i b] e X.env=pure none:=by rfl)
  (p:(Td [.Subscript o i b] X.env).map (·.2)=[ah (.Subscript o i b) X.env]:=by rfl):FS T X (.Assign [.Subscript o i b] e pos) (kC f L fi):=by
 intro h s P H D I W;refine KG R (dH U S jS Q) hs Z p h s P H D I ?_;obtain⟨μ,E,σ,g,Y,V⟩:=W;refine⟨μ,E,σ,g,Y,V.xs g λd F B v H1 _ e1 r1 q1 p1=>?_⟩;refine⟨B,E,F,g.mono e1,r1,p1.xs (g.mono e1) λx G C vo H2 _ m r2 q2 p2=>?_⟩;refine⟨C,E,G,(g.mono e1).mono m,r2,p2.xs ((g.mono e1).mono m) λk J l vi K _ r O q3 c=>?_⟩;have hd:=Rep.mono r _ _ (Rep.mono m _ _ q1);have hx:=Rep.mono r _ _ q2;unfold Bw Vx at c;cases x with
 |ref n=>
  cases k with
  |int k=>
   dsimp only at c;cases u:Hi J n with
   |none=>rw[u]at c;exact c.elim
   |some xs=>
    rw[u]at c;dsimp only at c;cases t:Bq xs.length k with
    |none=>rw[t]at c;exact c.elim
    |some j=>
     rw[t]at c;obtain⟨a,y,rfl,hn,p,N⟩:=O.lst hx u;have A:=O.write (o:=.lst (y.set j v)) (ob:=.lst (xs.set j d)) hn ⟨_,fg,by
      have ex:Ext l K l (upd K a (.lst (y.set j v))):=Pr (Ga hn) p (λ_ z=>by cases z) (λ_ _ z=>by cases z);exact Ra.set (Rep.mono ex _ _ hd) j (Ra.mono ex _ _ N)⟩
     exact⟨a,y,k,j,rfl,oo q3,p,by rw[<-N.length];exact t,c _ (.nx P) _ A.1 A.2 (((g.mono e1).mono m).mono r |>.mono A.1)⟩
  |_=>exact c.elim
 |_=>exact c.elim
end
inductive Src where
 |seq (ds:List D)
 |cr (n:Nat)
noncomputable def Src.nx:Src->Nat->db->Option (Option D)
 | .seq ds,i,_=>some ds[i]?
 | .cr n,i,σ=>(Hi σ n).map λxs=>xs[i]?
noncomputable def Ju(T:Tb)(b:List Addr)(f:Hp)(src:Src)(J:It):Prop:=∀ a H e i,Ext b f a H->Rel T a H e->match src.nx i e with
 |none=>True
 |some none=>J.stop i H
 |some (some d)=>J.go i H/\∀ x c,J.ny i H x c->c=H/\Rep T a H d x
noncomputable def tI(T:Tb)(X:Cx)(f:Ev->M Src):TI:=λb H R=>∃ a c d,eh T a H c b/\Rel T a H d/\Cb T (XE X b) (Ju T) a H (f c d) R
noncomputable abbrev FI(T:Tb)(X:Cx)(tg a:Ea)(f:Ev->M Src):Prop:=PI X tg a (tI T X f)
noncomputable def M0(n:Nat):List D:=(List.range n).map λ(i:Nat)=>D.int (i:Int)
noncomputable def Hv(a:Int)(n:Nat):List D:=(List.range n).map λ(i:Nat)=>D.int (a+(i:Int))
noncomputable def ou(d:D):M Src:=λa=>match d with
 | .tup ds=>.ok (.seq ds) a
 | .lst ds=>.ok (.seq ds) a
 | .Pi ns=>.ok (.seq (ns.map D.int)) a
 | .ref n=>(match Hi a n with
  |some _=>.ok (.cr n) a
  |none=>.bad)
 |_=>.bad
noncomputable def Gi(f:Ev->M D):Ev->M Src:=λa=>Fc (f a) ou
noncomputable def Lw(j:Int):Bool:=hide (decide (-(2 ^ 62)<=j) && decide (j<2 ^ 62))
noncomputable def F5(d:D):M Src:=λa=>match d with
 | .int j=>if Lw j=true then .ok (.seq (M0 j.toNat)) a else .bad
 |_=>.bad
noncomputable def bB(a b:D):M Src:=λc=>match a,b with
 | .int i,.int j=>if (Lw i && Lw j)=true then .ok (.seq (Hv i (j - i).toNat)) c else .bad
 |_,_=>.bad
noncomputable def tG(m:M D)(a:D):M Src:=Fc m (bB a)
noncomputable def wC(f g:Ev->M D):Ev->M Src:=λa=>Fc (f a) (tG (g a))
section
variable{T:Tb}{X:Cx}{tg iter:Ea}{f:Ev->M D}
noncomputable def IR(K:W.Frag)(c:TE):TI:=λd H R=>c d H λx b=>∃ a,x=.ref a/\(((∃ xs,zf K b a xs)/\R (sE K a) b)\/((∃ xs,ph K b a xs)/\R (iF K a) b))
theorem aR{l:Ea}{j:TE}(k:PE X l j):PI X tg l (IR X.K j):=by
 intro f s t H R I h;refine Ad (k f s t H _ I h) λv s1 ⟨x,H1,c,n,i⟩=>?_;obtain⟨a,e,i⟩:=i;subst e;cases n;rcases i with⟨⟨xs,g⟩,q⟩|⟨⟨xs,g⟩,q⟩
 ·obtain⟨d,r,p,m⟩:=c.list g;refine Im p.isList ?_;refine⟨s1.heap.objs.size,[s1.heap.objs.size],_,_,H1,rfl,c.kept (t':=s1.toks) λb o e=>ba _ e,uZ a _,⟨_,Aa _ rfl,rfl,rfl⟩,λb hb=>?_,q⟩;have e:b=s1.heap.objs.size:=by simpa using hb
  subst e;exact c.Xp (ja _) (c.Pb.fresh (ja _))
 ·obtain⟨d,r,p,m⟩:=c.tuple g;refine Bx (show s1.heap.IsTuple a d.toArray from p) ?_;refine⟨s1.heap.objs.size,[s1.heap.objs.size],_,_,H1,rfl,c.kept (t':=s1.toks) λb o e=>ba _ e,RV a _,⟨_,Aa _ rfl,rfl,rfl⟩,λb hb=>?_,q⟩;have e:b=s1.heap.objs.size:=by simpa using hb
  subst e;exact c.Xp (ja _) (c.Pb.fresh (ja _))
theorem bP{g:List Addr}{l:Hp}{a:Addr}{ds:List D}{K:W.Frag}(h:∀ b c,Ext g l b c->∃ vs,zf K c a vs/\Ra T b c ds vs):Ju T g l (.seq ds) (sE K a):=by
 intro b c n i ex p;obtain⟨vs,j,m⟩:=h b c ex;show match some ds[i]? with|none=>True|some none=>_|some (some d)=>_
 cases e:ds[i]? with
 |none=>exact⟨vs,j,by rw[<-m.length];exact Fb.mp e⟩
 |some d=>
  obtain⟨v,f,k⟩:=m.get e;refine⟨⟨vs,v,j,f⟩,λx o y=>?_⟩;obtain⟨rfl,y⟩:=y;have:=y vs j;rw[f]at this;cases this;exact⟨rfl,k⟩
theorem EX{g:List Addr}{l:Hp}{a:Addr}{ds:List D}{K:W.Frag}(h:∀ b c,Ext g l b c->∃ vs,ph K c a vs/\Ra T b c ds vs):Ju T g l (.seq ds) (iF K a):=by
 intro b c n i ex p;obtain⟨vs,j,m⟩:=h b c ex;show match some ds[i]? with|none=>True|some none=>_|some (some d)=>_
 cases e:ds[i]? with
 |none=>exact⟨vs,j,by rw[<-m.length];exact Fb.mp e⟩
 |some d=>
  obtain⟨v,f,k⟩:=m.get e;refine⟨⟨vs,v,j,f⟩,λx o y=>?_⟩;obtain⟨rfl,y⟩:=y;have:=y vs j;rw[f]at this;cases this;exact⟨rfl,k⟩
theorem Jp(O:T.K=X.K)(h:FE T X iter f):FI T X tg iter (Gi f):=by
 intro u s W H R I S;refine aR h u s W H R I ?_;obtain⟨Y,Z,σ,N,Q,P⟩:=S;refine⟨Y,Z,σ,N,Q,P.bind λd D C v G _ e1 w k c=>?_⟩;cases d with
 |tup ds=>
  rw[Rep]at k;obtain⟨p,o,rfl,j,m⟩:=k;exact⟨p,rfl,.inr ⟨⟨o,ph.of j⟩,Cb.here (R:=Ju T) c w (EX λb g ex=>⟨o,ph.of (ex.tup _ _ j),Ra.mono ex _ _ m⟩)⟩⟩
 |lst ds=>
  rw[Rep]at k;obtain⟨p,o,rfl,hn,j,m⟩:=k;exact⟨p,rfl,.inl ⟨⟨o,zf.of j⟩,Cb.here (R:=Ju T) c w (bP λb g ex=>⟨o,zf.of (ex.kj _ _ j hn).1,Ra.mono ex _ _ m⟩)⟩⟩
 |Pi ns=>
  rw[Rep]at k;obtain⟨p,rfl,j⟩:=k;have r:∀ b g,Ext C G b g->zf X.K g p (ns.map V.int):=λb g ex=>by
   have m:Rep T b g (.Pi ns) (.ref p):=Rep.mono ex _ _ (by rw[Rep];exact⟨p,rfl,j⟩);rw[Rep]at m;obtain⟨p',J,q⟩:=m;cases J;rw[<-O];exact q.seq
  exact⟨p,rfl,.inl ⟨⟨_,r _ _ (Ext.refl _ _)⟩,Cb.here (R:=Ju T) c w (bP λb g ex=>⟨_,r b g ex,dC ns⟩)⟩⟩
 |ref n=>
  unfold ou at c;dsimp only at c;cases l:Hi D n with
  |none=>rw[l]at c;exact c.elim
  |some xs=>
   rw[l]at c;obtain⟨a,o,rfl,_,j,m⟩:=w.lst k l;refine⟨a,rfl,.inl ⟨⟨o,zf.of j⟩,Cb.here (R:=Ju T) c w λb g z i ex U=>?_⟩⟩;show match (Hi z n).map (λxs=>xs[i]?)with|none=>True|some none=>_|some (some d)=>_
   cases M:Hi z n with
   |none=>trivial
   |some F=>
    obtain⟨a',B,L,_,q,E⟩:=U.lst (Rep.mono ex _ _ k) M;cases L;show match some (F[i]?)with|none=>True|some none=>_|some (some d)=>_
    cases e:F[i]? with
    |none=>exact⟨B,zf.of q,by rw[<-E.length];exact Fb.mp e⟩
    |some d=>
     obtain⟨v,t,A⟩:=E.get e;refine⟨⟨B,v,zf.of q,t⟩,λx H' y=>?_⟩;obtain⟨rfl,y⟩:=y;have:=y B (zf.of q);rw[t]at this;cases this;exact⟨rfl,A⟩
 |_=>exact c.elim
theorem B0{a:Int}{n i:Nat}(h:i<n):(Hv a n)[i]?=some (.int (a+i)):=by simp[Hv,h]
theorem dQ(a:Int)(n:Nat):(Hv a n).length=n:=by simp[Hv]
theorem pT{a b:Ea}{p pos:se}{g:Ev->M D}(n:Gl X "range")(hm:X.mg "range" = none)(B:FE T X a f)(hb:FE T X b g)(l:na [a,b] X.env=[(false,Gb a X.env),(false,Gb b X.env)]:=by rfl)(c:na [b] X.env=[(false,Gb b X.env)]:=by rfl) :
  FI T X tg (.Call (.Name "range" p) [a,b] [] pos) (wC f g):=by
 intro m s L H R I F;refine wS n hm (eu B (eu hb zv c) (by rw[l,c])) l c m s L H R I ?_;obtain⟨N,z,Q,t,E,C⟩:=F;refine⟨N,z,Q,t,E,C.bind λd r q v W _ e1 J u G=>⟨q,z,r,t.mono e1,J,G.bind λA S O v2 Y _ e2 K w e=>?_⟩⟩;cases d with
 |int i=>
  cases A with
  |int j=>
   rw[Rep]at u w;subst u;subst w;unfold bB at e;dsimp only at e;by_cases h:(Lw i && Lw j)=true
   ·rw[da h]at e;simp only[Lw,Jk,Ma,nc]at h;refine⟨i,j,rfl,⟨h.1.1,h.1.2,h.2.1,h.2.2⟩,Cb.here (R:=Ju T) e K λP Z U k ex r3=>?_⟩;show match some (Hv i (j - i).toNat)[k]? with|none=>True|some none=>_|some (some d)=>_
    by_cases o:k<(j - i).toNat
    ·rw[B0 o];refine⟨o,λx V y=>?_⟩;obtain⟨rfl,rfl⟩:=y;exact⟨rfl,by rw[Rep]⟩
    ·rw[Fb.mpr (by rw[dQ];omega)];exact Nat.not_lt.mp o
   ·rw[ga h]at e;exact e.elim
  |_=>exact e.elim
 |_=>exact e.elim
end
noncomputable def bu(k:Ev->M Fl):Fl->M Fl
 | .nx a=>k a
 | .ct a=>k a
 | .bk a=>ret (.nx a)
 | .rt d=>ret (.rt d)
 | .xc b x=>ret (.xc b x)
noncomputable def Uk(tg:D->Ev->Option Ev)(body:Ev->M Fl):List D->Ev->M Fl
 |[],a=>ret (.nx a)
 |d::ds,a=>match tg d a with
  |none=>bad
  |some b=>Fc (body b) (bu (Uk tg body ds))
noncomputable def Br(tg:D->Ev->Option Ev)(body:Ev->M Fl)(n:Nat):Nat->Nat->Ev->M Fl
 |0,_,_=>bad
 |k+1,i,c=>λb=>match Hi b n with
  |none=>.bad
  |some xs=>match xs[i]? with
   |none=>.ok (.nx c) b
   |some d=>match tg d c with
    |none=>.bad
    |some a=>Fc (body a) (bu (Br tg body n k (i+1))) b
noncomputable def xD(tg:D->Ev->Option Ev)(body:Ev->M Fl)(ρ:Ev):Src->M Fl
 | .seq ds=>Uk tg body ds ρ
 | .cr n=>Br tg body n 1001 0 ρ
noncomputable def Cp(src:Ev->M Src)(tg:D->Ev->Option Ev)(body:Ev->M Fl):Ev->M Fl:=λa=>xs a (src a) (xD tg body a)
section
variable{T:Tb}{X:Cx}
theorem iE{e:List Addr}{H1:Hp}{h:db}{l:Fl}{gl:ul}{D:Ends}{k:Ev->M Fl}{N:St->Hp->Prop}(m:Rel T e H1 h)(f:Vm T e H1 l gl)(j:Cb T EN (Vm T) e H1 (bu k l h) (Nl X D))
  (hN:∀ b a,eh T e H1 b a->Cb T EN (Vm T) e H1 (k b h) (Nl X D)->N a H1):Nl X { D with nx:=N,ct:=N,bk:=D.nx } gl H1:=by
 cases l with
 |nx b=>cases gl with
  |nx a=>exact hN b a f j
  |_=>exact f.elim
 |ct b=>cases gl with
  |ct a=>exact hN b a f j
  |_=>exact f.elim
 |bk b=>cases gl with
  |bk a=>have z:Nl X D (ul.nx a) H1:=Cb.here (g:=ul.nx a) (d:=Fl.nx b) j m f;exact z
  |_=>exact f.elim
 |rt n=>cases gl with
  |rt v2=>have z:Nl X D (ul.rt v2) H1:=Cb.here (g:=ul.rt v2) (d:=Fl.rt n) j m f;exact z
  |_=>exact f.elim
 |xc b x=>cases gl with
  |xc a c i=>have z:Nl X D (ul.xc a c i) H1:=Cb.here (g:=ul.xc a c i) (d:=Fl.xc b x) j m f;exact z
  |_=>exact f.elim
variable{tgt iter:Ea}{body:List Stmt}{src:Ev->M Src}{t:D->Ev->Option Ev}{g:Ev->M Fl}{pos:se}
theorem Ys(W:Ds (model X.prog X.w) X.A X.env X.xe)(hc:X.calm=true)(hi:FI T X tgt iter src)(hg:FG T X tgt t)(hb:Qo T X body g)
  (hs:∀ x,vg iter X.env x=pure x:=by intro _;rfl):FS T X (.For tgt iter body [] pos) (Cp src t g):=by
 intro R s st H D I hq;refine xO W hc hi hg hb hs R s st H D I ?_;obtain⟨e,l,r,U,hr,W⟩:=hq;refine⟨e,l,r,U,hr,W.xs U λsrc C k J P _ e1 r1 q1 p1=>?_⟩;cases src with
 |seq ds=>
  have L:Cb T EN (Vm T) k P (Uk t g ds l C) (Nl X D):=p1;refine⟨λi m p b=>m=ds.length - i/\∃ e l r,Ext k P e b/\eh T e b l p/\Rel T e b r/\Cb T EN (Vm T) e b (Uk t g (ds.drop i) l r) (Nl X D),⟨ds.length,by simp,k,l,C,Ext.refl _ _,U.mono e1,r1,by simpa using L⟩,?_⟩;rintro i m p b ⟨rfl,f,v,j,ex,u,B,c⟩;have so:=q1 f b j i ex B;have a:match (some ds[i]?:Option (Option L4.D))with|none=>True|some none=>J.stop i b|some (some d)=>J.go i b/\∀ x Q,J.ny i b x Q->Q=b/\Rep T f b d x:=so
  cases E:ds[i]? with
  |none=>
   rw[E]at a;rw[Op (Fb.mp E)]at c;exact .inl ⟨a,Cb.here (g:=ul.nx p) c B u⟩
  |some d=>
   rw[E]at a;obtain⟨hl,ed⟩:=ka.mp E;have hd:ds.drop i=d::ds.drop (i+1):=by rw[<-ed];exact(Wn hl)
   rw[hd]at c;unfold Uk at c;refine .inr ⟨a.1,λq o=>∃ e l r,Ext k P e o/\eh T e o l q/\Rel T e o r/\Cb T EN (Vm T) e o (Uk t g (ds.drop (i+1)) l r) (Nl X D),λq o h=>⟨ds.length - (i+1),by omega,rfl,h⟩,λx o y=>?_⟩;obtain⟨rfl,Y⟩:=a.2 x o y;cases K:t d v with
   |none=>rw[K]at c;exact c.elim
   |some z=>
    rw[K]at c;exact⟨f,j,v,d,z,u,B,Y,K,λq F=>⟨f,z,j,F,B,c.bind λfl O M gl H4 _ V S q4 p4=>iE S q4 p4 λN a0 G Z=>⟨M,N,O,ex.trans V,G,S,Z⟩⟩⟩
 |cr n=>
  have L:Cb T EN (Vm T) k P (Br t g n 1001 0 l C) (Nl X D):=p1;refine⟨λi m p b=>∃ e l r,Ext k P e b/\eh T e b l p/\Rel T e b r/\Cb T EN (Vm T) e b (Br t g n m i l r) (Nl X D),⟨1001,k,l,C,Ext.refl _ _,U.mono e1,r1,L⟩,?_⟩;rintro i m p b ⟨f,v,j,ex,u,B,c⟩;cases m with
  |zero=>exact c.elim
  |succ m=>
   unfold Br at c;have so:=q1 f b j i ex B;have a:match ((Hi j n).map λxs=>xs[i]?:Option (Option L4.D))with|none=>True|some none=>J.stop i b|some (some d)=>J.go i b/\∀ x Q,J.ny i b x Q->Q=b/\Rep T f b d x:=so
   cases el:Hi j n with
   |none=>simp only[el]at c;exact c.elim
   |some xs=>
    simp only[el]at c a;cases E:xs[i]? with
    |none=>
     simp only[E,zg]at c a;exact .inl ⟨a,Cb.here (g:=ul.nx p) c B u⟩
    |some d=>
     simp only[E,zg]at c a;refine .inr ⟨a.1,λq o=>∃ e l r,Ext k P e o/\eh T e o l q/\Rel T e o r/\Cb T EN (Vm T) e o (Br t g n m (i+1) l r) (Nl X D),λq o h=>⟨m,yb _,h⟩,λx o y=>?_⟩;obtain⟨rfl,Y⟩:=a.2 x o y;cases K:t d v with
     |none=>simp only[K]at c;exact c.elim
     |some z=>
      simp only[K]at c;exact⟨f,j,v,d,z,u,B,Y,K,λq F=>⟨f,z,j,F,B,c.bind λfl O M gl H4 _ V S q4 p4=>iE S q4 p4 λN a0 G Z=>⟨M,N,O,ex.trans V,G,S,Z⟩⟩⟩
end
mutual
noncomputable def cl:D->Bool
 | .tup xs=>Nh xs
 | .lst xs=>Nh xs
 | .va _ xs=>Nh xs
 | .obj _ _ xs=>Nh xs
 | .ref _=>false
 | .Hb=>true
 | .bl _=>true
 | .int _=>true
 | .str _=>true
 | .Pi _=>true
 | .Vt _=>true
 | .gt _=>true
noncomputable def Nh:List D->Bool
 |[]=>true
 |d::ds=>cl d && Nh ds
end
noncomputable def qo(f:D->Option D):List D->Option (List D)
 |[]=>some []
 |d::ds=>match f d,qo f ds with
  |some x,some xs=>some (x::xs)
  |_,_=>none
noncomputable def fz(k:Nat)(σ:db):Nat->D->Option D
 |0,d=>if cl d=true then some d else match d with
  | .ref n=>if n<k then some (.ref n)else none
  |_=>none
 |m+1,d=>if cl d=true then some d else match d with
  | .ref n=>if n<k then some (.ref n)else match σ[n]? with
   |some (.lst xs)=>(qo (fz k σ m) xs).map .lst
   |some (.va a)=>(qo (fz k σ m) (a.map (·.2))).map (.va (a.map (·.1)))
   |some (.ins c fs)=>(qo (fz k σ m) (fs.map (·.2))).map (.obj c (fs.map (·.1)))
   |some (.lb _)=>none
   |some (.og _)=>none
   |none=>none
  | .tup xs=>(qo (fz k σ m) xs).map .tup
  | .lst xs=>(qo (fz k σ m) xs).map .lst
  | .va b xs=>(qo (fz k σ m) xs).map (.va b)
  | .obj c ns xs=>(qo (fz k σ m) xs).map (.obj c ns)
  |_=>none
open Classical in
noncomputable def Xf(σ:db):Out D->Out D
 | .ok d a=>if a.take σ.length=σ then (match fz σ.length a 6 d with
  |some b=>.ok b σ
  |none=>.bad)else .bad
 | .ex x a=>if a.take σ.length=σ then .ex x σ else .bad
 | .bad=>.bad
noncomputable def rb(f:M D):M D:=λa=>Xf a (f a)
section
variable{T:Tb}{μ μ':List Addr}{H H':Hp}{σ σ':db}
mutual
theorem IF(e:∃ r,μ'=μ++r):∀ (d:D) (v:V),cl d=true->Rep T μ' H d v->Rep T μ H d v
 | .Hb,v,_,h=>by simpa [Rep]using h
 | .bl b,v,_,h=>by simpa [Rep]using h
 | .int i,v,_,h=>by simpa [Rep]using h
 | .str x,v,_,h=>by simpa [Rep]using h
 | .tup ds,v,c,h=>by
  rw[Rep]at h ⊢;obtain⟨p,l,f,g,j⟩:=h;exact⟨p,l,f,g,eA e ds l (by simpa [cl]using c) j⟩
 | .Pi ns,v,_,h=>by rw[Rep]at h ⊢;exact h
 | .ref n,v,c,h=>by simp[cl]at c
 | .lst ds,v,c,h=>by
  rw[Rep]at h ⊢;obtain⟨a,l,f,g,j,m⟩:=h;exact⟨a,l,f,λz=>g (by obtain⟨r,rfl⟩:=e;exact Pa _ z),j,eA e ds l (by simpa [cl]using c) m⟩
 | .va B ds,v,c,h=>by
  rw[Rep]at h ⊢;obtain⟨a,l,f,g,j,o,m⟩:=h;exact⟨a,l,f,λz=>g (by obtain⟨r,rfl⟩:=e;exact Pa _ z),j,o,eA e ds _ (by simpa [cl]using c) m⟩
 | .obj k ns ds,v,c,h=>by
  rw[Rep]at h ⊢;obtain⟨a,u,l,f,g,j,o,m⟩:=h;exact⟨a,u,l,f,λz=>g (by obtain⟨r,rfl⟩:=e;exact Pa _ z),j,o,eA e ds _ (by simpa [cl]using c) m⟩
 | .Vt k,v,_,h=>by
  rw[Rep]at h ⊢;obtain⟨a,t,f,g,j,m⟩:=h;exact⟨a,t,f,λz=>g (by obtain⟨r,rfl⟩:=e;exact Pa _ z),j,λn q=>let ⟨s,w,y,A⟩:=m n q;⟨s,w,λz=>y (by obtain⟨r,rfl⟩:=e;exact Pa _ z),A⟩⟩
 | .gt ss,v,_,h=>by rw[Rep]at h ⊢;exact h
theorem eA(e:∃ r,μ'=μ++r):∀ (ds:List D) (vs:List V),Nh ds=true->Ra T μ' H ds vs->Ra T μ H ds vs
 |[],vs,_,h=>by simpa [Ra]using h
 |d::ds,vs,c,h=>by
  rw[Ra]at h ⊢;obtain⟨v,r,b,f,g⟩:=h;have a:cl d=true/\Nh ds=true:=by simpa [Nh,Ma]using c
  exact⟨v,r,b,IF e d v a.1 f,eA e ds r a.2 g⟩
end
mutual
theorem Rep.down(e:∃ r,μ'=μ++r):∀ (d:D) (v0 v:V),Rep T μ H d v0->Rep T μ' H' d v->Rep T μ H' d v
 | .Hb,v0,v,_,h=>by simpa [Rep]using h
 | .bl b,v0,v,_,h=>by simpa [Rep]using h
 | .int i,v0,v,_,h=>by simpa [Rep]using h
 | .str x,v0,v,_,h=>by simpa [Rep]using h
 | .tup ds,v0,v,c,h=>by
  rw[Rep]at h c ⊢;obtain⟨p,m,g,f,l⟩:=h;obtain⟨I,j,_,_,w⟩:=c;exact⟨p,m,g,f,Ra.down e ds j m w l⟩
 | .Pi ns,v0,v,_,h=>by rw[Rep]at h ⊢;exact h
 | .ref n,v0,v,c,h=>by
  rw[Rep]at h c ⊢;obtain⟨a,g,f⟩:=h;obtain⟨b,_,u⟩:=c;refine⟨a,g,?_⟩;obtain⟨r,rfl⟩:=e;rw[Ua (ka.mp u).1]at f;exact f
 | .lst ds,v0,v,c,h=>by
  rw[Rep]at h c ⊢;obtain⟨a,m,g,f,l,o⟩:=h;obtain⟨_,j,_,_,_,s⟩:=c;exact⟨a,m,g,λz=>f (by obtain⟨r,rfl⟩:=e;exact Pa _ z),l,Ra.down e ds j m s o⟩
 | .va G ds,v0,v,c,h=>by
  rw[Rep]at h c ⊢;obtain⟨a,m,g,f,l,t,o⟩:=h;obtain⟨_,j,_,_,_,_,s⟩:=c;exact⟨a,m,g,λz=>f (by obtain⟨r,rfl⟩:=e;exact Pa _ z),l,t,Ra.down e ds _ _ s o⟩
 | .obj k ns ds,v0,v,c,h=>by
  rw[Rep]at h c ⊢;obtain⟨a,B,m,g,f,l,t,o⟩:=h;obtain⟨_,_,j,_,_,_,_,s⟩:=c;exact⟨a,B,m,g,λz=>f (by obtain⟨r,rfl⟩:=e;exact Pa _ z),l,t,Ra.down e ds _ _ s o⟩
 | .Vt k,v0,v,_,h=>by
  rw[Rep]at h ⊢;obtain⟨a,A,g,f,l,o⟩:=h;exact⟨a,A,g,λz=>f (by obtain⟨r,rfl⟩:=e;exact Pa _ z),l,λn q=>let ⟨y,C,E,F⟩:=o n q;⟨y,C,λz=>E (by obtain⟨r,rfl⟩:=e;exact Pa _ z),F⟩⟩
 | .gt ss,v0,v,_,h=>by rw[Rep]at h ⊢;exact h
theorem Ra.down(e:∃ r,μ'=μ++r):∀ (ds:List D) (a vs:List V),Ra T μ H ds a->Ra T μ' H' ds vs->Ra T μ H' ds vs
 |[],a,vs,_,h=>by simpa [Ra]using h
 |d::ds,a,vs,c,h=>by
  rw[Ra]at h c ⊢;obtain⟨v,r,g,i,j⟩:=h;obtain⟨l,k,_,b,f⟩:=c;exact⟨v,r,g,Rep.down e d l v b i,Ra.down e ds k r f j⟩
end
theorem IB{f:Type}(e:∃ r,μ'=μ++r):∀ {xs:List (f × D)} {ys g:List (f × V)},Paired (λ(p:f × D) (q:f × V)=>p.1=q.1/\Rep T μ H p.2 q.2) xs g->Paired (λ(p:f × D) (q:f × V)=>p.1=q.1/\Rep T μ' H' p.2 q.2) xs ys->Paired (λ(p:f × D) (q:f × V)=>p.1=q.1/\Rep T μ H' p.2 q.2) xs ys
 |_,_,_,.nil,.nil=>.nil
 |_,_,_,.cons a b,.cons c d=>.cons ⟨c.1,Rep.down e _ _ _ a.2 c.2⟩ (IB e b d)
theorem Dn.down(e:∃ r,μ'=μ++r){a:Addr}:∀ {o:Ob},Dn T μ H a o->Dn T μ' H' a o->Dn T μ H' a o
 | .lst ds,⟨_,_,c⟩,⟨b,h,r⟩=>⟨b,h,Ra.down e _ _ _ c r⟩
 | .va f,⟨_,_,c⟩,⟨b,h,r⟩=>⟨b,h,IB e c r⟩
 | .ins c fs,⟨_,_,_,d⟩,⟨g,b,h,r⟩=>⟨g,b,h,IB e d r⟩
 | .lb f,⟨_,_,_,d⟩,⟨i,b,h,r⟩=>⟨i,b,h,IB e d r⟩
 | .og j,_,⟨b,h,r⟩=>⟨b,h,r⟩
theorem Rel.down(c:Rel T μ H σ)(r:Rel T μ' H' σ')(e:Ext μ H μ' H')(m:σ'.take σ.length=σ):Rel T μ H' σ/\Ext μ H μ H':=by
 refine⟨⟨c.len,c.nd,λn o h=>?_,r.tb.sub λb hb=>by obtain⟨z,rfl⟩:=e.pre;exact Pa _ hb⟩,⟨⟨[],by simp⟩,e.tup,e.rb,λp o h n=>⟨(e.keep p o h n).1,n⟩⟩⟩;obtain⟨a,f,i⟩:=c.obs n o h;have g:σ'[n]?=some o:=by
  have l:=(ka.mp h).1;rw[<-m,Fo l]at h;exact h
 obtain⟨b,j,k⟩:=r.obs n o g;have d:=e.get f;rw[j]at d;cases d;exact⟨a,f,i.down e.pre k⟩
theorem KF{c:Type}:∀ {xs:List (c × D)} {ys:List (c × V)},Paired (λ(p:c × D) (q:c × V)=>p.1=q.1/\Rep T μ H p.2 q.2) xs ys->ys.map (·.1)=xs.map (·.1)/\Ra T μ H (xs.map (·.2)) (ys.map (·.2))
 |_,_,.nil=>⟨rfl,Ra.nil⟩
 |_,_,.cons a b=>by
  obtain⟨d,e⟩:=KF b;exact⟨by simp[d,a.1],Ra.cons a.2 e⟩
theorem uL{f:D->Option D}(c:∀ d d' v,f d=some d'->Rep T μ' H d v->Rep T μ H d' v):∀ (ds a:List D) (vs:List V),qo f ds=some a->Ra T μ' H ds vs->Ra T μ H a vs
 |[],a,vs,h,r=>by cases h;simpa [Ra]using r
 |d::ds,a,vs,h,r=>by
  unfold qo at h;cases e1:f d with
  |none=>rw[e1]at h;cases h
  |some x=>
   cases b:qo f ds with
   |none=>rw[e1,b]at h;cases h
   |some xs=>
    rw[e1,b]at h;cases h;rw[Ra]at r;obtain⟨v,w,rfl,e,g⟩:=r;exact Ra.cons (c d x v e1 e) (uL c ds xs w b g)
theorem SJ(e:∃ r,μ'=μ++r)(r:Rel T μ' H σ'):∀ (m:Nat) (d d':D) (v:V),fz μ.length σ' m d=some d'->Rep T μ' H d v->Rep T μ H d' v:=by
 have E:∀ n v,n<μ.length->Rep T μ' H (.ref n) v->Rep T μ H (.ref n) v:=λn v hn h=>by
  rw[Rep]at h ⊢;obtain⟨a,l,g⟩:=h;obtain⟨q,rfl⟩:=e;rw[Ua hn]at g;exact⟨a,l,g⟩
 intro m;induction m with
 |zero=>
  intro d d' v h s;unfold fz at h;by_cases x:cl d=true
  ·rw[da x]at h;cases h;exact IF e _ _ x s
  ·rw[ga x]at h;cases d with
   |ref n=>
    dsimp only at h;by_cases hn:n<μ.length
    ·rw[da hn]at h;cases h;exact E n v hn s
    ·rw[ga hn]at h;cases h
   |_=>cases h
 |succ m P=>
  intro d d' v h s;unfold fz at h;by_cases x:cl d=true
  ·rw[da x]at h;cases h;exact IF e _ _ x s
  ·rw[ga x]at h;have go:=uL (T:=T) (μ:=μ) (μ':=μ') (H:=H) (f:=fz μ.length σ' m) (λd d' v a b=>P d d' v a b);cases d with
   |ref n=>
    dsimp only at h;by_cases hn:n<μ.length
    ·rw[da hn]at h;cases h;exact E n v hn s
    ·rw[ga hn]at h;cases I:σ'[n]? with
     |none=>rw[I]at h;cases h
     |some o=>
      rw[I]at h;obtain⟨a,rfl,N,y⟩:=r.at s I;have out:a ∉ μ:=λz=>by
       obtain⟨i,M⟩:=Qq z;obtain⟨q,rfl⟩:=e;have O:=(ka.mp M).1;have:=ZB r.nd (i:=i) (j:=n) (by rw[Ua O];exact M) N;omega
      cases o with
      |lst xs=>
       obtain⟨t,l,g⟩:=xb.mp h;subst g;obtain⟨k,B,C⟩:=y;rw[Rep];exact⟨a,k,rfl,out,B,go xs t k l C⟩
      |va L=>
       obtain⟨t,l,g⟩:=xb.mp h;subst g;obtain⟨k,B,C⟩:=y;obtain⟨J,K⟩:=KF C;rw[Rep];exact⟨a,k,rfl,out,(.inl B),J,go _ t _ l K⟩
      |ins c fs=>
       obtain⟨t,l,g⟩:=xb.mp h;subst g;obtain⟨F,k,B,C⟩:=y;obtain⟨J,K⟩:=KF C;rw[Rep];exact⟨a,F,k,rfl,out,B,J,go _ t _ l K⟩
      |lb L=>cases h
      |og _=>cases h
   |tup xs=>
    obtain⟨t,l,g⟩:=xb.mp h;subst g;rw[Rep]at s ⊢;obtain⟨p,k,e1,u,w⟩:=s;exact⟨p,k,e1,u,go xs t k l w⟩
   |lst xs=>
    obtain⟨t,l,g⟩:=xb.mp h;subst g;rw[Rep]at s ⊢;obtain⟨p,k,e1,A,u,w⟩:=s;exact⟨p,k,e1,λz=>A (by obtain⟨r,rfl⟩:=e;exact Pa _ z),u,go xs t k l w⟩
   |va Q xs=>
    obtain⟨t,l,g⟩:=xb.mp h;subst g;rw[Rep]at s ⊢;obtain⟨p,k,e1,A,u,G,w⟩:=s;exact⟨p,k,e1,λz=>A (by obtain⟨r,rfl⟩:=e;exact Pa _ z),u,G,go xs t _ l w⟩
   |obj c Q xs=>
    obtain⟨t,l,g⟩:=xb.mp h;subst g;rw[Rep]at s ⊢;obtain⟨p,F,k,e1,A,u,G,w⟩:=s;exact⟨p,F,k,e1,λz=>A (by obtain⟨r,rfl⟩:=e;exact Pa _ z),u,G,go xs t _ l w⟩
   |_=>cases h
theorem Cb.rb{E:XK}{f:M D}{Q:V->Hp->Prop}(r:Rel T μ H σ)(h:Cb T E (Rep T) μ H (rb f σ) Q):Cb T E (Rep T) μ H (f σ) Q:=by
 unfold L4.rb at h;cases e:f σ with
 |bad=>rw[e]at h;exact h
 |ex x a=>
  rw[e]at h;unfold Xf at h;dsimp only at h;by_cases b:a.take σ.length=σ
  ·rw[da b]at h;intro l g e1 c;obtain⟨k,i⟩:=Rel.down r c e1 b;exact h μ g i k
  ·rw[ga b]at h;exact h.elim
 |ok d a=>
  rw[e]at h;unfold Xf at h;dsimp only at h;by_cases b:a.take σ.length=σ
  ·rw[da b]at h;cases j:fz σ.length a 6 d with
   |none=>rw[j]at h;exact h.elim
   |some m=>
    rw[j]at h;intro l v g e1 c n;obtain⟨k,i⟩:=Rel.down r c e1 b;exact h μ v g i k (SJ e1.pre c 6 d m v (by rw[r.len];exact j) n)
  ·rw[ga b]at h;exact h.elim
end
noncomputable def Zi(f:Ev->M D):Ev->M D:=λa=>rb (f a)
theorem Ap{T:Tb}{X:Cx}{e:Ea}{f:Ev->M D}(h:FE T X e f):FE T X e (Zi f):=by
 intro a s i H Q I g;obtain⟨j,k,l,c,b,d⟩:=g;exact h a s i H Q I ⟨j,k,l,c,b,Cb.rb b d⟩
end L4
namespace L4
open PySem PySem.Spec PyProof.Rows L2
noncomputable def DK(h h':Heap):Prop:=∀ (a:Nat) o,h.objs[a]?=some o->∃ b:Obj,h'.objs[a]?=some b/\b.dict=o.dict
theorem DK.refl(h:Heap):DK h h:=λ_ o e=>⟨o,e,rfl⟩
theorem DK.trans{d f h3:Heap}(x:DK d f)(y:DK f h3):DK d h3:=λa o e=>by
 obtain⟨h,g,q⟩:=x a o e;obtain⟨c,b,i⟩:=y a h g;exact⟨c,b,i.trans q⟩
theorem DK.push(h:Heap)(o:Obj):DK h (h.push o):=λa u e=>by
 obtain⟨b,l⟩:=h;have e:b[a]?=some u:=e;have c:=(Ac.mp e).1;refine⟨u,?_,rfl⟩;show (b.push o)[a]?=some u;rw[Array.getElem?_push_lt c];exact(nb c).symm.trans e
theorem DK.update(h:Heap)(b:Addr){f:Obj->Obj}(d:∀ o,(f o).dict=o.dict):DK h (h.update b f):=λa u e=>by
 obtain⟨c,l⟩:=h;have e:c[a]?=some u:=e;show ∃ g:Obj,(c.modify b f)[a]?=some g/\_;rw[Array.getElem?_modify];by_cases hb:b=a
 ·rw[da hb,e];exact⟨f u,rfl,d u⟩
 ·rw[ga hb];exact⟨u,e,rfl⟩
theorem DK.get{h h':Heap}(x:DK h h'){a:Addr}{o o':Obj}(e:h.get? a=some o)(b:h'.get? a=some o'):o'.dict=o.dict:=by
 obtain⟨u,c,d⟩:=x a o ((Jt _ _ _).1 e).1;have:=((Jt _ _ _).1 b).1;have z:some u=some o':=c.symm.trans this;cases z;exact d
structure KD{α:Type}(t:Io α):Prop where
 out:∀ (M:Rj) (Γ:PySem.Ctx) (Q:α->se->Shared->Prop) (E:Value->se->Shared->Prop) (p:se) (s:Shared),Sem.wp M Γ t Q E p s->Sem.wp M Γ t (λa p' s'=>Q a p' s'/\DK s.heap s'.heap) (λe p' s'=>E e p' s'/\DK s.heap s'.heap) p s
namespace KD
variable{α β:Type}
theorem fr(a:α):KD (Pure.pure a:Io α):=⟨λ_ _ _ _ _ s h=>⟨h,.refl _⟩⟩
theorem Qs(w:String):KD (PySem.unsupported w:Io α):=⟨λ_ _ _ _ _ _ h=>h⟩
theorem Fc{m:Io α}{f:α->Io β}(hm:KD m)(e:∀ a,KD (f a)):KD (m >>= f):=⟨λM b Q E p s h=>by
 rw[Fk]at h ⊢;refine Gr M b m (λa c d z=>?_) (λ_ _ _ z=>z) p s (hm.out M b _ _ p s h);exact Gr M b (f a) (λ_ _ _ q=>⟨q.1,z.2.trans q.2⟩) (λ_ _ _ q=>⟨q.1,z.2.trans q.2⟩) c d ((e a).out M b _ _ c d z.1)⟩
theorem Bl{c:Prop}[Decidable c]{t u:Io α}(a:KD t)(b:KD u):KD (if c then t else u):=by split<;>assumption
theorem ld(a:Addr):KD (PySem.load a):=⟨λ_ _ _ _ _ _ h=>by obtain⟨o,b,h⟩:=h;exact⟨o,b,h,.refl _⟩⟩
theorem upd(a:Addr){f:Obj->Obj}(b:∀ o,(f o).dict=o.dict):KD (PySem.update a f):=⟨λ_ _ _ _ _ _ h=>⟨h.1,h.2,.update _ _ b⟩⟩
theorem Lp:KD PySem.stack:=⟨λM a Q E p s h=>by
 unfold PySem.stack at h ⊢;rw[Sem.wp_stack]at h ⊢;exact⟨h,.refl _⟩⟩
theorem Xs(o:Obj):KD (PySem.alloc o):=⟨λ_ _ _ _ _ _ h=>⟨h,.push _ _⟩⟩
theorem fld(v:Value)(i:Nat):KD (PySem.field v i):=⟨λ_ f Q E p s h=>by
 rw[Kt]at h ⊢;obtain⟨a,o,e,x,e1,b,c,d,h⟩:=h;exact⟨a,o,e,x,e1,b,c,d,h,.refl _⟩⟩
theorem set(v:Value)(i:Nat)(x:Value):KD (PySem.setField v i x):=⟨λ_ l Q E p s h=>by
 rw[QD]at h ⊢;obtain⟨a,o,j,e1,e,f,g,h⟩:=h;exact⟨a,o,j,e1,e,f,g,h,.update _ _ λo=>by obtain⟨c,d,b,k⟩:=o;cases b<;>rfl⟩⟩
end KD
theorem NV(env:Cg)(l:List Cg):KD (PH env l):=by unfold PH;(repeat' with_reducible first|assumption|exact KD.fr _|exact KD.Qs _|exact KD.fld _ _|exact KD.set _ _ _|exact KD.ld _|exact KD.upd _ (λ_=>rfl)|exact KD.Lp|exact KD.Xs _|apply KD.Bl|apply KD.Fc|intro _|split)
theorem n4:KD underTheClaimsCaller:=by unfold underTheClaimsCaller;(repeat' with_reducible first|assumption|exact KD.fr _|exact KD.Qs _|exact KD.fld _ _|exact KD.set _ _ _|exact KD.ld _|exact KD.upd _ (λ_=>rfl)|exact KD.Lp|exact KD.Xs _|apply KD.Bl|apply KD.Fc|intro _|split)
theorem i4(env:Cg)(i:Bool)(l:List Cg):KD (keptBack env i l):=by
 have:=n4;cases l<;>unfold keptBack<;>(repeat' with_reducible first|assumption|exact KD.fr _|exact KD.Qs _|exact KD.fld _ _|exact KD.set _ _ _|exact KD.ld _|exact KD.upd _ (λ_=>rfl)|exact KD.Lp|exact KD.Xs _|apply KD.Bl|apply KD.Fc|intro _|split)
theorem SM:∀ l:List Cg,KD (Q6 l)
 |[]=>KD.fr _
 |env::l=>by
  have c:=SM l;have b:=NV env l;have a:=λi=>i4 env i l;unfold Q6
  (repeat' with_reducible first|assumption|exact KD.fr _|exact KD.Qs _|exact KD.fld _ _|exact KD.set _ _ _|exact KD.ld _|exact KD.upd _ (λ_=>rfl)|exact KD.Lp|exact KD.Xs _|apply KD.Bl|apply KD.Fc|intro _|split)
  all_goals first|exact a _|skip
theorem gQ(l:List Cg):KD (R6 l):=by
 cases l with
 |nil=>exact KD.fr _
 |cons env l=>
  have:=SM (env::l);unfold R6
  (repeat' with_reducible first|assumption|exact KD.fr _|exact KD.Qs _|exact KD.fld _ _|exact KD.set _ _ _|exact KD.ld _|exact KD.upd _ (λ_=>rfl)|exact KD.Lp|exact KD.Xs _|apply KD.Bl|apply KD.Fc|intro _|split)
theorem YX:KD frameEnvs:=by unfold frameEnvs;(repeat' with_reducible first|assumption|exact KD.fr _|exact KD.Qs _|exact KD.fld _ _|exact KD.set _ _ _|exact KD.ld _|exact KD.upd _ (λ_=>rfl)|exact KD.Lp|exact KD.Xs _|apply KD.Bl|apply KD.Fc|intro _|split)
theorem j3(env:Cg):KD (PySem.frameOf env):=by
 have b:=YX;have a:=gQ;unfold PySem.frameOf
 (repeat' with_reducible first|assumption|exact KD.fr _|exact KD.Qs _|exact KD.fld _ _|exact KD.set _ _ _|exact KD.ld _|exact KD.upd _ (λ_=>rfl)|exact KD.Lp|exact KD.Xs _|apply KD.Bl|apply KD.Fc|intro _|split)
 all_goals first|exact a _|skip
theorem PV(f:Addr)(b:Bool):KD (K4 f b):=by unfold K4;(repeat' with_reducible first|assumption|exact KD.fr _|exact KD.Qs _|exact KD.fld _ _|exact KD.set _ _ _|exact KD.ld _|exact KD.upd _ (λ_=>rfl)|exact KD.Lp|exact KD.Xs _|apply KD.Bl|apply KD.Fc|intro _|split)
theorem hZ(a b c d e:Value)(l:List Value):KD (eo a b c d e l):=by
 unfold eo sB newObj newObjAsIs;dsimp only
 (repeat' with_reducible first|assumption|exact KD.fr _|exact KD.Qs _|exact KD.fld _ _|exact KD.set _ _ _|exact KD.ld _|exact KD.upd _ (λ_=>rfl)|exact KD.Lp|exact KD.Xs _|apply KD.Bl|apply KD.Fc|intro _|split)
theorem nU(e:Value)(env:Cg):KD (uh e env):=by
 have c:=j3 env;have a:=PV;have b:=hZ;unfold uh
 (repeat' with_reducible first|assumption|exact KD.fr _|exact KD.Qs _|exact KD.fld _ _|exact KD.set _ _ _|exact KD.ld _|exact KD.upd _ (λ_=>rfl)|exact KD.Lp|exact KD.Xs _|apply KD.Bl|apply KD.Fc|intro _|split)
 all_goals first|exact a _ _|exact b _ _ _ _ _ _|skip
theorem GT(e:Value)(f:Option Addr):KD (dk e f):=by unfold dk;(repeat' with_reducible first|assumption|exact KD.fr _|exact KD.Qs _|exact KD.fld _ _|exact KD.set _ _ _|exact KD.ld _|exact KD.upd _ (λ_=>rfl)|exact KD.Lp|exact KD.Xs _|apply KD.Bl|apply KD.Fc|intro _|split)
theorem PN{e:Type}{M:Rj}{A:Ja}{t:Io e}{Q:e->Shared->Prop}{E:Value->Shared->Prop}{s:Shared}(k:KD t)(h:wpAny M A t Q E s):wpAny M A t (λa d=>Q a d/\DK s.heap d.heap) E s:=
 λc p b=>Gr M c t (λ_ _ _ z=>z) (λ_ _ _ z=>z.1) p s (k.out M c _ _ p s (h c p b))
section
variable{P:ra}{w:Ia}{H H':Hp}{h h':Heap}{a:Addr}{o:HO}
theorem fM(x:Wh P w H h a o):∃ u,h.get? a=some u:=by
 cases o with
 |lst xs=>obtain⟨_,_,_,_,e⟩:=x;exact⟨_,e⟩
 |tup xs=>obtain⟨_,_,_,c,e,_⟩:=x;exact⟨_,e⟩
 |dK b=>obtain⟨_,_,_,_,o,_,_,e,_⟩:=x;exact⟨_,e⟩
 |dT b=>obtain⟨_,_,_,_,o,_,_,e,_⟩:=x;exact⟨_,e⟩
 |set S n=>obtain⟨o,_,_,_,e,_⟩:=x;exact⟨_,e⟩
 |ins C d fs=>obtain⟨_,_,_,e,_⟩:=x;exact⟨_,e⟩
 |own y=>obtain⟨_,e⟩:=x;exact⟨_,e⟩
 |xd fs=>obtain⟨_,⟨_,_,_,e,_⟩,_⟩:=x;exact⟨_,e⟩
 |XB lo g=>obtain⟨_,_,_,e⟩:=x;exact⟨_,e⟩
 |rb c u=>obtain⟨e,_⟩:=x;exact⟨_,e⟩
 |Nr i=>exact⟨_,x⟩
 |met f y=>exact⟨_,x⟩
 |ext j=>obtain⟨_,⟨_,e⟩,_⟩:=x;exact⟨_,e⟩
theorem RN(x:Hh P w H h)(k:∀ b o u,H b=some o->h.get? b=some u->h'.get? b=some u):Hh P w H h':=λb o e=>
 (x b o e).Ql (λc v a q=>by
  rcases a with rfl|a
  ·exact k _ _ _ e q
  ·exact k _ _ _ a q) (λ_ q=>q) λ_ _ q=>q
end
section
variable{X:Cx}{pins:List (Addr × Obj)}{st:St}{H H':Hp}{s s':Shared}{cls:Value}{h':Heap}{ea:Addr}{args:List Value}{M:Rj}{E:Value->Shared->Prop}{Q:Unit->Shared->Prop}
theorem VU{B:Heap}{l:List Cg}{a0:Value}{h:Heap}(x:ez B l ea cls a0 h):mr B l ea cls a0 h:=⟨x.1,x.2.1,x.2.2.1,.inl ⟨.none,x.2.2.2.at⟩⟩
theorem mr.there{B:Heap}{l:List Cg}{a0:Value}{h:Heap}(x:mr B l ea cls a0 h):∃ ob,h.get? ea=some ob/\ob.cls=cls:=by
 obtain⟨_,_,_,⟨d,q⟩|⟨a,e,b,c,_⟩⟩:=x
 ·exact q.there
 ·exact⟨a,b,c⟩
theorem wA.next{a:Option Nat}{B h h' h0:Heap}{H':Hp}(x:wA a ea B h h0 H')(k:DK h h')(e:∃ o,h'.get? ea=some o):wA a ea B h' h0 H':=λn q=>by
 obtain⟨b,c,i,d,f,g⟩:=x n q;obtain⟨o,e⟩:=e;exact⟨b,c,o,e,(k.get d e).trans f,g⟩
theorem rJ{A:Ja}{B:Heap}{l:List Cg}{a0:Value}(x:mr B l ea cls a0 s.heap)(h:∀ a,mr B l ea cls a0 a->s.heap.UpToSlots a->DK s.heap a->Q () { s with heap:=a }):wpAny M A (dk (.ref ea) none) Q E s:=by
 obtain⟨d,f,g,⟨u,c⟩|c⟩:=x
 ·have k:wpAny M A (dk (.ref ea) none) (λ_ s'=>∃ a,s'={ s with heap:=a }/\mr B l ea cls a0 a/\s.heap.UpToSlots a) E s:=
   wpAny_setFlight_noneW d g c λa j m k3 p=>⟨a,rfl,VU ⟨j,f,m,k3⟩,λb o e n=>⟨o.slots,p b o e n⟩⟩
  exact Uc (PN (GT _ _) k) (λ_ _ ⟨⟨a,e,q,r⟩,t⟩=>by subst e;exact h a q r t) λ_ _ z=>z
 ·obtain⟨y,C,i,v,hd,w,h0,a⟩:=id c;unfold dk;refine aa (Pj i hd a ?_);rw[ga (show ¬ ((Sa != Sa)=true)from by decide)];exact ia (h s.heap ⟨d,f,g,.inr c⟩ (.refl _) (.refl _))
theorem M1{A:Ja}{B:Heap}{env:Cg}{outer:List Cg}{L:Addr}{a0:Value}(m:A.frames=some (env::outer))(l:env.frame=some L)(x:mr B (env::outer) ea cls a0 s.heap)
  (G:∀ f,mn B (env::outer) ea cls a0 L f->s.heap.UpToSlots f->Q () { s with heap:=f }):wpAny M A (uh (.ref ea) env) Q E s:=by
 obtain⟨C,u,D,⟨w,i⟩|i⟩:=x
 ·by_cases hm:w=rawInt L
  ·subst hm;exact wpAny_noteFrame_againW l i (G s.heap ⟨C,u,D,i⟩ (.refl _))
  ·obtain⟨oe,N,T,U,t,h,H,hd,f,r,g,y,a,P⟩:=i;have sz:3<t.size:=(Ac.mp P).1;have c:∀ b,b≠T->(s.heap.update T (ge (·.setIfInBounds 3 Sa))).get? b=s.heap.get? b:=λb hb=>Be _ _ (Fe hb);have nr:∀ b o,s.heap.get? b=some o->(∀ v,o.data≠.fields v)->b≠T:=λb o hb hn q=>by
    rw[q,y]at hb;cases hb;exact hn t a
   have d:=cc (ge (·.setIfInBounds 3 Sa)) y (Ke (Lb a _));have up:s.heap.UpToSlots (s.heap.update T (ge (·.setIfInBounds 3 Sa))):=λb o e n=>⟨o.slots,(c b (nr b o e n)).trans e⟩
   have V:ez B (env::outer) ea cls a0 (s.heap.update T (ge (·.setIfInBounds 3 Sa))):=
    ⟨λb o e=>(c b λq=>by rw[q,r]at e;cases e).trans (C b o e),u,D.of_keeps λb o e n=>⟨o,(c b (nr b o e n)).trans e,rfl⟩,
     oe,N,T,_,_,(c ea (Fe g)).trans h,H,hd,f,r,g,d,Lb a _,by simp[sz]⟩
   have J:=wpAny_looks_onW (M:=M) (E:=E) (Q:=Q) (s:={ s with heap:=s.heap.update T (ge (·.setIfInBounds 3 Sa)) }) m l V λh2 q1 q2=>G h2 q1 (up.trans q2);intro Γ p I;have k:=J Γ p I;unfold uh at k ⊢;simp only[l]at k ⊢;rw[Fk,Kt]at k ⊢;obtain⟨a1,o1,v1,x1,e1,Z,d1,R,k⟩:=k;cases e1;have j:s.heap.get? ea=some o1:=(c ea (Fe g)).symm.trans Z;have K:o1=oe:=by rw[h]at j;cases j;rfl
   subst K;rw[hd]at d1;cases d1;rw[f]at R;cases R;refine⟨ea,o1,N,.ref T,rfl,h,hd,f,?_⟩;have nn:(kb T != Sa)=true:=by simp
   simp only[nn,ee]at k ⊢;rw[Fk,Kt]at k ⊢;obtain⟨a2,o2,v2,x2,X,g2,W,S,k⟩:=k;cases X;have F:=d.symm.trans g2;cases F;have z:=(Lb a (·.setIfInBounds 3 Sa)).symm.trans W;cases z;have O:x2=Sa:=by
    have:(t.setIfInBounds 3 Sa)[3]?=some Sa:=by simp[sz]
    rw[this]at S;cases S;rfl
   subst O;refine⟨T,U,t,w,rfl,y,a,P,?_⟩;have n1:(Sa == rawInt L)=false:=by simp[rawInt]
   have n2:(w == rawInt L)=false:=by
    cases q:w == rawInt L with
    |false=>rfl
    |true=>exact absurd (vf.mp q) hm
   simp only[n1,n2,wf,Ph]at k ⊢;rw[Fk,QD]at k ⊢;obtain⟨a3,o3,v3,Y,g3,d3,i3,k⟩:=k;cases Y;refine⟨T,U,t,rfl,y,a,sz,?_⟩;simp only[Heap.update_setField_twice]at k;exact k
 ·obtain⟨oe,N,h,H,hd,hz,h0,f⟩:=i;unfold uh;simp only[l];refine aa (Pj h hd f ?_);rw[ga (by decide)];refine wpAny_entryW (base:=B) (outer:=outer) (a0:=a0) m D l h C u hd hz h0 λh4 hN=>?_;obtain⟨k1,k2,k3,k4⟩:=hN;rw[H]at k3;exact G h4 ⟨k1,u,k2,k3⟩ k4
theorem pZ{A:Ja}{B:Heap}{env:Cg}{outer:List Cg}{L:Addr}{a0:Value}(b:A.frames=some (env::outer))(g:env.frame=some L)(x:mr B (env::outer) ea cls a0 s.heap)
  (f:∀ a,mn B (env::outer) ea cls a0 L a->s.heap.UpToSlots a->DK s.heap a->Q () { s with heap:=a }):wpAny M A (uh (.ref ea) env) Q E s:=by
 have k:wpAny M A (uh (.ref ea) env) (λ_ s'=>∃ a,s'={ s with heap:=a }/\mn B (env::outer) ea cls a0 L a/\s.heap.UpToSlots a) E s:=M1 b g x λa c d=>⟨a,rfl,c,d⟩
 exact Uc (PN (nU _ _) k) (λ_ _ ⟨⟨a,e,c,d⟩,h⟩=>by subst e;exact f a c d h) λ_ _ z=>z
theorem GS{B:Heap}{l:List Cg}{a0:Value}{L:Addr}{h:Heap}(x:mn B l ea cls a0 L h):mr B l ea cls a0 h:=⟨x.1,x.2.1,x.2.2.1,.inl ⟨_,x.2.2.2⟩⟩
theorem wW{A:Ja}{B:Heap}{env:Cg}{outer:List Cg}{L:Addr}{a0:Value}(b:A.frames=some (env::outer))(e:env.frame=some L)(x:mr B (env::outer) ea cls a0 s.heap)
  (d:∀ a,mr B outer ea cls a0 a->s.heap.UpToSlots a->DK s.heap a->Q () { s with heap:=a }):wpAny M A (cz env (.ref ea)) Q E s:=by
 unfold cz;refine aa (pZ b e x λa i j k=>?_);refine rJ (GS i) λc l m n=>?_;obtain⟨f,g,⟨_,_,k3⟩,h⟩:=l;exact d c ⟨f,g,k3,h⟩ (j.trans m) (k.trans n)
theorem aC(hs:X.stack=X.env::X.outer)(a:X.env.frame=some X.env.locals){b:Addr}:b∈yi X.stack ↔ b=X.env.locals\/b∈yi X.outer:=by
 rw[hs];unfold yi;rw[bf,a];exact Ca
theorem XR(I:Inv X pins st H s)(hs:X.stack=X.env::X.outer)(h:X.env.frame=some X.env.locals)(i:X.ex=[]){h'':Heap}(un:Un (yi X.stack) [] H H' s.heap h''):Un (yi X.outer) [] X.H₀ H' X.s₀.heap h'':=by
 have a:∀ b,b ∉ X.ex:=λb z=>by rw[i]at z;cases z
 have d:∀ b o,X.s₀.heap.get? b=some o->b≠X.env.locals:=λb o e=>ua (Da (pa e) I.ok.above);refine⟨λb o e n hb _=>?_,λb o e n hb _=>?_,λb o e n _=>?_,λb o e _=>?_,λb xs e=>un.ai b xs (I.base.ai b xs e),λb o u e=>un.vh b o u (I.base.vh b o u e),λb l e=>?_⟩
 ·exact un.keep b o (I.base.keep b o e n hb (a b)) (I.base.free b o e n (a b)) (λz=>((aC hs h).mp z).elim (d b o e) hb) (by simp)
 ·obtain⟨m,e1⟩:=I.base.slot b o e n hb (a b);obtain⟨g,c⟩:=un.slot b _ e1 (I.base.free b o e n (a b)) ((aC hs h).mpr (.inr hb)) (by simp);exact⟨g,c⟩
 ·obtain⟨f,e1⟩:=I.base.there b o e (a b);exact un.free b f e1 (I.base.free b o e n (a b)) (by simp)
 ·obtain⟨f,e1⟩:=I.base.there b o e (a b);exact un.there b f e1 (by simp)
 ·obtain⟨j,e1⟩:=I.base.Yh b l e;obtain⟨k,c⟩:=un.Yh b _ e1;exact⟨j++k,by rw[c,rj]⟩
theorem KN{P:ra}{w:Ia}{outer:List Cg}{e:Value}{l:Option Nat}(F:Mx P w outer H s cls l H' e s'){h6:Heap}{B:Heap}(p:∀ b o,s.heap.get? b=some o->H b=none->b ∉ yi outer->B.get? b=some o)(r:∀ b o,H' b=some o->∃ ob,B.get? b=some ob)
  (m:∀ b o,s.heap.get? b=some o->b ∉ yi outer->∃ c,B.get? b=some c) (j:∀ b o,B.get? b=some o->s'.heap.get? b=some o) (a:∀ b o,B.get? b=some o->h6.get? b=some o) (g:s'.heap.UpToSlots h6) (f:∀ b∈yi outer,∃ o,s.heap.get? b=some o/\(∀ vs,o.data≠.fields vs)/\H b=none) :
  Un (yi outer) [] H H' s.heap h6/\Hh P w H' h6:=by
 refine⟨⟨λb o e n hb _=>a b o (p b o e n hb),λb o e n hb k=>?_,F.un.free,λb o e k=>?_,F.un.ai,F.un.vh,F.un.Yh⟩,RN F.Pb λb o u e q=>?_⟩
 ·obtain⟨t,e1⟩:=F.un.slot b o e n hb k;obtain⟨c,d,hd,_⟩:=f b hb;rw[e]at d;cases d;obtain⟨h,i⟩:=g b _ e1 hd;exact⟨h,i⟩
 ·by_cases hb:b∈yi outer
  ·obtain⟨c,d,hd,hn⟩:=f b hb;rw[e]at d;cases d;obtain⟨t,e1⟩:=F.un.slot b o e hn hb k;obtain⟨h,i⟩:=g b _ e1 hd;exact⟨_,i⟩
  ·obtain⟨c,e1⟩:=m b o e hb;exact⟨c,a b c e1⟩
 ·obtain⟨ob,e1⟩:=r b o e;have:=j b ob e1;rw[q]at this;cases this;exact a b _ e1
theorem zJ(I:Inv X pins st H s):∀ b∈yi X.stack,∃ o,s.heap.get? b=some o/\(∀ vs,o.data≠.fields vs)/\H b=none:=λb hb=>by
 obtain⟨_,o,e,hd⟩:=I.stack.mem hb;exact⟨o,e,hd,I.Lk b hb⟩
theorem nW(I:Inv X pins st H s)(hs:X.stack=X.env::X.outer)(i:X.env.frame=some X.env.locals)(c:X.ex=[]){e:Value}{j:Option Nat}(F:Mx X.prog X.w X.stack H s cls j H' e s')
  (K:∀ h,Mx X.prog X.w X.outer X.H₀ X.s₀ cls j H' e h->Q () h):wpAny M X.A (cz X.env e) Q E s':=by
 obtain⟨ea,r,B,rfl,x,hn,d,D,C,y,J⟩:=F.ex;have k:mr B (X.env::X.outer) ea cls r s'.heap:=by rw[<-hs];exact x
 refine wW (by rw[<-hs];exact I.ok.frames) i k λl p P R=>K _ ?_;obtain⟨un,Pb⟩:=KN F C D y x.1 p.1 P (zJ I);have a:∀ b,b ∉ X.ex:=λb z=>by rw[c]at z;cases z
 have f:∀ b o,X.s₀.heap.get? b=some o->b≠X.env.locals:=λb o e=>ua (Da (pa e) I.ok.above);have g:∀ b,s.heap.get? b=none->X.s₀.heap.get? b=none:=λb e=>by
  cases q:X.s₀.heap.get? b with
  |none=>rfl
  |some u=>obtain⟨v,t⟩:=I.base.there _ _ q (a _);rw[e]at t;cases t
 have m:wA j ea B l X.s₀.heap H':=λn q=>by
  obtain⟨G,N,O,S,T,U,V,W,Y⟩:=J.next R (let ⟨o,e,_⟩:=p.there;⟨o,e⟩) n q;exact⟨G,N,O,S,T,U,V,W,g _ Y⟩
 refine⟨⟨ea,r,B,rfl,p,hn,?_,D,λb o e n hb=>?_,λb o e hb=>?_,m⟩,F.os.trans I.os,F.bare,XR I hs i c un,Pb⟩
 ·cases q:X.s₀.heap.get? ea with
  |none=>rfl
  |some u=>obtain⟨v,e⟩:=I.base.there _ _ q (a _);rw[d]at e;cases e
 ·exact C b o (I.base.keep b o e n hb (a b)) (I.base.free b o e n (a b)) λz=>((aC hs i).mp z).elim (f b o e) hb
 ·obtain⟨L,q⟩:=I.base.there b o e (a b);exact y b L q λz=>((aC hs i).mp z).elim (f b o e) hb
end
theorem ZS{P:ra}{w:Ia}{K:W.Frag}{mg:qa->Option Value}{base:Heap}{N:List qa}{qual:qa}{scope:Scope}{f:Addr}{d:Value}{A:Ja}{outer:List Cg}{s:Shared}{H:Hp}{E:XK}{i:St}{cls:Value}{b:Option Nat}{a:Hp}
  (h:E cls b a):Ly (Dp (Qk P w) P w K mg base N qual scope f d A outer s H E) i cls b a where
 xB:=λc j l e k I F=>nW I rfl rfl rfl F λg G=>⟨cls,b,a,G,h⟩
theorem Ly.made{X:Cx}{d:List (Addr × Obj)}{l:St}{h:Hp}{s:Shared}{cls:Value}{f:Addr}{h':Heap}{i:List Value}(t:Ly X l cls none h)(I:Inv X d l h s)(c:Heap.MadeExcOf s.heap h' f cls i):X.xe (.ref f) { s with heap:=h' }:=by
 have m:s.heap.FunFrames (W.hideAll s.heap (yi X.stack)) X.stack:=W.funFrames_hide (as:=yi X.stack) I.stack (λenv j a p=>xj.mpr ⟨env,j,p⟩);have g:∀ b o,s.heap.get? b=some o->b ∉ yi X.stack->(W.hideAll s.heap (yi X.stack)).get? b=some o:=λb o e n=>LD _ e n;obtain⟨w,j,r,x⟩:=c.there;have k:∀ b o,h b=some o->b ∉ yi X.stack:=λb o e z=>by rw[I.Lk b z]at e;cases e
 have hn:h f=none:=by
  cases q:h f with
  |none=>rfl
  |some u=>obtain⟨v,e⟩:=fM (I.Pb _ _ q);rw[c.new]at e;cases e
 refine t.xB d h s (.ref f) _ I ⟨⟨f,.ref w,W.hideAll s.heap (yi X.stack),rfl,⟨λb o q=>c.keeps b o (Cr _ q),?_,m.of_keeps λb o e _=>⟨o,c.keeps b o e,rfl⟩,.inr ⟨_,_,j,rfl,rfl,by simp,rfl,rfl⟩⟩,hn,c.new,λb o e=>?_,λb o e n hb=>g b o e hb,λb o e hb=>⟨o,g b o e hb⟩,λn q=>by cases q⟩,rfl,I.bare,⟨λb o e n hb _=>c.keeps b o e,λb o e n hb _=>⟨o.slots,c.keeps b o e⟩,λb o e n _=>n,λb o e _=>⟨o,c.keeps b o e⟩,λ_ _ e=>e,λ_ _ _ e=>e,λb y e=>⟨#[],by rw[e];simp⟩⟩,RN I.Pb λb o u e q=>c.keeps b u q⟩
 ·cases q:(W.hideAll s.heap (yi X.stack)).get? f with
  |none=>rfl
  |some u=>have:=Cr _ q;rw[c.new]at this;cases this
 ·obtain⟨u,q⟩:=fM (I.Pb _ _ e);exact⟨u,g b u q (k b o e)⟩
theorem sm{P:ra}{w:Ia}{K:W.Frag}{mg:qa->Option Value}{base:Heap}{N:List qa}{qual:qa}{scope:Scope}{f:Addr}{a:Value}{A:Ja}{outer:List Cg}{s:Shared}{H:Hp}{E:XK} :
  Ds (model P w) (Dp (Qk P w) P w K mg base N qual scope f a A outer s H E).A (Dp (Qk P w) P w K mg base N qual scope f a A outer s H E).env (Dp (Qk P w) P w K mg base N qual scope f a A outer s H E).xe:=w4
noncomputable def pR:Fl->M D
 | .nx _=>ret .Hb
 | .rt d=>ret d
 | .xc _ x=>λa=>.ex x a
 |_=>bad
noncomputable def Ai:Out Fl->Out D
 | .ok a σ=>pR a σ
 |_=>.bad
noncomputable def run(n:Nat)(g:Ev->M Fl)(ds:List D):M D:=λa=>Ai (g (ds.map some++List.replicate (n - ds.length) none) a)
noncomputable def Bo(T:Tb)(n:Nat)(f:List D->M D):Sp:=λd H Q E=>∃ b c a,Ra T b H a d/\a.length=n/\Rel T b H c/\Cb T E (Rep T) b H (f a c) Q
noncomputable def ir(n:Nat)(f:List D->M D)(dds:List D)(ds:List D):M D:=if (ds++dds).length=n then f (ds++dds)else bad
noncomputable def bh(n:Nat)(f:List D->M D)(dds:List D)(fs:Ev->M (List D)):Ev->M D:=λa=>Fc (fs a) (ir n f dds)
section
variable{T:Tb}{X:Cx}
theorem tV{μ:List Addr}{H:Hp}{ds:List D}{vs:List V}{N:List qa}(h:Ra T μ H ds vs):eh T μ H (ds.map some++List.replicate (N.length - ds.length) none) (L2.nt N vs):=by
 have c:=h.length;refine⟨by simp[L2.nt,c],λi d e=>?_⟩;by_cases b:i<ds.length
 ·rw[Ua (by simpa using b),Xa]at e;cases a:ds[i]? with
  |none=>rw[a]at e;cases e
  |some x=>
   rw[a]at e;cases e;obtain⟨v,f,g⟩:=h.get a;refine⟨v,?_,g⟩;unfold L2.nt;rw[Ua (by simpa [<-c]using b),Xa,f];rfl
 ·rw[Cd (by simpa using b),vp]at e;split at e<;>cases e
variable{k:Nat}{f C:Addr}{fd:Ud}{ps:List qa}{dvs:List V}{dval:List Value}{dds:List D}{x:qa}{p pos:se}{e:Ea}{es:List Ea}{fn:List D->M D}{fs:Ev->M (List D)}{sp:Sp}{t:TA}
theorem gF{a:List (Addr × Obj)}{d:St}{H:Hp}{s:Shared}{Q:VK}{us:List Value}{vs:List V}(F:Og X.prog X.w X.K X.mg X.base (Qk X.prog X.w) k f fd ps sp)(l:ke k X.A)(hb:Up X.K fd ps dval)(hd:zd dvs dval)
  (I:Inv X a d H s) (r:zd vs us) (h:sp (vs++dvs) H Q (XE X d)):wpAny (model X.prog X.w) X.A (call (.ref f) us) (EP X a d Q) X.xe s:=by
 have g:zd (vs++dvs) (us++dval):=r.append hd;have j:(us++dval).length=ps.length:=by rw[<-g.length];exact F.len _ _ _ _ h
 refine Dx (qf (F.run X.A X.stack s H ⟨us,[]⟩ (us++dval) (vs++dvs) Q (XE X d) l I.ZA (hb s us I.Kj j) g h) λr n c=>?_);cases r with
 |error e=>obtain⟨cls,fd,o,b,m⟩:=c;exact m.xB a H s e n I b
 |ok i=>
  cases i with
  |ret u=>exact I.after c
  |next=>exact False.elim c
  |brk=>exact False.elim c
  |cont=>exact False.elim c
theorem cN(F:Og X.prog X.w X.K X.mg X.base (Qk X.prog X.w) k f fd ps (Bo T ps.length fn))(G:ke k X.A)(C:Gl X x)(hm:X.mg x=some (.ref f))(D:W.keepIn X.K (.ref f)=true)(hb:Up X.K fd ps dval)(hd:zd dvs dval)(g:∀ μ H,Ra T μ H dds dvs)
  (z:FA T X (e::es) fs) (d:(x == ("__debug__" : qa))=false:=by decide) (B:na (e::es) X.env=(false,Gb e X.env)::na es X.env:=by rfl) (j:(vc pos (na es X.env)).any (·.1)=false:=by rfl) :
  FE T X (.Call (.Name x p) (e::es) [] pos) (bh ps.length fn dds fs):=by
 intro a s v H Q I h;refine Sf (Yz I C hm ?_ d);obtain⟨μ,M,N,y,l,E⟩:=h;refine Wl (h₀:=X.base) I.ok.mod.vw D (Ad (z pos a s v H (λm c=>Bo T ps.length fn (m++dvs) c Q (XE X v)) I ⟨μ,M,N,y,l,E.bind λu o n m c _ e1 L J b=>?_⟩) λus s1 ⟨m,c,t,r,q⟩=>⟨t.Kj,?_⟩) B j
 ·unfold ir at b;by_cases i:(u++dds).length=ps.length
  ·rw[da i]at b;exact⟨n,o,u++dds,J.append (g _ _),i,L,b⟩
  ·rw[ga i]at b;exact b.elim
 ·exact gF F G hb hd t r q
variable{P:ra}{w:Ia}{K:W.Frag}{mg:qa->Option Value}{base:Heap}
theorem xA{x qual:qa}{c:Stmt}{N:List qa}{g:Ev->M Fl}{a:Arguments}{dV kV i G b ct X:Value}{C od:Option Addr}{q:Array (Option Value)}
  (lk:K.lookup f=some ⟨X,od,.func (W.fnOf x qual a (Ei c) (pd c) dV kV i G C b ct),q⟩) (p:W.codeIn K b qual=true) (S:Ka N ps (pd c))
  (hb:∀ (A:Ja) (outer:List Cg) (s:Shared) (H:Hp) (E:XK),ke k (A.deeper (Kg qual (pd c) s.heap.objs.size f b))->Qo T (Dp (Qk P w) P w K mg base N qual (pd c) f b A outer s H E) (Ei c) g) :
  Og P w K mg base (Qk P w) (k+1) f (W.fnOf x qual a (Ei c) (pd c) dV kV i G C b ct) ps (Bo T ps.length (run N.length g)):=by
 refine DM lk p S (λY H Q E h=>?_) (λA outer s H Y Q E U h=>?_)
 ·obtain⟨I,y,m,o,F,_⟩:=h;rw[<-o.length];exact F
 ·obtain⟨I,y,m,o,F,R,e⟩:=h;refine⟨_,hb A outer s H E U,I,_,y,tV o,R,?_⟩;unfold run at e;cases n:g (m.map some++List.replicate (N.length - m.length) none) y with
  |bad=>rw[n]at e;exact e
  |ex x B=>rw[n]at e;exact e.elim
  |ok O B=>
   rw[n]at e;intro u gl H1 e1 r j;have l:=e.mono e1;cases O with
   |nx v=>cases gl with
    |nx t=>have z:Q V.Hb H1:=Cb.here (d:=D.Hb) l r (by rw[Rep]);exact z
    |_=>exact j.elim
   |rt J=>cases gl with
    |rt v2=>have z:Q v2 H1:=Cb.here (d:=J) l r j;exact z
    |_=>exact j.elim
   |xc v x2=>cases gl with
    |xc t Z L=>
     obtain⟨_,rfl,rfl⟩:=j;exact ZS (l u H1 (Ext.refl _ _) r)
    |_=>exact j.elim
   |_=>exact l.elim
theorem dD(F:Og P w K mg base (Qk P w) k f fd ps (Bo T ps.length fn)):Og P w K mg base (Qk P w) k f fd ps (Bo T ps.length (λa=>rb (fn a))):=
 F.imp λj H Q E h=>by
  obtain⟨g,i,a,c,d,b,e⟩:=h;exact⟨g,i,a,c,d,b,Cb.rb b e⟩
end
noncomputable def ro(env:Cg)(names:List (qa × Ee))(acc:List (qa × Addr)):List (qa × Addr):=
 names.foldl (λa y=>if (y.2 == .free)=true then (match env.cells.lookup y.1 with|some c=>(y.1,c)::a|none=>a)else a) acc
theorem CG(env:Cg):∀ (names:List (qa × Ee)) (acc:List (qa × Addr)),(∀ y∈names,y.2=.free->∃ c,env.cells.lookup y.1=some c)->
  (forIn names acc (λx (cs:List (qa × Addr))=>match x with|(name,kind)=>if (kind == .free)=true then (do let a <-cellOf env name;pure (ForInStep.yield ((name,a)::cs)))else pure (ForInStep.yield cs)):Io (List (qa × Addr)))=pure (ro env names acc)
 |[],acc,_=>rfl
 |(n,k)::r,acc,h=>by
  rw[List.forIn_cons];by_cases b:(k == Za)=true
  ·obtain⟨c,f⟩:=h (n,k) Ba (by simpa using b);have e1:cellOf env n=pure c:=by unfold cellOf;rw[f]
   simp only[b,ee,e1];show (forIn r ((n,c)::acc) _:Io (List (qa × Addr)))=_;rw[CG env r ((n,c)::acc) λy e=>h y (wa _ e)];have d:ro env ((n,k)::r) acc=ro env r ((n,c)::acc):=by
    unfold ro;rw[sf];simp only[b,ee,f]
   rw[d]
  ·simp only[b];show (forIn r acc _:Io (List (qa × Addr)))=_;rw[CG env r acc λy e=>h y (wa _ e)];have d:ro env ((n,k)::r) acc=ro env r acc:=by
    unfold ro;rw[sf];simp only[b];rfl
   rw[d]
theorem QK(env:Cg)(scope:Scope)(h:∀ y∈scope.names,y.2=.free->∃ c,env.cells.lookup y.1=some c):closureFor scope env=pure (ro env scope.names []):=by
 have e:=CG env scope.names [] h;unfold closureFor;simp only[bind_pure];exact e
theorem KM(env:Cg):∀ (names:List (qa × Ee)) (acc:List (qa × Addr)) (n:qa) (c:Addr),(∀ n c,acc.lookup n=some c->env.cells.lookup n=some c)->(ro env names acc).lookup n=some c->env.cells.lookup n=some c
 |[],acc,n,c,h,e=>h n c e
 |(y,k)::r,acc,n,c,h,e=>by
  unfold ro at e;rw[sf]at e;refine KM env r _ n c (λn c q=>?_) e;by_cases b:(k == Za)=true
  ·simp only[b,ee]at q;cases a:env.cells.lookup y with
   |none=>rw[a]at q;exact h n c q
   |some d=>
    rw[a]at q;rw[Va]at q;cases hn:(n == y)with
    |true=>rw[hn]at q;cases q;rw[eq_of_beq hn];exact a
    |false=>rw[hn]at q;exact h n c q
  ·simp only[b]at q;exact h n c q
theorem yP(env:Cg):∀ (names:List (qa × Ee)) (acc:List (qa × Addr)) (n:qa),(∃ c,acc.lookup n=some c)->∃ c,(ro env names acc).lookup n=some c
 |[],acc,n,h=>h
 |(y,k)::r,acc,n,h=>by
  unfold ro;rw[sf];refine yP env r _ n ?_;by_cases b:(k == Za)=true
  ·simp only[b,ee];cases d:env.cells.lookup y with
   |none=>exact h
   |some a=>
    show ∃ c,List.lookup n ((y,a)::acc)=some c;rw[Va];cases hn:(n == y)with
    |true=>exact⟨a,rfl⟩
    |false=>exact h
  ·simp only[b];exact h
theorem ZG(env:Cg):∀ (names:List (qa × Ee)) (acc:List (qa × Addr)) (n:qa),(n,Za)∈names->(∃ c,env.cells.lookup n=some c)->∃ c,(ro env names acc).lookup n=some c
 |[],acc,n,h,_=>nomatch h
 |(y,k)::r,acc,n,h,a=>by
  unfold ro;rw[sf];rcases Ca.mp h with e|e
  ·cases e;refine yP env r _ _ ?_;obtain⟨c,a⟩:=a;refine⟨c,?_⟩;simp[a]
  ·exact ZG env r _ n e a
theorem sH{env:Cg}:∀ {names:List (qa × Ee)} {x:qa} {k:Ee},
  (names.map λ(n,k)=>if (k == Za && env.scope.kind == .function && env.kindOf n == some .cell)then (n,Vb)else (n,k)).lookup x=some k->∃ k0,names.lookup x=some k0/\(k=k0\/(k0=.free/\k=.cell))
 |[],_,_,h=>by simp at h
 |(n,k0)::r,x,k,h=>by
  have d:=@sH env r x k;have a:List.lookup x ((if (k0 == Za && env.scope.kind == .function && env.kindOf n == some .cell)=true then (n,Vb)else (n,k0))::(r.map λ(n,k)=>if (k == Za && env.scope.kind == .function && env.kindOf n == some .cell)then (n,Vb)else (n,k)))=some k:=h;cases c:x == n with
  |true=>
   by_cases b:(k0 == Za && env.scope.kind == .function && env.kindOf n == some .cell)=true
   ·rw[da b]at a;simp only[Va,c]at a ⊢;cases a;simp only[Ma]at b;exact⟨k0,rfl,.inr ⟨by simpa using b.1.1,rfl⟩⟩
   ·rw[ga b]at a;simp only[Va,c]at a ⊢;cases a;exact⟨k0,rfl,.inl rfl⟩
  |false=>
   by_cases b:(k0 == Za && env.scope.kind == .function && env.kindOf n == some .cell)=true
   ·rw[da b]at a;simp only[Va,c]at a ⊢;exact d a
   ·rw[ga b]at a;simp only[Va,c]at a ⊢;exact d a
theorem ZK{env:Cg}:∀ {names:List (qa × Ee)} {x:qa},names.lookup x=some .free->
  (names.map λ(n,k)=>if (k == Za && env.scope.kind == .function && env.kindOf n == some .cell)then (n,Vb)else (n,k)).lookup x=some .cell\/
  (names.map λ(n,k)=>if (k == Za && env.scope.kind == .function && env.kindOf n == some .cell)then (n,Vb)else (n,k)).lookup x=some .free
 |[],_,h=>by simp at h
 |(n,k)::r,x,h=>by
  have d:=@ZK env r x;have a:∀ z,List.lookup x ((if (k == Za && env.scope.kind == .function && env.kindOf n == some .cell)=true then (n,Vb)else (n,k))::(r.map λ(n,k)=>if (k == Za && env.scope.kind == .function && env.kindOf n == some .cell)then (n,Vb)else (n,k)))=z->
   (List.map (λ(n,k)=>if (k == Za && env.scope.kind == .function && env.kindOf n == some .cell)then (n,Vb)else (n,k)) ((n,k)::r)).lookup x=z:=λz e=>e
  cases b:x == n with
  |true=>
   simp only[Va,b]at h;cases h;by_cases c:(Za == Za && env.scope.kind == .function && env.kindOf n == some .cell)=true
   ·exact .inl (a _ (by rw[da c];simp only[Va,b]))
   ·exact .inr (a _ (by rw[ga c];simp only[Va,b]))
  |false=>
   simp only[Va,b]at h;have e:List.lookup x ((if (k == Za && env.scope.kind == .function && env.kindOf n == some .cell)=true then (n,Vb)else (n,k))::(r.map λ(n,k)=>if (k == Za && env.scope.kind == .function && env.kindOf n == some .cell)then (n,Vb)else (n,k))) =
     (r.map λ(n,k)=>if (k == Za && env.scope.kind == .function && env.kindOf n == some .cell)then (n,Vb)else (n,k)).lookup x:=by
    by_cases c:(k == Za && env.scope.kind == .function && env.kindOf n == some .cell)=true
    ·rw[da c];simp only[Va,b]
    ·rw[ga c];simp only[Va,b]
   rcases d h with q|q
   ·exact .inl (a _ (e.trans q))
   ·exact .inr (a _ (e.trans q))
theorem dB{names:List (qa × Ee)}{x:qa}{k:Ee}(h:names.lookup x=some k):(x,k)∈names:=ie h
noncomputable def Rr(X:Cx)(a:List qa)(scope:Scope)(cl:List (qa × Addr))(C:Addr)(s₀:Shared)(H₀:Hp)(ex:List Addr):Cx:=
 { X with N:=a,s₀:=s₀,H₀:=H₀,env:=compEnvC scope cl C X.env,outer:=X.stack,stack:=X.stack,ex:=ex,fn:=λ_=>false,pn:=[],xe:=λ_ _=>False }
structure cq(X:Cx)(x:qa)(M':List qa)(ix:List Nat)(scope:Scope):Prop where
 kind:scope.kind=.function
 cell:(scope.names.all λy=>!(y.2 == .cell))=true
 names:(scope.names.all λy=>!(y.2 == .local) || scope.names.lookup y.1 == some .local)=true
 free:(scope.names.all λy=>!(y.2 == .free) || (X.env.scope.names.lookup y.1 == some .cell || X.env.scope.names.lookup y.1 == some .free))=true
 at_:ix.map (λi=>X.N[i]?)=M'.map some
 sU:(M'.all λy=>(X.env.scope.names.lookup y == some .cell || X.env.scope.names.lookup y == some .free) && scope.names.lookup y == some .free)=true
noncomputable def aG(ix:List Nat)(ρ:Ev):Ev:=none::ix.map λi=>(ρ[i]?).getD none
noncomputable def wO(ix:List Nat)(a:St):St:=none::ix.map λi=>(a[i]?).getD none
theorem hU{T:Tb}{μ:List Addr}{H:Hp}{ρ:Ev}{f:St}(ix:List Nat)(h:eh T μ H ρ f):eh T μ H (aG ix ρ) (wO ix f):=by
 refine⟨by simp[aG,wO],λi d e=>?_⟩;cases i with
 |zero=>simp[aG]at e
 |succ j=>
  have a:(ix.map λi=>(ρ[i]?).getD none)[j]?=some (some d):=e;rw[Xa]at a;cases g:ix[j]? with
  |none=>rw[g]at a;cases a
  |some b=>
   rw[g]at a;have c:(ρ[b]?).getD none=some d:=qb a;have k:ρ[b]?=some (some d):=by
    cases q:ρ[b]? with
    |none=>rw[q]at c;cases c
    |some o=>rw[q]at c;exact Ve some c
   obtain⟨v,l,m⟩:=h.2 b d k;refine⟨v,?_,m⟩;show (ix.map λi=>(f[i]?).getD none)[j]?=_;rw[Xa,g];show some ((f[b]?).getD none)=_;rw[l];rfl
section
variable{X:Cx}{pins:List (Addr × Obj)}{st:St}{H:Hp}{s:Shared}{x:qa}{M':List qa}{ix:List Nat}{scope:Scope}{fp:List Addr}
theorem yT(L:cq X x M' ix scope)(y:qa × Ee)(a:y∈scope.names)(e:y.2=.free):X.env.kindOf y.1=some .cell\/X.env.kindOf y.1=some .free:=by
 have q:=jg.mp L.free y a;rw[e]at q;simp only[Pp,sj,qg,ci]at q;rcases q with q|q
 ·exact .inl (eq_of_beq q)
 ·exact .inr (eq_of_beq q)
theorem zD(I:Inv X pins st H s)(L:cq X x M' ix scope):∀ y∈scope.names,y.2=.free->∃ c,X.env.cells.lookup y.1=some c:=λy a e=>I.ok.has y.1 (yT L y a e)
theorem qF(L:cq X x M' ix scope):∀ y∈scope.names,y.2≠.cell:=λy a e=>by
 have q:=jg.mp L.cell y a;rw[e]at q;simp at q
end
noncomputable def Co{α:Type}(m:M α):M α:=λa=>match m a with
 | .ex _ _=>.bad
 |o=>o
theorem Cb.Uv{i o p s:Type}{T:Tb}{E E0:XK}{R:List Addr->Hp->i->p->Prop}{l:List Addr->Hp->o->s->Prop}{μ:List Addr}{H:Hp}{m:M i}{k:i->M o}{σ:db}{Q:s->Hp->Prop}{Q1:p->Hp->Prop}
  (h:Cb T E l μ H (Fc (Co m) k σ) Q) (f:∀ a b c g d,m σ=.ok a b->Ext μ H c d->Rel T c d b->R c d a g->Cb T E l c d (k a b) Q->Q1 g d):Cb T E0 R μ H (m σ) Q1:=by
 unfold Fc Co at h;cases e:m σ with
 |ok a b=>
  simp only[e]at h;exact λj g t n r q=>f a b j g t e n r q (h.mono n)
 |ex x b=>simp only[e]at h;exact h.elim
 |bad=>simp only[e]at h;exact h
noncomputable def Tz(T:Tb)(X:Cx)(b:List Ea)(f:Ev->M Bool):Prop:=
 ∀ (a:List (Addr × Obj)) (s:Shared) (st:St) (H:Hp) (Q:Bool->Hp->Prop),Inv X a st H s->tT T X f st H Q->
  wpAny (model X.prog X.w) X.A (forIn b true λc r=>if r=true then do let ok <-Gx c X.env (Gb c X.env);pure (ForInStep.yield ok)else pure (ForInStep.yield r)) (TP X a st Q) X.xe s
noncomputable def wo:Ev->M Bool:=λ_=>ret true
section
variable{T:Tb}{X:Cx}
theorem bA:Tz T X [] wo:=by
 intro a s e H Q I h;obtain⟨f,g,i,d,c,b⟩:=h;exact wpAny_tests_nil ⟨H,I,Cb.here b c rfl⟩
theorem vL{c:Ea}{f:Ev->M Bool}(h:FT T X c f):Tz T X [c] f:=λa s d H Q I b=>wpAny_tests_one (h a s d H Q I b)
theorem UU{fs ex:List Addr}{H c:Hp}{h d h2:Heap}{C:Addr}(u:Un fs ex H c h d)(hs:Oc C d h2)(f:h.objs.size<=C):Un fs ex H c h h2:=by
 have ne:∀ b o,h.get? b=some o->b≠C:=λb o e=>ua (Da (pa e) f);refine⟨λb o e n hb a=>(hs.2 b (ne b o e)).trans (u.keep b o e n hb a),λb o e n hb a=>?_,u.free,λb o e a=>?_,u.ai,u.vh,u.Yh⟩
 ·obtain⟨i,q⟩:=u.slot b o e n hb a;exact⟨i,(hs.2 b (ne b o e)).trans q⟩
 ·obtain⟨g,q⟩:=u.there b o e a;exact⟨g,(hs.2 b (ne b o e)).trans q⟩
theorem o4{P:ra}{w:Ia}{H:Hp}{d h2:Heap}{C:Addr}(ok:Hh P w H d)(hs:Oc C d h2)(f:H C=none):Hh P w H h2:=λb g e=>by
 refine(ok b g e).Ql (λc h a q=>(hs.2 c ?_).trans q) (λ_ q=>q) λ_ _ q=>q;rintro rfl;rcases a with rfl|a
 ·rw[f]at e;cases e
 ·rw[f]at a;cases a
theorem QT{E:XK}{μ:List Addr}{H:Hp}{σ:db}{n:Nat}{a:Addr}{y:D}{v:V}{Q:VK}(r:Rel T μ H σ)(hn:μ[n]?=some a)(b:Rep T μ H y v)(h:Cb T E (Rep T) μ H (fu (.ref n) [y] σ) Q):fF (.ref a) [v] H Q:=
 MW E μ H σ (.ref n) [y] (.ref a) [v] Q r (by rw[Rep];exact⟨a,rfl,hn⟩) (Ra.cons b Ra.nil) h
theorem yB{a b:Type}{m m':M a}{k:a->M b}{σ:db}(h:m σ=m' σ):Fc m k σ=Fc m' k σ:=by unfold Fc;rw[h]
theorem iG{b c d:Type}{m:M b}{k:b->M c}{l:c->M d}:Fc (Fc m k) l=Fc m λa=>Fc (k a) l:=by
 funext e;unfold Fc;cases m e<;>rfl
end
noncomputable def jA(x y:D):M D:=λa=>match Dh a x,Dh a y with
 |some xs,some b=>if xs.length+b.length<=Ch then .ok (.lst (xs++b)) a else .bad
 |_,_=>.bad
noncomputable def Yq(x y:D):M D:=match x,y with
 | .int i,.int j=>ret (.int (i+j))
 | .tup xs,.tup c=>if xs.length+c.length<=Ch then ret (.tup (xs++c))else bad
 | .str a,.str b=>if a.length+b.length<=100000 then ret (.str (a++b))else bad
 |x,y=>jA x y
theorem dZ{n:Nat}(h:n<=100000):n<=sizeLine:=Qa h (by decide)
section
variable{T:Tb}{X:Cx}{a b c:Ea}{fa fb fc:Ev->M D}{pos:se}
theorem I0{prog:ra}{w:Ia}{A:Ja}{F:Value->Shared->Prop}{s:Shared}{t b:Addr}{ws:List Value}{Q:Value->Shared->Prop}(o:Cs s.heap t (#[]:Array Value))(hb:Cs s.heap b ws.toArray)(m:Q (.ref b) s):wpAny (model prog w) A (ef .Add (.ref t) (.ref b)) Q F s:=by
 obtain⟨⟨cls,l,i,q⟩,k,j,n,hd⟩:=id o;obtain⟨⟨h,f,e,g⟩,d,a,p,c⟩:=id hb;simp only at j hd a c;subst j hd a c;exact Ct ⟨_,k,rfl⟩ ⟨_,d,rfl⟩ Tn Er xh gh (Zg _ _)
  (tuple_addW0 t b #[] ws.toArray n p l f q g rfl) ⟨k,d,m⟩
theorem DB{E:XK}{μ:List Addr}{H:Hp}{σ:db}{x y:D}{v u:V}{g f:Value}{Q:VK}{b:List (Addr × Obj)}{s:Shared}{e:St}(I:Inv X b e H s)(z:Zc v g)(t:Zc u f)(r:Rel T μ H σ)(n:Rep T μ H x v)(o:Rep T μ H y u)(a:Cb T E (Rep T) μ H (jA x y σ) Q) :
  wpAny (model X.prog X.w) X.A (ef .Add g f) (EP X b e Q) X.xe s:=by
 unfold jA at a;cases e1:Dh σ x with
 |none=>rw[e1]at a;exact a.elim
 |some xs=>
  cases c:Dh σ y with
  |none=>rw[e1,c]at a;exact a.elim
  |some F=>
   rw[e1,c]at a;dsimp only at a;by_cases d:xs.length+F.length<=Ch
   ·rw[da d]at a;obtain⟨p,B,rfl,j,h⟩:=r.ls n e1;obtain⟨q,C,rfl,k,i⟩:=r.ls o c;exact TQ b s e H _ _ g f Q I z t ⟨p,q,B,C,rfl,rfl,j,k,by rw[<-h.length,<-i.length];exact Vw d,λl m=>HB a r (Ra.append h i) m⟩
   ·rw[ga d]at a;exact a.elim
theorem sy(V:T.K=X.K):Oh X (ef .Add) (rD T Yq):=by
 intro d s B H v u D C Q I m k h;obtain⟨E,Z,σ,x,y,r,f,g,c⟩:=h;cases x with
 |int i=>
  cases y with
  |int j=>exact M3 d s B H v u D C Q I m k ⟨i,j,oo f,oo g,Cb.here c r (by rw[Rep])⟩
  |_=>exact DB I m k r f g c
 |str a=>
  cases y with
  |str b=>
   unfold Yq at c;dsimp only at c;by_cases n:a.length+b.length<=100000
   ·rw[da n]at c;exact HV d s B H v u D C Q I m k ⟨a,b,by simpa [Rep]using f,by simpa [Rep]using g,dZ n,Cb.here c r (by rw[Rep])⟩
   ·rw[ga n]at c;exact c.elim
  |_=>exact DB I m k r f g c
 |tup xs=>
  cases y with
  |tup L=>
   unfold Yq at c;dsimp only at c;by_cases n:xs.length+L.length<=Ch
   ·rw[da n]at c;have z:=f;have A:=g;rw[Rep]at f g;obtain⟨p,S,rfl,F,t⟩:=f;obtain⟨q,U,rfl,G,w⟩:=g;cases S with
    |nil=>
     have o:xs=[]:=by have:=t.length;simpa using this
     subst o;cases m;cases k;obtain⟨N,O,P,_⟩:=L2.Inv.tuple I (ph.of (K:=X.K) F);obtain⟨J,W,R,_⟩:=L2.Inv.tuple I (ph.of (K:=X.K) G);cases O;exact I0 P R ⟨.ref q,H,I,rfl,Cb.here c r (by simpa using A)⟩
    |cons v0 Y=>
     refine uU d s B H _ _ D C Q I m k ⟨p,q,_,U,rfl,rfl,ph.of F,ph.of G,by simp,?_,λe=>?_,λe l M=>?_⟩
     ·rw[<-t.length,<-w.length];exact Vw n
     ·subst e;have o:L=[]:=by have:=w.length;simpa using this
      subst o;exact Cb.here c r (by simpa using z)
     ·exact CF c r (Ra.append t w) M
   ·rw[ga n]at c;exact c.elim
  |_=>exact DB I m k r f g c
 |_=>exact DB I m k r f g c
noncomputable def pG(a:D->D->M D)(c:M D)(y:D):D->M D:=Yv (Yi (Fc c (a y)) (ret (.bl false)))
noncomputable def mE(o a:D->D->M D)(c:M D)(x y:D):M D:=Fc (o x y) (pG a c y)
noncomputable def xG(o a:D->D->M D)(b c:M D)(x:D):M D:=Fc b (mE o a c x)
noncomputable def DE(o e:D->D->M D)(a b c:Ev->M D):Ev->M D:=λd=>Fc (a d) (xG o e (b d) (c d))
theorem nR{op d:Jo}{r J:R2}{o F:D->D->M D}(U:Oh X (Rb op) r)(hs:gk T r o)(g:Oh X (Rb d) J)(i:gk T J F)(R:FE T X a fa)(hb:FE T X b fb)(S:FE T X c fc)
  (hm:lastMarks [op,d] [b,c]=false:=by with_unfolding_all rfl):FE T X (.Compare a [op,d] [b,c] pos) (DE o F fa fb fc):=by
 intro e s st H Q I h;refine X3 U g R hb S hm e s st H Q I ?_;obtain⟨μ,p,σ,f,W,V⟩:=h;refine⟨μ,p,σ,f,W,V.bind λx q j v H1 _ e1 r1 q1 Y=>⟨j,p,q,f.mono e1,r1,Y.bind λy t l w L _ C r2 G Z=>?_⟩⟩;refine hs _ l L t x y v w _ r2 (Rep.mono C _ _ q1) G (Z.bind λz A m u H3 _ E K q3 p3=>?_);obtain⟨k,rfl,P,p4⟩:=fC q3 p3;refine⟨k,P,?_⟩;cases k with
 |true=>
  unfold Yi at p4;rw[da rfl]at p4 ⊢;exact⟨m,p,A,((f.mono e1).mono C).mono E,K,p4.bind λz B n u5 N _ O r5 q5 p5=>i _ n N B y z w u5 Q r5 (Rep.mono O _ _ (Rep.mono E _ _ G)) q5 p5⟩
 |false=>unfold Yi at p4;rw[ga Wa]at p4 ⊢;exact Cb.here p4 K (by rw[Rep])
theorem Eg{k:Nat}{A:Ja}(a:ke k A):A.units+9<cLine:=by have:=a.un;omega
end
noncomputable def ng(K:W.Frag)(mg:qa->Option Value)(x:qa)(c:Stmt)(ps:List qa):Prop:=
 ∃ f b,mg x=some (.ref f)/\ox K x x c f b/\∀ a:List Value,a.length=ps.length->bindArgs b ⟨a,[]⟩=pure (ps.zip a)
noncomputable def Ae(T:Tb)(P:ra)(w:Ia)(mg:qa->Option Value)(base:Heap)(k:Nat)(x:qa)(ps:List qa)(fn:List D->M D):Prop:=
 ∃ f b,mg x=some (.ref f)/\W.keepIn T.K (.ref f)=true/\(∀ a:List Value,a.length=ps.length->bindArgs b ⟨a,[]⟩=pure (ps.zip a))/\Og P w T.K mg base (Qk P w) k f b ps (Bo T ps.length fn)
section
variable{T:Tb}{X:Cx}
theorem si{k:Nat}{ps:List qa}{fn:List D->M D}{x:qa}{p pos:se}{e:Ea}{es:List Ea}{fs:Ev->M (List D)}(h:Ae T X.prog X.w X.mg X.base k x ps fn)(g:T.K=X.K)(m:ke k X.A)(l:Gl X x)
  (i:FA T X (e::es) fs) (a:(x == ("__debug__" : qa))=false:=by decide) (j:na (e::es) X.env=(false,Gb e X.env)::na es X.env:=by rfl) (b:(vc pos (na es X.env)).any (·.1)=false:=by rfl) :
  FE T X (.Call (.Name x p) (e::es) [] pos) (bh ps.length fn [] fs):=by
 obtain⟨f,n,hm,d,hb,c⟩:=h;rw[g]at d c;exact cN (dds:=[]) (dvs:=[]) c m l hm d (.all hb) .nil (λ_ _=>Ra.nil) i a j b
variable{P:ra}{w:Ia}{K:W.Frag}{mg:qa->Option Value}{base:Heap}{ca:Nat->Addr}{tx:Tx}
theorem nl{k:Nat}{x:qa}{b:Stmt}{ps N:List qa}{g:Ev->M Fl}(h:ng K mg x b ps)(S:Ka N ps (pd b))
  (hb:∀ (f:Addr) (a:Value) (A:Ja) (outer:List Cg) (s:Shared) (H:Hp) (E:XK),ke k (A.deeper (Kg x (pd b) s.heap.objs.size f a))->Qo ⟨K,ca,tx⟩ (Dp (Qk P w) P w K mg base N x (pd b) f a A outer s H E) (Ei b) g) :
  Ae ⟨K,ca,tx⟩ P w mg base (k+1) x ps (run N.length g):=by
 obtain⟨f,l,hm,F,c⟩:=h;obtain⟨m,n,kV,e,o,j,a,ct,i,rfl,lk,d⟩:=F.ex;exact⟨f,_,hm,F.kp,c,xA lk d S (hb f a)⟩
theorem Ae.rb{k:Nat}{x:qa}{ps:List qa}{fn:List D->M D}(h:Ae T P w mg base k x ps fn):Ae T P w mg base k x ps (λa=>L4.rb (fn a)):=by
 obtain⟨f,b,c,d,e,g⟩:=h;exact⟨f,b,c,d,e,dD g⟩
theorem Nk{h:Heap}{x:qa}{e:Stmt}{ps:List qa}{f:Addr}{m:Value}{od g:Option Addr}{j:Array (Option Value)}{kV d i b ct:Value}(X:K.In h)(G:h.Ns mainGlobals mg)
  (hb:∀ (kV d i:Value) (g:Option Addr) (b ct:Value) (us:List Value),us.length=ps.length->bindArgs (W.fnOf x x (ml e) (Ei e) (pd e) .none kV d i g b ct) ⟨us,[]⟩=pure (ps.zip us))
  (a:W.nsIn K mainGlobals x=some (some (.ref f))) (l:K.lookup f=some ⟨m,od,.func (W.fnOf x x (ml e) (Ei e) (pd e) .none kV d i g b ct),j⟩)
  (c:W.codeIn K b x=true) (k:W.keepIn K (.ref f)=true):ng K mg x e ps:=
 ⟨f,_,fw X G a,FL l c k,hb kV d i g b ct⟩
theorem Fu{h:Heap}{x:qa}{i:Int}{t:Tok}(X:K.In h)(G:h.Ns mainGlobals mg)(a:W.nsIn K mainGlobals x=some (some (.int i t))):∃ t,mg x=some (.int i t):=⟨t,fw X G a⟩
end
theorem X1{K:W.Frag}{H:Hp}{a:Addr}{ns:List Int}(b:RA H)(h:zf K H a (ns.map V.int)):tD K H a ns:=by
 rcases h with(h|⟨o,h⟩)|h
 ·rcases b a with z|⟨o,xs,z⟩
  ·rw[z]at h;cases h
  ·rw[z]at h;cases h
 ·exact .inl ⟨o,h⟩
 ·exact .inr h
noncomputable def TM(K:W.Frag):Sp:=λc H Q E=>∃ (a:Addr) (ns:List Int),c=[.ref a]/\ns.length<=63/\RA H/\zf K H a (ns.map V.int)/\∀ v b,v=.bl true->Q v b
theorem HX{K:W.Frag}{ca:Nat->Addr}{fn:List D->M D}(i:∀ ns:List Int,ns.length<=63->∃ σ,fn [.Pi ns] []=.ok (.bl true) σ){vs:List V}{H:Hp}{Q:VK}{E:XK}(h:TM K vs H Q E):Bo ⟨K,ca,⟨[],0⟩⟩ 1 fn vs H Q E:=by
 obtain⟨a,ns,rfl,d,c,hS,f⟩:=h;obtain⟨σ,e⟩:=i ns d;refine⟨[],[],[.Pi ns],Ra.cons (by rw[Rep];exact⟨a,rfl,X1 c hS⟩) Ra.nil,rfl,⟨rfl,dn,λn o q=>by simp at q,λt g=>by cases g⟩,?_⟩;rw[e];intro j v b _ _ r;rw[Rep]at r;exact f v b r
noncomputable def uE(T:Tb)(P:ra)(w:Ia)(mg:qa->Option Value)(k:Nat)(x:qa)(ps:List qa)(fn:List D->M D):Prop:=
 ∃ f b,mg x=some (.ref f)/\(∀ a:List Value,a.length=ps.length->bindArgs b ⟨a,[]⟩=pure (ps.zip a))/\∀ base:Heap,Og P w T.K mg base (Qk P w) k f b ps (Bo T ps.length fn)
theorem R3{P:ra}{w:Ia}{K:W.Frag}{mg:qa->Option Value}{ca:Nat->Addr}{tx:Tx}{k:Nat}{x:qa}{b:Stmt}{ps N:List qa}{g:Ev->M Fl}(h:ng K mg x b ps)(S:Ka N ps (pd b))
  (hb:∀ (base:Heap) (f:Addr) (a:Value) (A:Ja) (outer:List Cg) (s:Shared) (H:Hp) (E:XK),ke k (A.deeper (Kg x (pd b) s.heap.objs.size f a))->Qo ⟨K,ca,tx⟩ (Dp (Qk P w) P w K mg base N x (pd b) f a A outer s H E) (Ei b) g) :
  uE ⟨K,ca,tx⟩ P w mg (k+1) x ps (run N.length g):=by
 obtain⟨f,l,hm,F,c⟩:=h;obtain⟨m,n,kV,e,o,j,a,ct,i,rfl,lk,d⟩:=F.ex;exact⟨f,_,hm,c,λbase=>xA lk d S (hb base f a)⟩
theorem t4{l:W.OpenLaw}{q:ra}{b:List qa}{r:(qa->Option Value)->Heap->Prop}{j:Ia->Heap->Prop}{d:DefRec}{K:OH->W.Frag}{k:Nat}{x:qa}{fn:List D->M D}
  (hn:l.most=some 63) (g:d.params.defaults=[]) (C:ke k ck) (A:∀ (w:Ia) (h:Heap),j w h->(K w.params).In h)
  (F:∀ (w:Ia) (mg:qa->Option Value) (h:Heap),(K w.params).In h->h.Ns mainGlobals mg->∃ ca,uE ⟨K w.params,ca,⟨[],0⟩⟩ l.prog w mg k d.name [x] fn)
  (I:∀ ns:List Int,ns.length<=63->∃ σ,fn [.Pi ns] []=.ok (.bl true) σ) :
  W.WalkO q b r j l.row.toRowW d [] (λf o=>PySem.call f o):=by
 refine L2.j0 (n:=63) (k:=k) (x:=x) (CX:=λw=>Qk l.prog w) (sp:=λw=>TM (K w.params)) hn (by decide) g C A (λw mg N h p G i=>?_) (λw H a ns B y hS=>⟨a,ns,rfl,B,y,hS,λ_ _ e=>e⟩) (λw H s e R z=>?_)
 ·obtain⟨ca,L,c,m,t,v⟩:=F w mg h p G;rw[i]at m;cases m;exact⟨c,λs u=>.of_eq (t [u] rfl),λbase hb P=>(v base).imp λo H Q E z=>HX I z⟩
 ·obtain⟨cls,O,J,_,z⟩:=z;exact z
theorem e4{K:W.Frag}{h:Heap}{C:Addr}{c:List Value}{a:String}(f:K.In h)(d:W.excIn K C c a=true) :
  ∃ bm N nm k bs hdct sn sub ab col dd k0 k1 k2 k3 k5 mN,h.get? C=some (excClassObj nm k C N bs bm hdct sn sub ab col dd k0 k1 k2 k3 k5 a)/\h.Ns N mN/\mN "__init__" = none/\OwnTail h c bm:=by
 unfold W.excIn at d;split at d
 ·rename_i dd b v lk
  split at d
  ·rename_i n bm k0 k1 k2 k3 j k5 e g
   have i:((((n=C/\j=a)/\b.hasDel=false)/\W.tailIn K c bm=true)/\W.nsOkIn K b.ns=true)/\W.nsIn K b.ns "__init__" = some none:=by
    simpa [Ma,Bool.not_eq_true']using d
   obtain⟨⟨⟨⟨⟨o,p⟩,q⟩,r⟩,m⟩,s⟩:=i;subst o;subst p;obtain⟨nm,bs,u,ns,k,hd,sn,sub,ab,col,t⟩:=b;cases e;cases q;obtain⟨l⟩:=v;cases g;exact⟨bm,ns,nm,k,bs,hd,sn,sub,ab,col,dd,k0,k1,k2,k3,k5,_,f _ _ lk,.of_isNs (W.isNs_of_in f m),W.nsMap_none_of_in f m s,W.tail_of_in f r⟩
  ·cases d
 ·cases d
noncomputable def XM(c:Nat)(ρ:Ev)(ds:List D):M Fl:=if ds.length<=Ch then ret (.xc ρ ⟨c⟩)else bad
noncomputable def Iw(c:Nat)(fs:Ev->M (List D)):Ev->M Fl:=λa=>xs a (fs a) (XM c a)
section
variable{T:Tb}{X:Cx}
theorem dy(c:Nat){x:qa}{B b d:String}{f:List Value}{V a pos:se}{e:Ea}{es:List Ea}{fs:Ev->M (List D)}(z:ExcBaseFacts B b d f)(J:T.K=X.K)(C:W.excIn T.K (T.ca c) f b=true)(hm:X.mg x=some (.ref (T.ca c)))
  (P:Gl X x) (O:X.calm=true) (L:FA T X (e::es) fs) (o:(x == ("__debug__" : qa))=false:=by decide) (A:na (e::es) X.env=(false,Gb e X.env)::na es X.env:=by rfl)
  (u:(vc a (na es X.env)).any (·.1)=false:=by rfl) (p:fA c=none:=by rfl):FS T X (.Raise (some (.Call (.Name x V) (e::es) [] a)) none pos) (Iw c fs):=by
 intro k s v H D I S;obtain⟨μ,ρ,σ,n,R,Q⟩:=S;rw[J]at C;obtain⟨bm,N,nm,Z,bs,hdct,sn,sub,ab,col,dd,k0,k1,k2,k3,k5,mN,G,hN,t,E⟩:=e4 I.ok.mod.vw C;have i:(vc a (na (e::es) X.env)).any (·.1)=false:=by
  rw[A];show (false || (vc a (na es X.env)).any (·.1))=false;rw[u];rfl
 refine wpAny_Raise_call_subT (nm:=nm) (q:=Z) (N:=N) (bs:=bs) (bm:=bm) (hdct:=hdct) (sn:=sn) (sub:=sub) (ab:=ab) (col:=col) (dd:=dd) (k0:=k0) (k1:=k1) (k2:=k2) (k3:=k3) (k5:=k5) z (mN:=mN) (E.hasType z.hasBase) (I.ok.hd O) i t (Yz I P hm ⟨rfl,?_⟩ o);have step:=L a k s v H (λy m=>y.length<=Ch/\Ly X v (T.cv ⟨c⟩) none m) I ⟨μ,ρ,σ,n,R,Q.xs n λF a1 a0 y m _ e1 r1 Y j=>by
  unfold XM at j;by_cases h:F.length<=Ch
  ·rw[da h]at j;exact⟨by rw[<-Y.length];exact h,Cb.here (g:=ul.xc v (T.cv ⟨c⟩) none) j r1 ⟨n.mono e1,rfl,p.symm⟩⟩
  ·rw[ga h]at j;exact j.elim⟩
 rw[A]at step ⊢;refine Ci (Ad step λus s1 ⟨y,m,l,r,h,w⟩=>?_);exact⟨rfl,by rw[<-r.length];exact Vw h,l.bk _ _ G,hN.keeps l.bk,E.keeps l.bk,λh' ea U=>w.made l U⟩
end
structure Hd where
 t:Nat->Option Bool
 nm:Option Nat
 g:Ev->M Fl
noncomputable abbrev Cx.AM(X:Cx)(e:Value):Cx:={ X with A:=X.A.mark (some e),calm:=false,xe:=λ_ _=>False }
section
variable{T:Tb}{X:Cx}{pins:List (Addr × Obj)}{st:St}{H:Hp}{s:Shared}{e:Value}{xe:Value->Shared->Prop}
end
noncomputable def wx(X:Cx)(a:List (Addr × Obj))(f:St)(H:Hp)(s:Shared)(d:Addr)(cls:Value)(e:Option Nat):Prop:=∃ b c,Inv X a f b c/\Mx X.prog X.w X.stack b c cls e H (.ref d) s
section
variable{T:Tb}{X:Cx}{pins:List (Addr × Obj)}{st:St}{H:Hp}{s:Shared}{ea:Addr}{cls:Value}{fd:Option Nat}
theorem wx.inv(L:wx X pins st H s ea cls fd):Inv X pins st H s:=by
 obtain⟨a,c,I,F⟩:=L;exact L2.Inv.Ps (ch:=[]) I F.os F.un F.Pb F.bare λb z=>absurd z (by simp)
theorem wx.next(L:wx X pins st H s ea cls fd){M:Rj}{A:Ja}{E:Value->Shared->Prop}{Q:Unit->Shared->Prop}(h:∀ s',wx X pins st H s' ea cls fd->Q () s'):wpAny M A (dk (.ref ea) none) Q E s:=by
 obtain⟨k,p,I,F⟩:=L;obtain⟨m,l,B,e,f,hn,b,j,i,g,n⟩:=F.ex;cases e;refine rJ f λq a d c=>h _ ?_;obtain⟨un,Pb⟩:=KN F i j g f.1 a.1 d (zJ I);exact⟨k,p,I,⟨ea,l,B,rfl,a,hn,b,j,i,g,n.next c (let ⟨o,e,_⟩:=a.there;⟨o,e⟩)⟩,F.os,F.bare,un,Pb⟩
theorem wx.obj(L:wx X pins st H s ea cls fd):H ea=none/\(∃ o,s.heap.get? ea=some o/\o.cls=cls)/\∃ s0:Shared,s0.heap.get? ea=none/\∃ b,Inv X pins st b s0:=by
 obtain⟨b,s0,I,F⟩:=L;obtain⟨c,f,B,e,d,hn,a,j,h,g,i⟩:=F.ex;cases e;exact⟨hn,d.there,s0,a,b,I⟩
end
noncomputable def wI(X:Cx)(x:qa)(cv:Value):Prop:=X.mg x=some cv\/(X.mg x=none/\bootBuiltins x=some cv/\x ≠ "__name__")
inductive KA(T:Tb)(X:Cx):List Mr->List Hd->Prop where
 |nil:KA T X [] []
 |cons {x:qa} {np pos:se} {cv:Value} {b₀:Stmt} {suite:List Stmt} {t:Nat->Option Bool} {g:Ev->M Fl} {r:List Mr} {hs:List Hd} (hg:Gl X x) (hd:(x == ("__debug__" : qa))=false) (hm:wI X x cv) (ht:∀ c b,t c=some b->W.exmOne X.K (.ref (T.ca c)) cv=some b)
   (hb:∀ e,Qo T (Cx.AM X e) (b₀::suite) g) (hr:KA T X r hs):KA T X (.ExceptHandler (some (.Name x np)) none (b₀::suite) pos::r) (⟨t,none,g⟩::hs)
 |cF {x n:qa} {i:Nat} {np pos:se} {cv:Value} {b₀:Stmt} {suite:List Stmt} {t:Nat->Option Bool} {g:Ev->M Fl} {r:List Mr} {hs:List Hd} (hg:Gl X x) (hd:(x == ("__debug__" : qa))=false) (hm:wI X x cv) (ht:∀ c b,t c=some b->W.exmOne X.K (.ref (T.ca c)) cv=some b)
   (hN:X.N.Nodup) (hi:X.N[i]?=some n) (hl:X.env.scope.names.lookup n=some .local)
   (hb:∀ e,Qo T (Cx.AM X e) (b₀::suite) g) (hr:KA T X r hs):KA T X (.ExceptHandler (some (.Name x np)) (some n) (b₀::suite) pos::r) (⟨t,some i,g⟩::hs)
section
variable{T:Tb}{X:Cx}
end
theorem LR{T:Tb}{X:Cx}{r:Stmt}{i:Nat}{f:Ev->M D}(h:FS T X r (aj i f)):FS T X r (aj i (Zi f)):=by
 intro p s U H D I R;obtain⟨t,c,g,F,y,Q⟩:=R;refine h p s U H D I ⟨t,c,g,F,y,?_⟩;have a:Cb T EN (Vm T) t H (xs c (rb (f c)) (kz i c) g) (Nl X D):=Q;show Cb T EN (Vm T) t H (xs c (f c) (kz i c) g) (Nl X D);unfold xs rb at a;unfold xs;cases e:f c g with
 |bad=>rw[e]at a;exact a
 |ex x k=>
  rw[e]at a;unfold Xf at a;dsimp only at a ⊢;by_cases l:k.take g.length=g
  ·rw[da l]at a;intro u gl w e1 z q;cases gl with
   |xc st1 N C=>
    obtain⟨J,A⟩:=Rel.down y z e1 l;obtain⟨L,S⟩:=q;refine a t (.xc st1 N C) w A J ⟨⟨L.1,λj d b=>?_⟩,S⟩;obtain⟨v,n,o⟩:=L.2 j d b;obtain⟨K,_,E⟩:=F.2 j d b;exact⟨v,n,Rep.down e1.pre d K v E o⟩
   |_=>exact q.elim
  ·rw[ga l]at a;exact a.elim
 |ok d k=>
  rw[e]at a;unfold Xf at a;dsimp only at a ⊢;by_cases l:k.take g.length=g
  ·rw[da l]at a;cases B:fz g.length k 6 d with
   |none=>rw[B]at a;exact a.elim
   |some O=>
    rw[B]at a;intro u gl w e1 z q;cases gl with
    |nx st1=>
     obtain⟨J,A⟩:=Rel.down y z e1 l;have m:eh T u w (c.set i (some d)) st1:=q;refine a t (.nx st1) w A J ⟨by simpa using m.1,λj x b=>?_⟩;rw[Xc]at b;by_cases G:i=j
     ·subst G;rw[da rfl]at b;split at b
      ·rename_i P
       cases b;obtain⟨v,n,o⟩:=m.2 i d (by rw[Xc,da rfl,da P]);exact⟨v,n,SJ e1.pre z 6 d O v (by rw[y.len];exact B) o⟩
      ·cases b
     ·rw[ga G]at b;obtain⟨v,n,o⟩:=m.2 j x (by rw[Xc,ga G];exact b);obtain⟨K,_,E⟩:=F.2 j x b;exact⟨v,n,Rep.down e1.pre x K v E o⟩
    |_=>exact q.elim
  ·rw[ga l]at a;exact a.elim
noncomputable def TB:List D->Option (List Bool)
 |[]=>some []
 | .bl b::r=>(TB r).map (b::·)
 |_::_=>none
noncomputable def xt:List D->Option (List Int)
 |[]=>some []
 | .int b::r=>(xt r).map (b::·)
 |_::_=>none
theorem NI{T:Tb}{μ:List Addr}{H:Hp}:∀ {ds:List D} {vs:List V} {bs:List Bool},Ra T μ H ds vs->TB ds=some bs->vs=bs.map V.bl
 |[],vs,bs,r,h=>by cases h;rw[Ra]at r;exact r
 |d::ds,vs,bs,r,h=>by
  rw[Ra]at r;obtain⟨v,w,rfl,a,e⟩:=r;cases d with
  |bl b=>
   obtain⟨f,e1,c⟩:=xb.mp h;subst c;rw[Rep]at a;subst a;rw[NI e e1];rfl
  |_=>cases h
theorem rC{T:Tb}{μ:List Addr}{H:Hp}:∀ {ds:List D} {vs:List V} {bs:List Int},Ra T μ H ds vs->xt ds=some bs->vs=bs.map V.int
 |[],vs,bs,r,h=>by cases h;rw[Ra]at r;exact r
 |d::ds,vs,bs,r,h=>by
  rw[Ra]at r;obtain⟨v,w,rfl,a,e⟩:=r;cases d with
  |int b=>
   obtain⟨f,e1,c⟩:=xb.mp h;subst c;rw[Rep]at a;subst a;rw[rC e e1];rfl
  |_=>cases h
noncomputable def sC(xs:List D):M D:=λa=>match xs with
 |[x]=>(match (cm a x).bind TB with
  |some bs=>.ok (.bl (bs.all id)) a
  |none=>.bad)
 |_=>.bad
noncomputable def g5(xs:List D):M D:=λa=>match xs with
 |[x]=>(match (cm a x).bind xt with
  |some bs=>.ok (.int bs.sum) a
  |none=>.bad)
 |_=>.bad
section
variable{T:Tb}{X:Cx}
noncomputable def NK(K:W.Frag)(g:List Bool->Bool):List V->Hp->VK->Prop:=λxs H Q=>∃ p bs,xs=[.ref p]/\(zf K H p (bs.map V.bl)\/ph K H p (bs.map V.bl))/\Q (.bl (g bs)) H
theorem CP:∀ {bs:List Bool} {us:List Value},zd (bs.map V.bl) us->us=bs.map tf
 |[],us,h=>by cases h;rfl
 |b::bs,us,h=>by
  cases h with
  |cons r t=>cases r;rw[CP t];rfl
theorem lL{a:Type}(g:a->Bool)(d:a):∀ (bs:List a),(List.range bs.length).all (λi=>g (bs.getD i d))=bs.all g
 |[]=>rfl
 |b::bs=>by
  rw[Ha,Np,lf,Qy,lf];congr 1;rw[<-lL g d bs];congr 1
theorem FY{prog:ra}{w:Ia}{A:Ja}(bs:List Bool):TruthOf prog w A (λi v=>(bs.map tf).toArray[i]?=some v) (λi=>bs.getD i false):=by
 intro i v s Q E a d;simp only[dg,Xa]at a;cases e:bs[i]? with
 |none=>rw[e]at a;cases a
 |some b=>
  rw[e]at a;cases a;have c:Q (bs.getD i false) s:=d;rw[Dd,e]at c;exact ud c
theorem RK{s:Shared}{o:Obj}{h':Heap}(k:∀ b u,b ∉ [s.heap.objs.size]->(s.heap.push o).get? b=some u->h'.get? b=some u):∀ b u,s.heap.get? b=some u->h'.get? b=some u:=λb u e=>
 k b u (λz=>absurd (pa e) (by rw[xf.mp z];exact de _)) (ba _ e)
theorem tU{c:List (Addr × Obj)}{s:Shared}{n:St}{H:Hp}{p:Addr}{vs:List V}{E:Value->Shared->Prop}{Q:Value->Shared->Prop}(m:X.A.handled=none)(I:Inv X c n H s)(d:zf X.K H p vs\/ph X.K H p vs)
  (h:∀ (its:List Value) (It:Addr) (l:List Addr) (St:Nat->Heap->Prop) (f:Shared),zd vs its->S6 X.prog X.w X.A.in1 It l [It] its.toArray.size (λi v=>its.toArray[i]?=some v) St->St 0 f.heap->(∀ b∈l,b<f.heap.objs.size)->
   (∀ h' k,(∀ b o,b ∉ [It]->f.heap.get? b=some o->h'.get? b=some o)->Inv X c n H { f with heap:=h',toks:=k })->Q (.ref It) f):wpAny (model X.prog X.w) X.A.in1 (pyIter (.ref p)) Q E s:=by
 rcases d with d|d
 ·obtain⟨its,j,pl,q⟩:=I.list d;have a:p<s.heap.objs.size:=by obtain⟨_,e,_⟩:=pl.isList;exact pa e
  refine Im pl.isList (h its s.heap.objs.size [s.heap.objs.size,p] _ _ j (hB (A:=X.A.in1) m _ p (ua a) its.toArray) ⟨⟨_,Aa _ rfl,rfl,rfl⟩,pl.isList.push _⟩ (λb hb=>?_) (λh' k g=>I.kept (RK g)));show b<(s.heap.push _).objs.size;rw[dc];simp only[Ca,qe,Wk]at hb;rcases hb with rfl|rfl
  ·exact yb _
  ·exact zb a
 ·obtain⟨its,j,pl,q⟩:=I.tuple d;have a:p<s.heap.objs.size:=pl.lt;refine Bx (show s.heap.IsTuple p _ from pl) (h its s.heap.objs.size [s.heap.objs.size,p] _ _ j (Walks.tuple (A:=X.A.in1) m _ p (ua a) its.toArray) ⟨⟨_,Aa _ rfl,rfl,rfl⟩,RD (show s.heap.IsTuple p _ from pl) _⟩ (λb hb=>?_) (λh' k g=>I.kept (RK g)));show b<(s.heap.push _).objs.size;rw[dc];simp only[Ca,qe,Wk]at hb;rcases hb with rfl|rfl
  ·exact yb _
  ·exact zb a
theorem WR(e:X.calm=true):Zl X (.builtin "all") (NK X.K λbs=>bs.all id):=by
 intro a s v H xs w Q I r h;obtain⟨p,bs,rfl,g,q⟩:=h;obtain⟨u,rfl,k⟩:=Yr r;cases k;refine call_all_walk (tU (I.ok.hd e) I g λj It n St t l W h0 o d=>?_);have b:=CP l;subst b;refine⟨_,_,_,_,_,_,λi=>bs.getD i false,rfl,W,h0,FY bs,λc m f=>⟨.bl (bs.all id),H,d c m f,?_,q⟩⟩;show tf _=tf _;rw[xa,Ta];exact Ve tf (lL id false bs)
theorem eV{a:Type}{σ:db}{x:D}{g:List D->Option a}{bs:a}(h:(cm σ x).bind g=some bs):∃ ys,cm σ x=some ys/\g ys=some bs:=rf.mp h
theorem TU(g:T.K=X.K):tr T (NK X.K λbs=>bs.all id) sC:=by
 intro E m H k xs j Q r p h
 match xs with
 |[]=>exact h.elim
 |[x]=>
  rw[Ra]at p;obtain⟨v,w,rfl,i,c⟩:=p;rw[Ra]at c;subst c;unfold sC at h;cases e:(cm k x).bind TB with
  |none=>simp only[e]at h;exact h.elim
  |some bs=>
   simp only[e]at h;obtain⟨l,e1,d⟩:=eV e;obtain⟨b,j,rfl,f,a⟩:=vA r i e1;rw[g,NI f d]at a;exact⟨b,bs,rfl,a,Cb.here h r (by rw[Rep])⟩
 |_::_::_=>exact h.elim
noncomputable def FN(xs:List D):M D:=match xs with
 |[.int i,.int j]=>ret (.int (max i j))
 |_=>bad
noncomputable def nA(xs:List D):M D:=match xs with
 |[.int i,.int j]=>ret (.int (min i j))
 |_=>bad
theorem qO{μ:List Addr}{H:Hp}{x y:D}{vs:List V}(p:Ra T μ H [x,y] vs):∃ v u,vs=[v,u]/\Rep T μ H x v/\Rep T μ H y u:=by
 rw[Ra]at p;obtain⟨v,w,rfl,b,a⟩:=p;rw[Ra]at a;obtain⟨u,d,rfl,c,p4⟩:=a;rw[Ra]at p4;subst p4;exact⟨v,u,rfl,b,c⟩
theorem o6:tr T (λxs H Q=>∃ i j,xs=[.int i,.int j]/\Q (.int (if j > i then j else i)) H) FN:=by
 intro E d H f xs c Q r p h;unfold FN at h;split at h
 ·rename_i i j
  obtain⟨v,u,rfl,a,b⟩:=qO p;refine⟨i,j,by rw[oo a,oo b],?_⟩;have e:(if j > i then j else i)=max i j:=by rw[Int.max_def];split<;>split<;>omega
  rw[e];exact Cb.here h r (by rw[Rep])
 ·exact h.elim
theorem WV:tr T (λxs H Q=>∃ i j,xs=[.int i,.int j]/\Q (.int (if j<i then j else i)) H) nA:=by
 intro E d H f xs c Q r p h;unfold nA at h;split at h
 ·rename_i i j
  obtain⟨v,u,rfl,a,b⟩:=qO p;refine⟨i,j,by rw[oo a,oo b],?_⟩;have e:(if j<i then j else i)=min i j:=by rw[Int.min_def];split<;>split<;>omega
  rw[e];exact Cb.here h r (by rw[Rep])
 ·exact h.elim
noncomputable def Jj(ns:List Int):List Int:=ns.foldl Ix []
theorem VF(ns:List Int):Ef (λi=>ns.getD i 0) ns.length=Jj ns:=by
 unfold Ef Jj;congr 1;apply ih;intro i;by_cases h:i<ns.length
 ·simp[h]
 ·simp[h]
noncomputable def Dy(x:D):M D:=λa=>match (Dh a x).bind xt with
 |some ns=>if ns.length<=Ch then .ok (.int (Jj ns).length) a else .bad
 |none=>.bad
noncomputable def pU(K:W.Frag):List V->Hp->VK->Prop:=λxs H Q=>∃ (p:Addr) (ns:List Int),xs=[.ref p]/\zf K H p (ns.map V.int)/\ns.length<=Ch/\∀ l,H l=none->Q (.ref l) (upd H l (.set (λk=>(Jj ns).any (·== k)) (Jj ns).length))
theorem GO{n:Nat}(h:n<=Ch):n+1<scanBound:=Ht (Nat.succ_le_succ h) (by decide)
theorem G0(g:X.calm=true):Zl X (.type "set") (pU X.K):=by
 intro d s w H xs x Q I r h;obtain⟨p,ns,rfl,l,j,q⟩:=h;obtain⟨u,rfl,m⟩:=Yr r;cases m;obtain⟨a,f,pl,v⟩:=I.list l;have c:a.length=ns.length:=by rw[<-f.length,Ta]
 refine call_set_list (I.ok.hd g) pl.isList (ns:=ns) (AE f) (by rw[xa,c];exact GO j) λt n hs i=>?_;rw[show a.toArray.size=ns.length by rw[xa,c],VF]at hs;refine⟨.ref s.heap.objs.size,_,I.laid (t':=n) (o:=.set (λk=>(Jj ns).any (·== k)) (Jj ns).length) (λb o e=>i b o (pa e) e) (ja _) ?_,rfl,q _ (I.Pb.fresh (ja _))⟩;exact hs
theorem F1 : Zl X (.builtin "len") (λxs H Q => ∃ (p : Addr) (S : Int -> Bool) (n : Nat), xs = [.ref p] /\ H p = some (.set S n) /\ Q (.int n) H) := by
  intro a s x H xs y Q I r h;obtain ⟨p, S, n, rfl, g, q⟩ := h;obtain ⟨u, rfl, i⟩ := Yr r;cases i;obtain ⟨o, k, j, t, b, c, d, l, m, v, e, f⟩ := (show Wh X.prog X.w H s.heap p (.set S n) from I.Pb p _ g)
  refine call_len_set b c d e (by have : scanBound <= 2 ^ 62 := (by decide);omega) ⟨.int n, H, I.tok _, ⟨_, by rw [f]⟩, q⟩
theorem j2{e:Ea}{f:Ev->M D}{p r pos b:se}(V:T.K=X.K)(E:X.calm=true)(G:Gl X "len")(hm:X.mg "len" = none)(m:Gl X "set")(o:X.mg "set" = none)(F:FE T X e f)
  (hs:na [e] X.env=(false,Gb e X.env)::na [] X.env:=by rfl) (q:(vc b (na [] X.env)).any (·.1)=false:=by rfl)
  (i:na [.Call (.Name "set" r) [e] [] b] X.env=(false,Gb (.Call (.Name "set" r) [e] [] b) X.env)::na [] X.env:=by rfl) (g:(vc pos (na [] X.env)).any (·.1)=false:=by rfl) :
  FE T X (.Call (.Name "len" p) [.Call (.Name "set" r) [e] [] b] [] pos) (Xd Dy f):=by
 intro j s O H Q I h;refine FC F1 G hm Rc (eu (nH (G0 E) m o rfl (eu F zv hs) (by decide) (by decide) hs q) zv i) (by decide) (by decide) i g j s O H Q I ?_;obtain⟨P,R,S,C,L,J⟩:=h;refine⟨P,R,S,C,L,J.bind λd u t v U _ e1 w N c=>?_⟩;unfold Dy at c;cases k:(Dh u d).bind xt with
 |none=>rw[k]at c;exact c.elim
 |some ns=>
  rw[k]at c;dsimp only at c;by_cases n:ns.length<=Ch
  ·rw[da n]at c;obtain⟨Y,x,y⟩:=rf.mp k;obtain⟨a,W,rfl,A,B⟩:=w.ls N x;have z:=rC B y;subst z;refine⟨a,ns,rfl,zf.of A,n,λl hn=>?_⟩;exact⟨l,_,_,rfl,fg,c t (.int (Jj ns).length) _ (Lj hn) (w.fresh hn) (by rw[Rep])⟩
  ·rw[ga n]at c;exact c.elim
noncomputable def iu(xs:List D)(a b:Option Int):List D:=(xs.drop (HT.Ue xs.length 0 a)).take (HT.Ue xs.length xs.length b - HT.Ue xs.length 0 a)
theorem LZ{xs:List D}{b a:Option Int}(h:HT.Ue xs.length 0 b=0/\HT.Ue xs.length xs.length a=xs.length):iu xs b a=xs:=by
 unfold iu;rw[h.1,h.2];simp
theorem OF{μ:List Addr}{H:Hp}{xs:List D}{vs:List V}(r:Ra T μ H xs vs)(b a:Option Int):Ra T μ H (iu xs b a) (Pv vs b a):=by
 unfold iu Pv;rw[r.length];exact Ra.take _ (Ra.drop _ r)
end
end L4
namespace HT
open PySem PySem.Spec PyProof.Rows
variable{prog:ra}{w:Ia}{A:Ja}{E:Value->Shared->Prop}{s:Shared}
theorem dj{t j:Addr}{a:Array Value}{l m:Value}{c e:Option Int}{Q:Value->Shared->Prop}(b:Cs s.heap t a)(hs:s.heap.IsSliceOf j l m .none)(pl:Sj l c)(p:Sj m e)
  (k:Ue a.size 0 c=0/\Ue a.size a.size e=a.size) (h:Q (.ref t) s):wpAny (model prog w) A (Qh (.ref t) (.ref j)) Q E s:=by
 obtain⟨os,i,g,n⟩:=id hs;have f:s.TypeIs (.ref j) "slice":=⟨os,i,g⟩
 unfold Qh;try with_reducible refine Wc ?_
 first|refine aa (ia ?_)|skip
 refine aa (Ny b.typeIs (by decide) ?_);refine aa (vd (name:=Vf "__getitem__") b.typeIs Nb
  (yc Nb b.typeIs dw ?_ (zx _ _)))
 show wpAny _ _ (uj (.ref t) >>= _) _ _ s;refine aa (HP b ?_);refine aa (Ti f ?_);rw[da (by decide)];refine aa (kK hs pl p ?_);have d:(((Ue a.size 0 c:Nat):Int) == 0 && (1:Int) == 1 && (Ue a.size a.size e - Ue a.size 0 c) == a.size)=true:=by
  rw[k.1,k.2];simp
 show wpAny _ _ (if (((Ue a.size 0 c:Nat):Int) == 0 && (1:Int) == 1 && (Ue a.size a.size e - Ue a.size 0 c) == a.size)=true then _ else _) _ _ s;rw[da d];obtain⟨o,r,q,u⟩:=id b;unfold uB;refine aa (aa (Ti b.typeIs ?_));refine ia ?_;rw[da (by decide)];refine aa (rq ?_);first
  |exact ia ⟨_,rfl,ia h⟩
  |exact ia (ia ⟨_,rfl,ia h⟩)
  |exact aa (ia (ia ⟨_,rfl,ia h⟩))
end HT
namespace L4
open PySem PySem.Spec PyProof.Rows L2
section
variable{T:Tb}{X:Cx}
noncomputable def fL(K:W.Frag):V->Option Int->Option Int->Hp->VK->Prop:=λx c b H Q=>∃ a xs,x=.ref a/\ph K H a xs/\(HT.Ue xs.length 0 c=0/\HT.Ue xs.length xs.length b=xs.length)/\Q (.ref a) H
theorem T2:nu X (fL X.K):=by
 intro e s o H x v p t m k n Q I j hs pl i h;obtain⟨a,xs,rfl,g,f,q⟩:=h;cases j;obtain⟨c,r,d,l⟩:=I.tuple g;have b:c.toArray.size=xs.length:=by rw[xa];exact r.length.symm
 exact⟨"tuple",_,Nb.lookup,d.typeIs,HT.dj d hs pl i (by rw[b];exact f) ⟨.ref a,H,I,rfl,q⟩⟩
noncomputable abbrev PF:=Option (Ev->M D)
noncomputable def mH(d:D):M (Option Int):=match d with
 | .int i=>ret (some i)
 |_=>bad
noncomputable def Yw(p:PF):Ev->M (Option Int):=match p with
 |none=>λ_=>ret none
 |some f=>λa=>Fc (f a) mH
noncomputable def tP(T:Tb)(X:Cx)(f:Ev->M (Option Int)):TO:=λd H Q=>∃ c e g,eh T c H e d/\Rel T c H g/\Cb T (XE X d) (λ_ _ a b=>b=a) c H (f e g) Q
noncomputable abbrev FO(T:Tb)(X:Cx)(e:Option Ea)(p:PF):Prop:=PO X e (tP T X (Yw p))
theorem I1:FO T X none none:=by
 intro a s d H Q I h;obtain⟨f,g,i,e,c,b⟩:=h;exact TX a s d H Q I (Cb.here b c rfl)
theorem lZ{e:Ea}{f:Ev->M D}(g:FE T X e f):FO T X (some e) (some f):=by
 intro a s n H Q I h;refine JW g a s n H Q I ?_;obtain⟨o,q,r,c,k,j⟩:=h;refine⟨o,q,r,c,k,Cb.bind j λd t p v u _ e1 m l b=>?_⟩;cases d with
 |int i=>exact⟨i,oo l,Cb.here b m rfl⟩
 |_=>exact b.elim
noncomputable def cO(x:D)(c b:Option Int):M D:=λa=>match x with
 | .tup xs=>.ok (.tup (iu xs c b)) a
 | .Pi ns=>.ok (.lst (iu (ns.map D.int) c b)) a
 |x=>(match Dh a x with
  |some xs=>.ok (.lst (iu xs c b)) a
  |none=>.bad)
noncomputable def iA(x:D)(b:Option Int)(a:Option Int):M D:=cO x b a
noncomputable def SE(x:D)(a:M (Option Int))(b:Option Int):M D:=Fc a (iA x b)
noncomputable def VE(b a:M (Option Int))(x:D):M D:=Fc b (SE x a)
noncomputable def AH(f:Ev->M D)(c b:PF):Ev->M D:=λa=>Fc (f a) (VE (Yw c a) (Yw b a))
theorem AX{e:Ea}{U S:Option Ea}{f:Ev->M D}{pl V:PF}{pos C:se}(Z:T.K=X.K)(he:FE T X e f)(hl:FO T X U pl)(hh:FO T X S V):FE T X (.Subscript e (.Slice U S none C) pos) (AH f pl V):=by
 intro x s W H Q I h;refine nZ (nu.or uS (nu.or T2 IV)) he hl hh x s W H Q I ?_;obtain⟨μ,N,σ,A,hr,hp⟩:=h;refine⟨μ,N,σ,A,hr,hp.bind λd O J v H1 _ e1 r1 q1 p1=>⟨J,N,O,A.mono e1,r1,p1.bind λl P L g H2 _ R r2 q2 C=>⟨L,N,P,(A.mono e1).mono R,r2,C.bind λu o z i t _ Y y q3 c=>?_⟩⟩⟩;have E:g=l:=q2;have F:i=u:=q3;subst E;subst F;have rd:Rep T z t d v:=Rep.mono Y _ _ (Rep.mono R _ _ q1);have b:∀ m,Dh o d=some m->Cb T (XE X W) (Rep T) z t (.ok (.lst (iu m g i)) o) Q->zN X.K v g i t Q\/fL X.K v g i t Q\/uI X.K v g i t Q:=λm w p4=>by
  obtain⟨a,j,rfl,r,k⟩:=y.ls rd w;exact .inr (.inr ⟨a,j,rfl,zf.of r,λp hn=>HB p4 y (OF k g i) hn⟩)
 cases d with
 |tup xs=>
  have G:=rd;rw[Rep]at rd;obtain⟨p,j,rfl,r,k⟩:=rd;by_cases B:HT.Ue j.length 0 g=0/\HT.Ue j.length j.length i=j.length
  ·refine .inr (.inl ⟨p,j,rfl,ph.of r,B,Cb.here (d:=D.tup (iu xs g i)) c y ?_⟩);rw[LZ (by rw[k.length];exact B)];exact G
  ·exact .inl ⟨p,j,rfl,ph.of r,B,λq hn=>CF c y (OF k g i) hn⟩
 |ref n=>
  unfold iA cO at c;dsimp only at c;cases w:Dh o (.ref n)with
  |none=>rw[w]at c;exact c.elim
  |some m=>rw[w]at c;exact b m w c
 |lst m=>exact b m rfl c
 |Pi ns=>
  rw[Rep]at rd;obtain⟨p,rfl,r⟩:=rd;have k:=r.seq;rw[Z]at k;exact .inr (.inr ⟨p,_,rfl,k,λp hn=>HB c y (OF (dC ns) g i) hn⟩)
 |_=>exact c.elim
end
noncomputable def nD(K:W.Frag)(mg:qa->Option Value)(x:qa)(e:Stmt)(ps:List qa)(g:List Value):Prop:=
 ∃ f b,mg x=some (.ref f)/\W.keepIn K (.ref f)=true/\(∃ (h:Value) (i:Option Addr) (dV kV c j:Value) (an:Option Addr) (a ct:Value) (d:Array (Option Value)),
  b=W.fnOf x x (ml e) (Ei e) (pd e) dV kV c j an a ct/\K.lookup f=some ⟨h,i,.func b,d⟩/\W.codeIn K a x=true)/\Up K b ps []/\Up K b ps g
noncomputable def qt(T:Tb)(P:ra)(w:Ia)(mg:qa->Option Value)(base:Heap)(k:Nat)(x:qa)(ps:List qa)(b:List Value)(fn:List D->M D):Prop:=
 ∃ f a,mg x=some (.ref f)/\W.keepIn T.K (.ref f)=true/\Up T.K a ps []/\Up T.K a ps b/\Og P w T.K mg base (Qk P w) k f a ps (Bo T ps.length fn)
section
variable{T:Tb}{X:Cx}
theorem jQ{k:Nat}{ps:List qa}{d:List Value}{dds:List D}{dvs:List V}{fn:List D->M D}{x:qa}{p pos:se}{e:Ea}{es:List Ea}{fs:Ev->M (List D)}(h:qt T X.prog X.w X.mg X.base k x ps d fn)(j:T.K=X.K)(o:ke k X.A)(n:Gl X x)(q:zd dvs d)(b:∀ μ H,Ra T μ H dds dvs)
  (l:FA T X (e::es) fs) (a:(x == ("__debug__" : qa))=false:=by decide) (m:na (e::es) X.env=(false,Gb e X.env)::na es X.env:=by rfl) (c:(vc pos (na es X.env)).any (·.1)=false:=by rfl) :
  FE T X (.Call (.Name x p) (e::es) [] pos) (bh ps.length fn dds fs):=by
 obtain⟨f,r,hm,i,_,hb,g⟩:=h;rw[j]at i g hb;exact cN (dds:=dds) (dvs:=dvs) g o n hm i hb q b l a m c
theorem wU:zd [V.Hb] [Sa]:=.cons rfl .nil
theorem j1{T:Tb}(μ:List Addr)(H:Hp):Ra T μ H [D.Hb] [V.Hb]:=Ra.cons (by rw[Rep]) Ra.nil
variable{P:ra}{w:Ia}{K:W.Frag}{mg:qa->Option Value}{base:Heap}{ca:Nat->Addr}{tx:Tx}
theorem OZ{k:Nat}{x:qa}{b:Stmt}{ps N:List qa}{d:List Value}{g:Ev->M Fl}(h:nD K mg x b ps d)(S:Ka N ps (pd b))
  (hb:∀ (f:Addr) (a:Value) (A:Ja) (outer:List Cg) (s:Shared) (H:Hp) (E:XK),ke k (A.deeper (Kg x (pd b) s.heap.objs.size f a))->Qo ⟨K,ca,tx⟩ (Dp (Qk P w) P w K mg base N x (pd b) f a A outer s H E) (Ei b) g) :
  qt ⟨K,ca,tx⟩ P w mg base (k+1) x ps d (run N.length g):=by
 obtain⟨f,o,hm,l,⟨p,q,dV,kV,j,r,n,a,ct,m,rfl,lk,c⟩,e,i⟩:=h;exact⟨f,_,hm,l,e,i,xA lk c S (hb f a)⟩
theorem qt.rb{k:Nat}{x:qa}{ps:List qa}{a:List Value}{fn:List D->M D}(h:qt T P w mg base k x ps a fn):qt T P w mg base k x ps a (λb=>L4.rb (fn b)):=by
 obtain⟨f,c,d,e,g,i,j⟩:=h;exact⟨f,c,d,e,g,i,dD j⟩
theorem i0{h:Heap}{x:qa}{g:Stmt}{ps:List qa}{f t:Addr}{dv:List Value}{y u:Value}{od i v:Option Addr}{m w:Array (Option Value)}{kV e j b ct:Value}{r:Nat}(X:K.In h)(G:h.Ns mainGlobals mg)
  (hb:∀ (t:Addr) (kV e j:Value) (i:Option Addr) (b ct:Value) (s:Shared) (o:Obj) (n:Nat) (us:List Value),s.heap.get? t=some o->o.data=.seq dv.toArray n->((us++[]).length=ps.length->Xe s (W.fnOf x x (ml g) (Ei g) (pd g) (.ref t) kV e j i b ct) ⟨us,[]⟩ (ps.zip (us++[])))/\
   ((us++dv).length=ps.length->Xe s (W.fnOf x x (ml g) (Ei g) (pd g) (.ref t) kV e j i b ct) ⟨us,[]⟩ (ps.zip (us++dv))))
  (a:W.nsIn K mainGlobals x=some (some (.ref f))) (l:K.lookup f=some ⟨y,od,.func (W.fnOf x x (ml g) (Ei g) (pd g) (.ref t) kV e j i b ct),m⟩)
  (c:W.codeIn K b x=true) (k:W.keepIn K (.ref f)=true) (d:K.lookup t=some ⟨u,v,.seq dv.toArray r,w⟩):nD K mg x g ps dv:=
 ⟨f,_,fw X G a,k,⟨y,od,_,kV,e,j,i,b,ct,m,rfl,l,c⟩,λs us p q=>(hb t kV e j i b ct s _ r us (p _ _ d) rfl).1 q,λs us p q=>(hb t kV e j i b ct s _ r us (p _ _ d) rfl).2 q⟩
end
abbrev Gy:List Value:=[.type "ValueError",.type "Exception",.type "BaseException",.type "object"]
theorem Ae.hide{T:Tb}{P:ra}{w:Ia}{mg:qa->Option Value}{base:Heap}{k:Nat}{x:qa}{ps:List qa}{fn:List D->M D}(h:Ae T P w mg base k x ps fn):Ae T P w mg base k x ps (L4.hide fn):=by rw[Jk];exact h
theorem qt.hide{T:Tb}{P:ra}{w:Ia}{mg:qa->Option Value}{base:Heap}{k:Nat}{x:qa}{ps:List qa}{a:List Value}{fn:List D->M D}(h:qt T P w mg base k x ps a fn):qt T P w mg base k x ps a (L4.hide fn):=by rw[Jk];exact h
section
variable{T:Tb}{X:Cx}{μ:List Addr}{H:Hp}{σ:db}
noncomputable def Fm(σ:db):D->Option (Nat × List (qa × D))
 | .obj c ns ds=>if ns.length=ds.length then some (c,ns.zip ds)else none
 | .ref n=>match σ[n]? with
  |some (.ins c fs)=>some (c,fs)
  |_=>none
 |_=>none
theorem wN:∀ {ns:List qa} {ds:List D} {fs:List (qa × V)},fs.map (·.1)=ns->Ra T μ H ds (fs.map (·.2))->zr T μ H (ns.zip ds) fs
 |[],ds,[],_,h=>by
  rw[Vd]at h;cases ds with
  |nil=>exact Paired.nil
  |cons d ds=>have:=h.length;simp at this
 |[],ds,f::fs,e,_=>by simp at e
 |n::ns,ds,[],e,_=>by simp at e
 |n::ns,[],f::fs,e,h=>by have:=h.length;simp at this
 |n::ns,d::ds,f::fs,e,h=>by
  simp only[za,Rq]at e;rw[za,Ra]at h;obtain⟨v,r,a,g,i⟩:=h;simp only[Rq]at a;obtain⟨b,c⟩:=a;subst c;exact Paired.cons ⟨e.1.symm,by rw[b];exact g⟩ (wN e.2 i)
theorem KC(r:Rel T μ H σ){d:D}{v:V}{c:Nat}{fs:List (qa × D)}(h:Rep T μ H d v)(e:Fm σ d=some (c,fs)):∃ a b vs,v=.ref a/\H a=some (.ins (T.ca c) b vs)/\zr T μ H fs vs:=by
 cases d with
 |obj k ns ds=>
  unfold Fm at e;by_cases j:ns.length=ds.length
  ·simp only[j,ee,Gg,Prod.mk.injEq]at e;obtain⟨rfl,rfl⟩:=e;rw[Rep]at h;obtain⟨a,b,vs,rfl,_,g,i,p⟩:=h;exact⟨a,b,vs,rfl,g,wN i p⟩
  ·simp[j]at e
 |ref n=>
  unfold Fm at e;dsimp only at e;cases f:σ[n]? with
  |none=>rw[f]at e;cases e
  |some o=>
   rw[f]at e;obtain⟨a,rfl,_,m⟩:=r.at h f;cases o with
   |ins k l=>cases e;obtain⟨b,vs,g,i⟩:=m;exact⟨a,b,vs,rfl,g,i⟩
   |lst _=>cases e
   |va _=>cases e
   |lb _=>cases e
   |og _=>cases e
 |_=>cases e
theorem Sz{f:qa}:∀ {fs:List (qa × D)} {vs:List (qa × V)},zr T μ H fs vs->(∀ d,fs.lookup f=some d->∃ v,vs.lookup f=some v/\Rep T μ H d v)/\(fs.lookup f=none->vs.lookup f=none)
 |_,_,.nil=>⟨λd e=>by simp at e,λ_=>rfl⟩
 |(g,x)::fs,(g',v)::vs,.cons ⟨e,h⟩ t=>by
  have c:g=g':=e;subst c;obtain⟨i,j⟩:=Sz t;by_cases b:(f == g)=true
  ·refine⟨λd q=>?_,λq=>?_⟩
   ·rw[Va,b]at q;cases q;exact⟨v,by rw[Va,b],h⟩
   ·rw[Va,b]at q;cases q
  ·have a:(f == g)=false:=by simpa using b
   refine⟨λd q=>?_,λq=>?_⟩
   ·rw[Va,a]at q;obtain⟨w,k,l⟩:=i d q;exact⟨w,by rw[Va,a];exact k,l⟩
   ·rw[Va,a]at q;rw[Va,a];exact j q
noncomputable def Xi(T:Tb)(cs:List Nat)(f:qa):Prop:=∀ c,cs.contains c=true->Bh T.K (T.ca c)/\rc T.K (T.ca c) f
theorem Rk{f:qa}:Xi T [] f:=λc h=>by simp at h
theorem Pf{f:qa}{c:Nat}{cs:List Nat}(a:Bh T.K (T.ca c))(b:rc T.K (T.ca c) f)(h:Xi T cs f):Xi T (c::cs) f:=λd hd=>by
 rw[List.contains_cons,ci,vf]at hd;rcases hd with rfl|hd
 ·exact⟨a,b⟩
 ·exact h d hd
noncomputable def Tc(cs:List Nat)(f:qa)(x:D):M D:=λσ=>match Fm σ x with
 |some (c,fs)=>if cs.contains c=true then (match fs.lookup f with
  |some d=>.ok d σ
  |none=>.bad)else .bad
 |none=>.bad
theorem Jg{e:Ea}{f:qa}{g:Ev->M D}{pos:se}{cs:List Nat}(B:T.K=X.K)(C:Xi T cs f)(E:FE T X e g)
  (hb:Yc e f X.env (Gb e X.env)=Gb e X.env:=by rfl):FE T X (.Attribute e f pos) (Xd (Tc cs f) g):=by
 intro j s L H Q I h;refine y0 E hb j s L H Q I ?_;obtain⟨μ,P,σ,A,G,F⟩:=h;refine⟨μ,P,σ,A,G,Cb.bind F λd m O v R _ e1 q J b=>?_⟩;unfold Tc at b;cases k:Fm m d with
 |none=>rw[k]at b;exact b.elim
 |some p=>
  obtain⟨c,fs⟩:=p;rw[k]at b;dsimp only at b;by_cases i:cs.contains c=true
  ·rw[da i]at b;obtain⟨a,r,N,rfl,t,u⟩:=KC q J k;cases l:fs.lookup f with
   |none=>rw[l]at b;exact b.elim
   |some y=>
    rw[l]at b;obtain⟨w,x,z⟩:=(Sz u).1 y l;obtain⟨n,o⟩:=C c i;rw[B]at n o;exact⟨a,_,r,N,w,rfl,t,n,o,x,Cb.here b q z⟩
  ·rw[ga i]at b;exact b.elim
noncomputable def Ej(f:qa)(v:D):List (qa × D)->List (qa × D)
 |[]=>[(f,v)]
 |(g,x)::r=>if g=f then (g,v)::r else (g,x)::Ej f v r
theorem bH{f:qa}{d:D}{v:V}(hd:Rep T μ H d v):∀ {fs:List (qa × D)} {vs:List (qa × V)},zr T μ H fs vs->zr T μ H (Ej f d fs) (Ll f v vs)
 |_,_,.nil=>Paired.cons ⟨rfl,hd⟩ Paired.nil
 |(g,x)::fs,(g',w)::vs,.cons ⟨e,h⟩ t=>by
  have b:g=g':=e;subst b;unfold Ej Ll;by_cases a:g=f
  ·rw[da a,da a];exact Paired.cons ⟨rfl,hd⟩ t
  ·rw[ga a,ga a];exact Paired.cons ⟨rfl,h⟩ (bH hd t)
theorem zr.mono{μ':List Addr}{a:Hp}(e:Ext μ H μ' a){fs:List (qa × D)}{vs:List (qa × V)}(h:zr T μ H fs vs):zr T μ' a fs vs:=Paired.nq h λ_ _ q=>⟨q.1,Rep.mono e _ _ q.2⟩
theorem zr.length{fs:List (qa × D)}{vs:List (qa × V)}(h:zr T μ H fs vs):fs.length=vs.length:=Paired.length h
noncomputable def Sx(cs:List Nat)(f:qa)(d x:D):M Unit:=λσ=>match x with
 | .ref n=>(match σ[n]? with
  |some (.ins c fs)=>if (cs.contains c && decide (fs.length<1000))=true then .ok () (σ.set n (.ins c (Ej f d fs)))else .bad
  |_=>.bad)
 |_=>.bad
noncomputable def ft(ρ:Ev)(cs:List Nat)(f:qa)(d x:D):M Fl:=λσ=>match Sx cs f d x σ with
 | .ok _ a=>.ok (.nx ρ) a
 |_=>.bad
noncomputable def qE(ρ:Ev)(cs:List Nat)(f:qa)(a:Ev->M D)(d:D):M Fl:=xs ρ (a ρ) (ft ρ cs f d)
noncomputable def zi(cs:List Nat)(f:qa)(c b:Ev->M D):Ev->M Fl:=λa=>xs a (c a) (qE a cs f b)
theorem vj{o e:Ea}{f:qa}{B A:Ev->M D}{pos h:se}{cs:List Nat}(O:T.K=X.K)(P:Xi T cs f)(Q:FE T X o A)(V:FE T X e B)
  (hs:Di e (some (.Attribute o f h)) pos.line X.env=pure false:=by rfl):FS T X (.Assign [.Attribute o f h] e pos) (zi cs f B A):=by
 intro j s L H D I S;refine KR Q V hs j s L H D I ?_;obtain⟨μ,N,σ,i,U,R⟩:=S;refine⟨μ,N,σ,i,U,R.xs i λd t r v H1 _ e1 r1 Y W=>?_⟩;refine⟨r,N,t,i.mono e1,r1,W.xs (i.mono e1) λx u k vo w _ y J Z b=>?_⟩;have hd:=Rep.mono y _ _ Y;unfold ft Sx at b;cases x with
 |ref n=>
  dsimp only at b;cases m:u[n]? with
  |none=>rw[m]at b;exact b.elim
  |some ob=>
   rw[m]at b;cases ob with
   |lst _=>exact b.elim
   |va _=>exact b.elim
   |lb _=>exact b.elim
   |og _=>exact b.elim
   |ins c fs=>
    dsimp only at b;by_cases g:(cs.contains c && decide (fs.length<1000))=true
    ·rw[da g]at b;rw[Ma,nc]at g;obtain⟨a,rfl,hn,l,p,C,E⟩:=J.at Z m;have ex:Ext k w k (upd w a (.ins (T.ca c) l (Ll f v p))):=Pr (Ga hn) C (λ_ z=>by cases z) (λ_ _ z=>by cases z);have q:=J.write (o:=.ins (T.ca c) l (Ll f v p)) (ob:=.ins c (Ej f d fs)) hn ⟨l,_,fg,bH (Rep.mono ex _ _ hd) (zr.mono ex E)⟩;obtain⟨F,G⟩:=P c g.1;rw[O]at F G;exact⟨a,_,l,p,rfl,C,F,G,by rw[<-E.length];exact g.2,b _ (.nx L) _ q.1 q.2 ((i.mono e1).mono y |>.mono q.1)⟩
    ·rw[ga g]at b;exact b.elim
 |_=>exact b.elim
noncomputable def Cv(n:Nat):Out D->Out D
 | .ok .Hb a=>.ok (.ref n) a
 | .ok _ _=>.bad
 | .ex x a=>.ex x a
 | .bad=>.bad
noncomputable def Fp(c n:Nat)(fn:List D->M D)(ds:List D):M D:=λσ=>if ds.length+1=n then Cv σ.length (fn (.ref σ.length::ds) (σ++[.ins c []]))else .bad
noncomputable def jr(c n:Nat)(fn:List D->M D)(fs:Ev->M (List D)):Ev->M D:=λa=>Fc (fs a) (Fp c n fn)
noncomputable def ye(T:Tb)(P:ra)(w:Ia)(mg:qa->Option Value)(base:Heap)(k:Nat)(f:Addr)(ps:List qa)(fn:List D->M D):Prop:=
 ∃ b,(∀ a:List Value,a.length=ps.length->bindArgs b ⟨a,[]⟩=pure (ps.zip a))/\Og P w T.K mg base (Qk P w) k f b ps (Bo T ps.length fn)
noncomputable def VY(T:Tb)(P:ra)(w:Ia)(mg:qa->Option Value)(base:Heap)(k:Nat)(x:qa)(c:Nat)(ps:List qa)(fn:List D->M D):Prop:=
 ∃ f,mg x=some (.ref (T.ca c))/\Mk T.K (T.ca c) f/\ye T P w mg base k f ps fn
theorem pL{E:XK}{c:Nat}{ps:List qa}{fn:List D->M D}{ds:List D}{vs:List V}{Q:VK}(r:Rel T μ H σ)(q:Ra T μ H ds vs)(p:Cb T E (Rep T) μ H (Fp c ps.length fn ds σ) Q) :
  ∀ x a,H x=none->H a=none->a≠x->Bo T ps.length fn (.ref x::(vs++[])) (upd (upd H a (.own x)) x (.ins (T.ca c) a [])) (λv u=>v=.Hb/\Q (.ref x) u) E:=by
 intro x a z h m;unfold Fp at p;by_cases l:ds.length+1=ps.length
 ·rw[da l]at p;have b:Ext μ H μ (upd H a (.own x)):=Lj h;have o:Rel T μ (upd H a (.own x)) σ:=r.fresh h;have i:upd H a (.own x) x=none:=by unfold upd;rw[ga (Fe m)];exact z
  have f:Ext μ (upd H a (.own x)) (μ++[x]) (upd (upd H a (.own x)) x (.ins (T.ca c) a [])):=Lu i;have A:Rel T (μ++[x]) (upd (upd H a (.own x)) x (.ins (T.ca c) a [])) (σ++[.ins c []]):=o.push i ⟨a,[],fg,Paired.nil⟩;refine⟨μ++[x],σ++[.ins c []],.ref σ.length::ds,Ra.cons (MA o) (by rw[Qd];exact Ra.mono (b.trans f) _ _ q),by rw[Ha];exact l,A,?_⟩;cases e:fn (.ref σ.length::ds) (σ++[.ins c []])with
  |bad=>rw[e]at p;exact p.elim
  |ex y s=>rw[e]at p;exact λg k j n=>p g k ((b.trans f).trans j) n
  |ok d s=>
   rw[e]at p;intro g v k j n t;have w:d=.Hb:=by cases d<;>first|rfl|exact p.elim
   subst w;rw[Rep]at t;refine⟨t,p g (.ref x) k ((b.trans f).trans j) n ?_⟩;exact Rep.mono j _ _ (MA o)
 ·rw[ga l]at p;exact p.elim
theorem QN{k:Nat}{C f:Addr}{j:Ud}{ps:List qa}{sp:Sp}{dvs:List V}{ds:List Value}{b:List (Addr × Obj)}{i:St}{H:Hp}{s:Shared}{Q:VK}{us:List Value}{vs:List V}(M:Mk X.K C f)(F:Og X.prog X.w X.K X.mg X.base (Qk X.prog X.w) k f j ps sp)(z:ke (k+1) X.A)(hb:Up X.K j ps ds)(hd:zd dvs ds)
  (I:Inv X b i H s) (r:zd vs us)
  (h:∀ x g,H x=none->H g=none->g≠x->sp (.ref x::(vs++dvs)) (upd (upd H g (.own x)) x (.ins C g [])) (λv o=>v=.Hb/\Q (.ref x) o) (XE X i)) :
  wpAny (model X.prog X.w) X.A (call (.ref C) us) (EP X b i Q) X.xe s:=by
 have m:=h (s.heap.objs.size+1) s.heap.objs.size (I.Pb.fresh (Ui _)) (I.Pb.fresh (ja _)) (ua (yb _));have d:=Inv.made (C:=C) I;have n:zd (V.ref (s.heap.objs.size+1)::(vs++dvs)) (kb (s.heap.objs.size+1)::(us++ds)):=.cons rfl (r.append hd);have y:(kb (s.heap.objs.size+1)::us++ds).length=ps.length:=by
  have e:=n.length;rw[F.len _ _ _ _ m]at e;exact e.symm
 refine Dx (PX (f:=f) I.Kj M.makes M.init (vf.mp M.fn) (qf (F.run _ X.stack _ _ ⟨kb (s.heap.objs.size+1)::us,[]⟩ (kb (s.heap.objs.size+1)::(us++ds)) _ _ (XE X i) (z.make C us [])
  (d.ZA.make C us []) (hb _ (kb (s.heap.objs.size+1)::us) d.Kj y) n m) λr G a=>?_))
 cases r with
 |error e=>obtain⟨cls,j,l,c,B⟩:=a;exact B.xB b _ _ e G d c
 |ok t=>
  cases t with
  |ret u=>
   obtain⟨v,l,p,E,q,D⟩:=d.after a;subst q;exact⟨E,⟨V.ref (s.heap.objs.size+1),l,p,rfl,D⟩⟩
  |next=>exact False.elim a
  |brk=>exact False.elim a
  |cont=>exact False.elim a
theorem pF{k c:Nat}{ps:List qa}{fn:List D->M D}{x:qa}{p pos:se}{e:Ea}{es:List Ea}{fs:Ev->M (List D)}(h:VY T X.prog X.w X.mg X.base k x c ps fn)(z:T.K=X.K)(J:ke (k+1) X.A)(E:Gl X x)
  (B:FA T X (e::es) fs) (i:(x == ("__debug__" : qa))=false:=by decide) (C:na (e::es) X.env=(false,Gb e X.env)::na es X.env:=by rfl) (j:(vc pos (na es X.env)).any (·.1)=false:=by rfl) :
  FE T X (.Call (.Name x p) (e::es) [] pos) (jr c ps.length fn fs):=by
 obtain⟨f,hm,g,U,hb,o⟩:=h;rw[z]at g o;intro b s t H Q I G;obtain⟨μ,R,σ,y,l,F⟩:=G;refine Sf (Yz I E hm ?_ i);refine Wl (h₀:=X.base) I.ok.mod.vw g.kp (Ad (B pos b s t H (λm a=>∀ x d,a x=none->a d=none->d≠x->Bo T ps.length fn (.ref x::(m++[])) (upd (upd a d (.own x)) x (.ins (T.ca c) d [])) (λv u=>v=.Hb/\Q (.ref x) u) (XE X t)) I ⟨μ,R,σ,y,l,F.bind λds S P m a _ e1 O L N=>pL O L N⟩) λus s1 ⟨m,a,n,r,q⟩=>⟨n.Kj,?_⟩) C j;exact QN (ds:=[]) (dvs:=[]) g o J (.all hb) .nil n r q
structure vH(T:Tb)(P:ra)(w:Ia)(mg:qa->Option Value)(base:Heap)(k:Nat)(m:qa)(c:Nat)(ps:List qa)(fn:List D->M D):Prop where
 cl:Bh T.K (T.ca c)
 ex:∃ f,md T.K (T.ca c) m f/\ye T P w mg base k f ps fn
noncomputable abbrev Mt:=List (Nat × (List D->M D))
noncomputable def Gu:Mt->Nat->Option (List D->M D)
 |[],_=>none
 |(c,fn)::r,d=>if c == d then some fn else Gu r d
noncomputable def Ak(n:Nat)(fn:List D->M D)(x:D)(ds:List D):M D:=if ds.length+1=n then fn (x::ds)else bad
noncomputable def An(tb:Mt)(n:Nat)(m:qa)(fs:M (List D))(x:D):M D:=λσ=>match Fm σ x with
 |some (c,a)=>(match Gu tb c,a.lookup m with
  |some fn,none=>Fc fs (Ak n fn x) σ
  |_,_=>.bad)
 |none=>.bad
noncomputable def Df(tb:Mt)(n:Nat)(m:qa)(f:Ev->M D)(fs:Ev->M (List D)):Ev->M D:=λa=>Fc (f a) (An tb n m (fs a))
theorem lH:∀ {tb:Mt} {c:Nat} {fn:List D->M D},Gu tb c=some fn->(c,fn)∈tb
 |[],_,_,h=>by cases h
 |(d,g)::r,c,fn,h=>by
  unfold Gu at h;by_cases e:(d == c)=true
  ·rw[da e]at h;cases h;rw[vf.mp e];exact Ba
  ·rw[ga e]at h;exact wa _ (lH h)
theorem Xm{pl:Io Bool}{k:Nat}{tb:Mt}{ps:List qa}{m:qa}{o e:Ea}{es:List Ea}{f:Ev->M D}{fs:Ev->M (List D)}{pos g:se}(hK:T.K=X.K)(he:FE T X o f)(h:∀ q∈tb,vH T X.prog X.w X.mg X.base k m q.1 ps q.2)(hr:ke k X.A)(ha:FA T X (e::es) fs)
  (P:na (e::es) X.env=(false,Gb e X.env)::na es X.env:=by rfl) (N:(vc pos (na es X.env)).any (·.1)=false:=by rfl)
  (ht:Gb (.Call (.Attribute o m g) (e::es) [] pos) X.env=(do
   let ov <-Gb o X.env
   ak g.atName
   let (f,first) <-Ce [ov] (Es ov m pl)
   callWith pos f first (vc pos (na (e::es) X.env)) (Nm pos (Rh [] X.env))):=by rfl) :
  FE T X (.Call (.Attribute o m g) (e::es) [] pos) (Df tb ps.length m f fs):=by
 intro i s C H Q I hq;obtain⟨μ,ρ,σ,hE,O,hp⟩:=hq;have G:=hE;refine Ry (pl:=pl) (Ad (he i s C H (λx l=>∃ a c B vs fn,x=.ref a/\l a=some (.ins (T.ca c) B vs)/\Gu tb c=some fn/\vs.lookup m=none/\tL T X fs C l λus E=>Bo T ps.length fn (x::(us++[])) E Q (XE X C)) I ⟨μ,ρ,σ,hE,O,hp.bind λd t S v l _ e1 r1 q1 b=>?_⟩) λu s1 ⟨x,l,Y,rx,a,c,B,vs,fn,ex,ea,j,n,q⟩=>?_) ht
 ·unfold An at b;cases F:Fm t d with
  |none=>rw[F]at b;exact b.elim
  |some z=>
   obtain⟨c,gs⟩:=z;rw[F]at b;dsimp only at b;cases j:Gu tb c with
   |none=>rw[j]at b;exact b.elim
   |some fn=>
    cases n:gs.lookup m with
    |some y=>rw[j,n]at b;exact b.elim
    |none=>
     rw[j,n]at b;dsimp only at b;obtain⟨a,B,vs,rfl,h1,h2⟩:=KC r1 q1 F;refine⟨a,c,B,vs,fn,rfl,h1,j,(Sz h2).2 n,S,ρ,t,G.mono e1,r1,b.bind λds V U us E _ e2 r2 R p=>?_⟩;unfold Ak at p;by_cases L:ds.length+1=ps.length
     ·rw[da L]at p;exact⟨U,V,d::ds,Ra.cons (Rep.mono e2 _ _ q1) (by rw[Qd];exact R),by rw[Ha];exact L,r2,p⟩
     ·rw[ga L]at p;exact p.elim
 ·subst ex;obtain rfl:u=kb a:=rx;obtain⟨hC,f',J,fd,hb,hF⟩:=h _ (lH j);rw[hK]at hC J hF;refine JK Y ea hC J n ?_;refine Wl (first:=[.ref a]) (h₀:=X.base) I.ok.mod.vw J.kp (Ad (ha pos i s1 C l _ Y q) λus s2 ⟨vs,E,Z,r,R⟩=>⟨Z.Kj,?_⟩) P N;exact gF (us:=.ref a::us) (vs:=.ref a::vs) hF hr (.all hb) .nil Z (.cons rfl r) R
theorem zm{pl:Io Bool}{k:Nat}{tb:Mt}{ps:List qa}{m:qa}{o:Ea}{f:Ev->M D}{pos e:se}(hK:T.K=X.K)(he:FE T X o f)(h:∀ q∈tb,vH T X.prog X.w X.mg X.base k m q.1 ps q.2)(hr:ke k X.A)
  (ht:Gb (.Call (.Attribute o m e) [] [] pos) X.env=(do
   let O <-Gb o X.env
   ak e.atName
   let (f,first) <-Ce [O] (Es O m pl)
   callWith pos f first (vc pos (na [] X.env)) (Nm pos (Rh [] X.env))):=by rfl) :
  FE T X (.Call (.Attribute o m e) [] [] pos) (Df tb ps.length m f Ab):=by
 intro p s J H Q I hq;obtain⟨μ,ρ,σ,Z,G,hp⟩:=hq;refine Ry (pl:=pl) (Ad (he p s J H (λx j=>∃ a c t vs fn,x=.ref a/\j a=some (.ins (T.ca c) t vs)/\Gu tb c=some fn/\vs.lookup m=none/\Bo T ps.length fn (x::([]++[])) j Q (XE X J)) I ⟨μ,ρ,σ,Z,G,hp.bind λd g r v j _ e1 R P b=>?_⟩) λu s1 ⟨x,j,B,rx,a,c,t,vs,fn,ex,S,i,l,q⟩=>?_) ht
 ·unfold An at b;cases C:Fm g d with
  |none=>rw[C]at b;exact b.elim
  |some z=>
   obtain⟨c,U⟩:=z;rw[C]at b;dsimp only at b;cases i:Gu tb c with
   |none=>rw[i]at b;exact b.elim
   |some fn=>
    cases l:U.lookup m with
    |some y=>rw[i,l]at b;exact b.elim
    |none=>
     rw[i,l]at b;dsimp only at b;obtain⟨a,t,vs,rfl,V,Y⟩:=KC R P C;have n:Cb T (XE X J) (Rep T) r j (Ak ps.length fn d [] g) Q:=b;unfold Ak at n;by_cases F:([]:List D).length+1=ps.length
     ·rw[da F]at n;exact⟨a,c,t,vs,fn,rfl,V,i,(Sz Y).2 l,r,g,[d],Ra.cons P Ra.nil,F,R,n⟩
     ·rw[ga F]at n;exact n.elim
 ·subst ex;obtain rfl:u=kb a:=rx;obtain⟨L,f',E,fd,hb,N⟩:=h _ (lH i);rw[hK]at L E N;refine JK B S L E l ?_;exact W.callWith_K0 (first:=[.ref a]) B.Kj E.kp (gF (us:=[.ref a]) (vs:=[.ref a]) N hr (.all hb) .nil B (.cons rfl .nil) q)
structure v5(T:Tb)(P:ra)(w:Ia)(mg:qa->Option Value)(base:Heap)(k:Nat)(x m:qa)(c:Nat)(ps:List qa)(fn:List D->M D):Prop where
 gl:mg x=some (.ref (T.ca c))
 sp:W.specialIn T.K (.ref (T.ca c)) (Vf "__getattribute__")=some (some (.builtin "type.__getattribute__"))
 ex:∃ f mc,W.readsIn T.K (T.ca c) mc=true/\W.findCls T.K (.ref (T.ca c)) mc m=some (.val (.ref f))/\W.keepIn T.K (.ref f)=true/\ye T P w mg base k f ps fn
end
structure Jc(K:W.Frag)(C:Addr)(x qual:qa)(st:Stmt)(ps:List qa)(f:Addr):Prop where
 ex:∃ fd,ox K x qual st f fd/\∀ us:List Value,us.length=ps.length->bindArgs fd ⟨us,[]⟩=pure (ps.zip us)
section
variable{P:ra}{w:Ia}{K:W.Frag}{mg:qa->Option Value}{base:Heap}{ca:Nat->Addr}{tx:Tx}
theorem Vj{k:Nat}{C f:Addr}{x qual:qa}{b:Stmt}{ps N:List qa}{g:Ev->M Fl}(h:Jc K C x qual b ps f)(S:Ka N ps (pd b))
  (hb:∀ (a:Value) (A:Ja) (outer:List Cg) (s:Shared) (H:Hp) (E:XK),ke k (A.deeper (Kg qual (pd b) s.heap.objs.size f a))->Qo ⟨K,ca,tx⟩ (Dp (Qk P w) P w K mg base N qual (pd b) f a A outer s H E) (Ei b) g) :
  ye ⟨K,ca,tx⟩ P w mg base (k+1) f ps (run N.length g):=by
 obtain⟨l,F,c⟩:=h.ex;obtain⟨m,n,kV,e,o,j,a,ct,i,rfl,lk,d⟩:=F.ex;exact⟨_,c,xA lk d S (hb a)⟩
theorem ye.rb{T:Tb}{k:Nat}{f:Addr}{ps:List qa}{fn:List D->M D}(h:ye T P w mg base k f ps fn):ye T P w mg base k f ps (λa=>L4.rb (fn a)):=by
 obtain⟨b,c,d⟩:=h;exact⟨b,c,dD d⟩
theorem ye.hide{T:Tb}{k:Nat}{f:Addr}{ps:List qa}{fn:List D->M D}(h:ye T P w mg base k f ps fn):ye T P w mg base k f ps (L4.hide fn):=by rw[Jk];exact h
end
noncomputable def Yd(s:Stmt)(j:Nat):Stmt:=match s with
 | .ClassDef _ _ _ b _ _ _ _ _ _ _=>b.getD j (.Pass ⟨0,0,0,0⟩)
 |s=>s
theorem Uj{K:W.Frag}{C f:Addr}{x qual:qa}{d:Stmt}{ps:List qa}{i:Value}{od e:Option Addr}{h:Array (Option Value)}{kV b g a ct:Value}
  (hb:∀ (kV b g:Value) (e:Option Addr) (a ct:Value) (us:List Value),us.length=ps.length->bindArgs (W.fnOf x qual (ml d) (Ei d) (pd d) .none kV b g e a ct) ⟨us,[]⟩=pure (ps.zip us))
  (l:K.lookup f=some ⟨i,od,.func (W.fnOf x qual (ml d) (Ei d) (pd d) .none kV b g e a ct),h⟩)
  (c:W.codeIn K a qual=true) (k:W.keepIn K (.ref f)=true):Jc K C x qual d ps f:=⟨⟨_,FL l c k,hb kV b g e a ct⟩⟩
section
variable{T:Tb}{P:ra}{w:Ia}{mg:qa->Option Value}{base:Heap}
noncomputable def Wj(T:Tb)(P:ra)(w:Ia)(mg:qa->Option Value)(base:Heap)(k:Nat)(m:qa)(ps:List qa)(tb:Mt):Prop:=∀ q∈tb,vH T P w mg base k m q.1 ps q.2
theorem ql{k:Nat}{m:qa}{ps:List qa}:Wj T P w mg base k m ps []:=λq h=>nomatch h
theorem il{j k:Nat}{m:qa}{ps:List qa}{tb:Mt}{c:Nat}{f:Addr}{fn:List D->M D}(g:Bh T.K (T.ca c))(i:md T.K (T.ca c) m f)(l:ye T P w mg base j f ps fn)(n:j<=k)(h:Wj T P w mg base k m ps tb):Wj T P w mg base k m ps ((c,fn)::tb):=λq d=>by
 rcases Ca.mp d with rfl|d
 ·obtain⟨e,a,b⟩:=l;exact⟨g,f,i,e,a,b.mono n⟩
 ·exact h q d
end
section
variable{T:Tb}{X:Cx}
end
end L4
namespace L4
open PySem L2
theorem nr{c:Type}{a b:c}(h:a=b):a=b:=h
section
variable{α β:Type}{ρ:Ev}{σ:db}
@[simp] theorem qc(a:α)(σ:db)(k:α->M β):(Out.ok a σ).bind k=k a σ:=nr rfl
@[simp] theorem h5(a:α)(σ:db):ret a σ=.ok a σ:=nr rfl
@[simp] theorem wm(m:M α)(k:α->M β)(σ:db):Fc m k σ=(m σ).bind k:=nr rfl
@[simp] theorem Zq(d:D):eC d ρ σ=.ok d σ:=nr rfl
@[simp] theorem yg(d:D)(r:Ev):ya 0 (some d::r) σ=.ok d σ:=nr rfl
@[simp] theorem ui(i:Nat)(o:Option D)(r:Ev):ya (i+1) (o::r) σ=ya i r σ:=nr rfl
@[simp] theorem ku(o:D->D->M D)(a b:Ev->M D):Xb o a b ρ σ=(a ρ σ).bind (SG o (b ρ)):=nr rfl
@[simp] theorem ww(o:D->D->M D)(m:M D)(x:D):SG o m x σ=(m σ).bind (o x):=nr rfl
@[simp] theorem vt(o:D->M D)(a:Ev->M D):Xd o a ρ σ=(a ρ σ).bind o:=nr rfl
@[simp] theorem lG(b:Bool):Iy (.bl b) σ=.ok b σ:=nr rfl
@[simp] theorem tM(p q:M α):Yi p q true σ=p σ:=nr rfl
@[simp] theorem yA(p q:M α):Yi p q false σ=q σ:=nr rfl
@[simp] theorem uW(c:Bool):HF c σ=.ok (!c) σ:=nr rfl
@[simp] theorem n5(k:Bool->M α)(b:Bool):Yv k (.bl b) σ=k b σ:=nr rfl
@[simp] theorem T5(c:Bool):QG c σ=.ok (.bl (!c)) σ:=nr rfl
@[simp] theorem sG(f:Ev->M D):eT f ρ σ=(f ρ σ).bind Iy:=nr rfl
@[simp] theorem J5(a b:Ev->M Bool):Wu a b ρ σ=(a ρ σ).bind (Yi (b ρ) (ret false)):=nr rfl
@[simp] theorem g6(a b:Ev->M Bool):Qx a b ρ σ=(a ρ σ).bind (Yi (ret true) (b ρ)):=nr rfl
@[simp] theorem YV(a:Ev->M Bool):br a ρ σ=(a ρ σ).bind HF:=nr rfl
@[simp] theorem AZ(a b:Ev->M D):km a b ρ σ=(a ρ σ).bind (Yv (Yi (b ρ) (ret (.bl false)))):=nr rfl
@[simp] theorem X4(a b:Ev->M D):qD a b ρ σ=(a ρ σ).bind (Yv (Yi (ret (.bl true)) (b ρ))):=nr rfl
@[simp] theorem r6(a:Ev->M D):DG a ρ σ=(a ρ σ).bind (Yv QG):=nr rfl
@[simp] theorem R0(t:Ev->M Bool)(a b:Ev->M D):wy t a b ρ σ=(t ρ σ).bind (Yi (a ρ) (b ρ)):=nr rfl
@[simp] theorem Ck:Ab ρ σ=.ok [] σ:=nr rfl
@[simp] theorem So(e:Ev->M D)(r:Ev->M (List D)):ib e r ρ σ=(e ρ σ).bind (jH (r ρ)):=nr rfl
@[simp] theorem ap(m:M (List D))(x:D):jH m x σ=(m σ).bind (BF x):=nr rfl
@[simp] theorem Oo(x:D)(xs:List D):BF x xs σ=.ok (x::xs) σ:=nr rfl
@[simp] theorem B2(a:Ev->M (List D)):qr a ρ σ=(a ρ σ).bind Bv:=nr rfl
@[simp] theorem B6:Bv [] σ=.ok (.tup []) σ:=nr rfl
@[simp] theorem K5(a:D):Bv [a] σ=.ok (.tup [a]) σ:=nr rfl
@[simp] theorem fX(a b:D):Bv [a,b] σ=.ok (.tup [a,b]) σ:=nr rfl
@[simp] theorem o5(a b c:D):Bv [a,b,c] σ=.ok (.tup [a,b,c]) σ:=nr rfl
@[simp] theorem D5(a b c d e:D):Bv [a,b,c,d,e] σ=.ok (.tup [a,b,c,d,e]) σ:=nr rfl
@[simp] theorem R5(a:Ev->M (List D)):fq a ρ σ=(a ρ σ).bind WA:=nr rfl
@[simp] theorem HE(a:Ev->M (List D)):tw a ρ σ=(a ρ σ).bind gA:=nr rfl
@[simp] theorem eE:gA [] σ=.ok (.ref σ.length) (σ++[.lst []]):=nr rfl
@[simp] theorem w6(g:Int->Int->Int)(i j:Int):oI g (.int i) (.int j) σ=.ok (.int (g i j)) σ:=nr rfl
@[simp] theorem Q4(g:Int->Int->Bool)(i j:Int):oB g (.int i) (.int j) σ=.ok (.bl (g i j)) σ:=nr rfl
theorem JF{C:Int->Int->Bool}{g:Int->Int->Int}{i j:Int}(h:C i j=true):ow C g (.int i) (.int j) σ=.ok (.int (g i j)) σ:=by
 show (if C i j=true then ret _ else bad) σ=_;rw[da h];rfl
@[simp] theorem GD(i j:Int)(h:0<j)(a:j<1073741824):gx (.int i) (.int j) σ=.ok (.int (i / j)) σ:=JF (by simp[UF,h,a])
@[simp] theorem bC(i j:Int)(h:0<j):Rt (.int i) (.int j) σ=.ok (.int (i % j)) σ:=JF (by simp[FF,h])
theorem DC{i j:Int}(h:cy i j=true):mz (.int i) (.int j) σ=.ok (.int (i ^ j.toNat)) σ:=JF h
@[simp] theorem YM:mz (.int 10) (.int 12) σ=.ok (.int 1000000000000) σ:=DC (by simp[cy])
@[simp] theorem p6:mz (.int 10) (.int 6) σ=.ok (.int 1000000) σ:=DC (by simp[cy])
@[simp] theorem p4:mz (.int 10) (.int 4) σ=.ok (.int 10000) σ:=DC (by simp[cy])
@[simp] theorem CM:mz (.int 10) (.int 40) σ=.ok (.int (10 ^ 40)) σ:=DC (by simp[cy])
@[simp] theorem OW(i j:Int):Yq (.int i) (.int j) σ=.ok (.int (i+j)) σ:=nr rfl
theorem MT{xs ys:List D}(h:xs.length+ys.length<=Ch):Yq (.lst xs) (.lst ys) σ=.ok (.lst (xs++ys)) σ:=by
 show jA (.lst xs) (.lst ys) σ=_;unfold jA;simp only[Dh];rw[da h]
@[simp] theorem BX(σ:db):Zr .Hb .Hb σ=.ok (.bl true) σ:=nr rfl
@[simp] theorem t6(b:Int):Zr (.int b) .Hb σ=.ok (.bl false) σ:=nr rfl
@[simp] theorem FV(b:List D):Zr (.lst b) .Hb σ=.ok (.bl false) σ:=nr rfl
@[simp] theorem xW(σ:db):mw .Hb .Hb σ=.ok (.bl false) σ:=nr rfl
@[simp] theorem d6(b:Int):mw (.int b) .Hb σ=.ok (.bl true) σ:=nr rfl
theorem NL{x y:D}{b:Bool}(h:Vp σ 8 x y=some b):oEq x y σ=.ok (.bl b) σ:=by unfold oEq;rw[h]
theorem rE{x y:D}{b:Bool}(h:Vp σ 8 x y=some b):iq x y σ=.ok (.bl (!b)) σ:=by unfold iq;rw[h]
@[simp] theorem k6(i j:Int):oEq (.int i) (.int j) σ=.ok (.bl (i == j)) σ:=NL (by simp[Vp,kd,Tu,um])
@[simp] theorem B5(i j:Int):iq (.int i) (.int j) σ=.ok (.bl (!(i == j))) σ:=rE (by simp[Vp,kd,Tu,um])
@[simp] theorem X5(i j:qa):oEq (.str i) (.str j) σ=.ok (.bl (i == j)) σ:=NL (by simp[Vp,kd,Tu,um])
@[simp] theorem u6(i j:Bool):iq (.bl i) (.bl j) σ=.ok (.bl (!(i == j))) σ:=rE (by simp[Vp,kd,Tu,um])
theorem wz{xs:List D}{k:Int}{d:D}(h:Yl xs k=some d):Oe (.tup xs) (.int k) σ=.ok d σ:=by simp[Oe,cm,h]
theorem iC{xs:List D}{k:Int}{d:D}(h:Yl xs k=some d):Oe (.lst xs) (.int k) σ=.ok d σ:=by simp[Oe,cm,h]
@[simp] theorem z5(a:D)(r:List D):Oe (.tup (a::r)) (.int 0) σ=.ok a σ:=wz (show Yl _ ((0:Nat):Int)=_ from Vv rfl)
@[simp] theorem d5(a b:D)(r:List D):Oe (.tup (a::b::r)) (.int 1) σ=.ok b σ:=wz (show Yl _ ((1:Nat):Int)=_ from Vv rfl)
@[simp] theorem E5(a b c:D)(r:List D):Oe (.tup (a::b::c::r)) (.int 2) σ=.ok c σ:=wz (show Yl _ ((2:Nat):Int)=_ from Vv rfl)
@[simp] theorem D6(a b c d:D)(r:List D):Oe (.tup (a::b::c::d::r)) (.int 3) σ=.ok d σ:=wz (show Yl _ ((3:Nat):Int)=_ from Vv rfl)
@[simp] theorem O4(xs:List D):Ao [.tup xs] σ=.ok (.int xs.length) σ:=nr rfl
@[simp] theorem OQ(xs:List D):Ao [.lst xs] σ=.ok (.int xs.length) σ:=nr rfl
@[simp] theorem Y4(xs:List Int):Ao [.Pi xs] σ=.ok (.int xs.length) σ:=by simp[Ao,cm]
@[simp] theorem jD(o:List D->M D)(fs:Ev->M (List D)):Tj o fs ρ σ=(fs ρ σ).bind o:=nr rfl
@[simp] theorem ay(n:Nat)(f:List D->M D)(dds:List D)(fs:Ev->M (List D)):bh n f dds fs ρ σ=(fs ρ σ).bind (ir n f dds):=nr rfl
@[simp] theorem UN(f:List D->M D)(a:D):ir 1 f [] [a] σ=f [a] σ:=by unfold ir;rw[da (by simp)];simp
@[simp] theorem oM(f:List D->M D)(a b:D):ir 2 f [] [a,b] σ=f [a,b] σ:=by unfold ir;rw[da (by simp)];simp
@[simp] theorem mM(f:List D->M D)(a b c:D):ir 3 f [] [a,b,c] σ=f [a,b,c] σ:=by unfold ir;rw[da (by simp)];simp
@[simp] theorem U4(f:List D->M D)(a b c:D):ir 3 f [c] [a,b] σ=f [a,b,c] σ:=by unfold ir;rw[da (by simp)];simp
@[simp] theorem N5(f:List D->M D)(a b c d:D):ir 4 f [] [a,b,c,d] σ=f [a,b,c,d] σ:=by unfold ir;rw[da (by simp)];simp
@[simp] theorem UH:ti ρ σ=.ok (.nx ρ) σ:=nr rfl
@[simp] theorem Ff(g h:Ev->M Fl):wc g h ρ σ=(g ρ σ).bind (VA h):=nr rfl
@[simp] theorem Cf(h:Ev->M Fl)(ρ:Ev):VA h (.nx ρ) σ=h ρ σ:=nr rfl
@[simp] theorem H5(h:Ev->M Fl)(d:D):VA h (.rt d) σ=.ok (.rt d) σ:=nr rfl
noncomputable def am(ρ:Ev)(k:α->M Fl):Out α->Out Fl
 | .ok a b=>k a b
 | .ex x b=>.ok (.xc ρ x) b
 | .bad=>.bad
@[simp] theorem Kn(ρ:Ev)(m:M α)(k:α->M Fl):xs ρ m k σ=am ρ k (m σ):=by unfold xs am;cases m σ<;>rfl
@[simp] theorem jf(ρ:Ev)(k:α->M Fl)(a:α):am ρ k (.ok a σ)=k a σ:=nr rfl
@[simp] theorem Vu(f:Ev->M D):cg f ρ σ=am ρ GG (f ρ σ):=Kn ..
@[simp] theorem Xv(d:D):GG d σ=.ok (.rt d) σ:=nr rfl
@[simp] theorem JB(f:Ev->M D):pp f ρ σ=am ρ (sF ρ) (f ρ σ):=Kn ..
@[simp] theorem ZC(d:D):sF ρ d σ=.ok (.nx ρ) σ:=nr rfl
@[simp] theorem yo(i:Nat)(f:Ev->M D):aj i f ρ σ=am ρ (kz i ρ) (f ρ σ):=Kn ..
@[simp] theorem jo(i:Nat)(d:D):kz i ρ d σ=.ok (.nx (ρ.set i (some d))) σ:=nr rfl
@[simp] theorem NA(t:Ev->M Bool)(a b:Ev->M Fl):Ih t a b ρ σ=am ρ (Yi (a ρ) (b ρ)) (t ρ σ):=Kn ..
@[simp] theorem Ip(n:Nat)(g:Ev->M Fl)(ds:List D):run n g ds σ=Ai (g (ds.map some++List.replicate (n - ds.length) none) σ):=nr rfl
@[simp] theorem cw(d:D):Ai (.ok (.rt d) σ)=.ok d σ:=nr rfl
@[simp] theorem Xz:Ai (.ok (.nx ρ) σ)=.ok .Hb σ:=nr rfl
@[simp] theorem yes(f:M D):rb f σ=Xf σ (f σ):=nr rfl
@[simp] theorem zy(f:Ev->M D):Zi f ρ σ=Xf σ (f ρ σ):=nr rfl
theorem MG{k m:Nat}{σ:db}{d:D}(h:cl d=true):fz k σ m d=some d:=by cases m<;>(unfold fz;rw[da h])
theorem QL{a:db}{d:D}(h:cl d=true)(b:a.take σ.length=σ):Xf σ (.ok d a)=.ok d σ:=by
 unfold Xf;dsimp only;rw[da b,MG h]
@[simp] theorem fG{d:D}(h:cl d=true):Xf σ (.ok d σ)=.ok d σ:=QL h xu
theorem WL{j j':db}{xs:List D}(h:Nh xs=true):Xf σ (.ok (.ref σ.length) (σ++[.lst xs]++j))=.ok (.lst xs) σ:=by
 unfold Xf;dsimp only;rw[da (by simp)];have e:fz σ.length (σ++[.lst xs]++j) 6 (.ref σ.length)=some (.lst xs):=by
  unfold fz;rw[ga (by simp[cl])];dsimp only;rw[ga (de _)];have:(σ++[Ob.lst xs]++j)[σ.length]?=some (.lst xs):=by simp
  rw[this];dsimp only;have c:∀ (ys:List D) (m:Nat),Nh ys=true->qo (fz σ.length (σ++[.lst xs]++j) m) ys=some ys:=by
   intro ys m;induction ys with
   |nil=>intro _;rfl
   |cons y ys d=>
    intro b;have a:cl y=true/\Nh ys=true:=by simpa [Nh,Ma]using b
    unfold qo;rw[MG a.1,d a.2]
  rw[c xs 5 h];rfl
 rw[e]
@[simp] theorem iY(i:Int):cl (.int i)=true:=by simp[cl]
@[simp] theorem R4(i:Bool):cl (.bl i)=true:=by simp[cl]
@[simp] theorem Y5(i:qa):cl (.str i)=true:=by simp[cl]
@[simp] theorem n6:cl .Hb=true:=by simp[cl]
@[simp] theorem W4(xs:List D):cl (.tup xs)=Nh xs:=by simp[cl]
@[simp] theorem v6(xs:List D):cl (.lst xs)=Nh xs:=by simp[cl]
@[simp] theorem S5(n:Nat):cl (.ref n)=false:=by simp[cl]
@[simp] theorem w5:Nh []=true:=by simp[Nh]
@[simp] theorem jV(d:D)(ds:List D):Nh (d::ds)=(cl d && Nh ds):=by simp[Nh]
theorem mF:∀ {ds:List D},(∀ d∈ds,cl d=true)->Nh ds=true
 |[],_=>by simp
 |d::ds,h=>by rw[jV,h d Ba,mF λx a=>h x (wa _ a)];rfl
theorem pS{a:Type}{f:a->D}{l:List a}(h:∀ x,cl (f x)=true):Nh (l.map f)=true:=mF λd hd=>by obtain⟨x,_,rfl⟩:=Dc.mp hd;exact h x
@[simp] theorem M5(l:List Int):Nh (l.map D.int)=true:=pS iY
theorem lP{xs:List D}{k:Int}(h0:0<=k)(h:k<xs.length):Yl xs k=some (xs.getD k.toNat .Hb):=by
 obtain⟨n,rfl⟩:=Int.eq_ofNat_of_zero_le h0;have hn:n<xs.length:=by omega
 refine Vv ?_;show xs[n]?=some (xs.getD n .Hb);rw[Dd,jb hn];rfl
theorem MM{a:List Int}{k:Int}(h0:0<=k)(h:k<a.length):Yl (a.map D.int) k=some (.int (a.getD k.toNat 0)):=by
 rw[lP h0 (by simpa using h)];have hn:k.toNat<a.length:=by omega
 simp[hn]
@[simp] theorem f6(a:D):WA [a] σ=.ok (.lst [a]) σ:=nr rfl
@[simp] theorem e6:WA [] σ=.ok (.lst []) σ:=nr rfl
@[simp] theorem Z4(a b:D):gA [a,b] σ=.ok (.ref σ.length) (σ++[.lst [a,b]]):=nr rfl
@[simp] theorem YB(xs:List D):Hi (σ++[.lst xs]) σ.length=some xs:=by simp[Hi]
@[simp] theorem LG(a b:Ob):(σ++[a]).set σ.length b=σ++[b]:=by
 rw[uq _ _ (ja _)];simp
@[simp] theorem j5(o:D->List D->M D)(f:Ev->M D)(fs:Ev->M (List D)):OG o f fs ρ σ=(f ρ σ).bind (Jy o (fs ρ)):=nr rfl
theorem vV{o:D->List D->M D}{m:M (List D)}{x:D}{xs:List D}(h:Dh σ x=some xs):Jy o m x σ=(m σ).bind (o x):=by unfold Jy;rw[h];rfl
@[simp] theorem j6(o:D->List D->M D)(m:M (List D))(xs:List D):Jy o m (.ref σ.length) (σ++[.lst xs])=(m (σ++[.lst xs])).bind (o (.ref σ.length)):=vV (xs:=xs) (by simp[Dh])
theorem LQ{xs:List D}{d:D}(h:xs.length<1000):fu (.ref σ.length) [d] (σ++[.lst xs])=.ok .Hb (σ++[.lst (xs++[d])]):=by
 unfold fu;simp only[YB];rw[da (show xs.length<Ch from h),LG]
theorem CO{neg:Bool}{w:Int}{x:D}{ws:List Int}(h:cm σ x=some (ws.map D.int)):bx neg (.int w) x σ=.ok (.bl (if neg then !(ws.any (·== w))else ws.any (·== w))) σ:=by
 have a:∀ l:List Int,(l.map D.int).all Au=true:=λl=>by simp[Au,sc]
 have b:∀ l:List Int,((l.map D.int).any λz=>Dv z (.int w))=l.any (·== w):=λl=>by simp[Dv,sc,um,List.any_map,J6]
 unfold bx;rw[h];simp only[a,b,show Au (.int w)=true from rfl,Bool.and_self,ee]
@[simp] theorem zR(xs:List D):cm σ (.lst xs)=some xs:=nr rfl
@[simp] theorem Sw(f:Ev->M D):Gi f ρ σ=(f ρ σ).bind ou:=nr rfl
@[simp] theorem W2(ds:List D):ou (.tup ds) σ=.ok (.seq ds) σ:=nr rfl
@[simp] theorem Nw(ds:List D):ou (.lst ds) σ=.ok (.seq ds) σ:=nr rfl
@[simp] theorem Ov(src:Ev->M Src)(tg:D->Ev->Option Ev)(body:Ev->M Fl):Cp src tg body ρ σ=am ρ (xD tg body ρ) (src ρ σ):=Kn ..
@[simp] theorem Hw(tg:D->Ev->Option Ev)(body:Ev->M Fl)(ds:List D):xD tg body ρ (.seq ds) σ=Uk tg body ds ρ σ:=nr rfl
@[simp] theorem vy(tg:D->Ev->Option Ev)(body:Ev->M Fl):Uk tg body [] ρ σ=.ok (.nx ρ) σ:=nr rfl
theorem J2{tg:D->Ev->Option Ev}{body:Ev->M Fl}{d:D}{ds:List D}{ρ1:Ev}(h:tg d ρ=some ρ1):Uk tg body (d::ds) ρ σ=(body ρ1 σ).bind (bu (Uk tg body ds)):=by
 show (match tg d ρ with|none=>bad|some ρ1=>Fc (body ρ1) (bu (Uk tg body ds))) σ=_;rw[h];rfl
@[simp] theorem cu(i:Nat)(body:Ev->M Fl)(d:D)(ds:List D):Uk (Ed i) body (d::ds) ρ σ=(body (ρ.set i (some d)) σ).bind (bu (Uk (Ed i) body ds)):=J2 rfl
@[simp] theorem vm(k:Ev->M Fl):bu k (.nx ρ) σ=k ρ σ:=nr rfl
theorem Rz{m:M α}{a:α}{σ':db}(h:m σ=.ok a σ'):Co m σ=.ok a σ':=by unfold Co;rw[h]
end
section
variable{α β:Type}{ρ:Ev}{σ:db}
@[simp] theorem SX(ns:List Int):cm σ (.Pi ns)=some (ns.map D.int):=nr rfl
theorem uO{ns:List Int}{k:Int}(h0:0<=k)(h:k<ns.length):Oe (.Pi ns) (.int k) σ=.ok (.int (ns.getD k.toNat 0)) σ:=by
 simp only[Oe,SX,MM h0 h]
@[simp] theorem Q5(c:BT)(i:Int):ar c (.int i) σ=.ok (.bl (match c with | .int=>true|_=>false)) σ:=nr rfl
@[simp] theorem l6(c:BT)(i:Bool):ar c (.bl i) σ=.ok (.bl (match c with | .int=>true | .bool=>true|_=>false)) σ:=nr rfl
@[simp] theorem W5(xs:List D):ar .tuple (.tup xs) σ=.ok (.bl true) σ:=nr rfl
@[simp] theorem E6(o d:D->D->M D)(a b c:Ev->M D):DE o d a b c ρ σ=(a ρ σ).bind (xG o d (b ρ) (c ρ)):=nr rfl
noncomputable def pl:Nat->D->Bool
 |_,.Hb=>true
 |_,.bl _=>true
 |_,.int _=>true
 |_,.str _=>true
 |n+1,.tup xs=>xs.all (pl n)
 |n+1,.lst xs=>xs.all (pl n)
 |_,_=>false
@[simp] theorem P5(f a fi:Ev->M D):kC f a fi ρ σ=am ρ (bF ρ a fi) (f ρ σ):=Kn ..
@[simp] theorem i5(o a:D->D->M D)(b c:M D)(x:D):xG o a b c x σ=(b σ).bind (mE o a c x):=nr rfl
@[simp] theorem z6(o a:D->D->M D)(c:M D)(x y:D):mE o a c x y σ=(o x y σ).bind (pG a c y):=nr rfl
@[simp] theorem V5(a:D->D->M D)(c:M D)(y:D)(b:Bool):pG a c y (.bl b) σ=Yi (Fc c (a y)) (ret (.bl false)) b σ:=nr rfl
@[simp] theorem i6(a fi:Ev->M D)(d:D):bF ρ a fi d σ=am ρ (yH ρ fi d) (a ρ σ):=Kn ..
@[simp] theorem V4(fi:Ev->M D)(d x:D):yH ρ fi d x σ=am ρ (Bw ρ d x) (fi ρ σ):=Kn ..
@[simp] theorem t5(d a:D)(r:List D):Bw ρ d (.ref σ.length) (.int 0) (σ++[.lst (a::r)])=.ok (.nx ρ) (σ++[.lst (d::r)]):=by
 have:Vx (.ref σ.length) (.int 0) d (σ++[.lst (a::r)])=.ok () (σ++[.lst (d::r)]):=by
  simp only[Vx,YB];rw[show Bq (a::r).length 0=some 0 by simp[Bq]];simp
 unfold Bw;rw[this]
@[simp] theorem T4(d a b:D)(r:List D):Bw ρ d (.ref σ.length) (.int 1) (σ++[.lst (a::b::r)])=.ok (.nx ρ) (σ++[.lst (a::d::r)]):=by
 have:Vx (.ref σ.length) (.int 1) d (σ++[.lst (a::b::r)])=.ok () (σ++[.lst (a::d::r)]):=by
  simp only[Vx,YB];rw[show Bq (a::b::r).length 1=some 1 by simp[Bq];omega];simp
 unfold Bw;rw[this]
@[simp] theorem aN(l:List Int):xt (l.map D.int)=some l:=by
 induction l with
 |nil=>rfl
 |cons x l a=>simp[xt,a]
theorem JQ{l:List Int}(h:l.length<=1000):Dy (.lst (l.map D.int)) σ=.ok (.int (Jj l).length) σ:=by
 simp only[Dy,Dh,rh,aN];rw[da (show l.length<=Ch from h)]
end
section
variable{ρ:Ev}{σ:db}
@[simp] theorem vE(c n:Nat)(fn:List D->M D)(fs:Ev->M (List D)):jr c n fn fs ρ σ=(fs ρ σ).bind (Fp c n fn):=nr rfl
theorem cE{c n:Nat}{fn:List D->M D}{ds:List D}(h:ds.length+1=n):Fp c n fn ds σ=Cv σ.length (fn (.ref σ.length::ds) (σ++[.ins c []])):=by unfold Fp;rw[da h]
@[simp] theorem jC(c:Nat)(fn:List D->M D)(a:D):Fp c 2 fn [a] σ=Cv σ.length (fn [.ref σ.length,a] (σ++[.ins c []])):=cE rfl
@[simp] theorem Nz(n:Nat):Cv n (.ok .Hb σ)=.ok (.ref n) σ:=nr rfl
@[simp] theorem Tv(cs:List Nat)(f:qa)(b a:Ev->M D):zi cs f b a ρ σ=am ρ (qE ρ cs f a) (b ρ σ):=Kn ..
@[simp] theorem Jv(cs:List Nat)(f:qa)(a:Ev->M D)(d:D):qE ρ cs f a d σ=am ρ (ft ρ cs f d) (a ρ σ):=Kn ..
theorem xL{cs:List Nat}{f:qa}{d:D}{c:Nat}{fs:List (qa × D)}(h:cs.contains c=true)(a:fs.length<1000):ft ρ cs f d (.ref σ.length) (σ++[.ins c fs])=.ok (.nx ρ) (σ++[.ins c (Ej f d fs)]):=by
 have e:Sx cs f d (.ref σ.length) (σ++[.ins c fs])=.ok () (σ++[.ins c (Ej f d fs)]):=by
  have:(σ++[Ob.ins c fs])[σ.length]?=some (.ins c fs):=by simp
  unfold Sx;simp only[this];rw[da (by rw[h];simpa using a)];simp
 unfold ft;rw[e]
theorem nF{c:Nat}{ns:List qa}{ds:List D}(h:ns.length=ds.length):Fm σ (.obj c ns ds)=some (c,ns.zip ds):=by unfold Fm;dsimp only;rw[da h]
theorem Rn{cs:List Nat}{f:qa}{x d:D}{c:Nat}{fs:List (qa × D)}(h:Fm σ x=some (c,fs))(a:cs.contains c=true)(b:fs.lookup f=some d):Tc cs f x σ=.ok d σ:=by
 unfold Tc;rw[h];dsimp only;rw[da a,b]
@[simp] theorem Xt(tb:Mt)(n:Nat)(m:qa)(f:Ev->M D)(fs:Ev->M (List D)):Df tb n m f fs ρ σ=(f ρ σ).bind (An tb n m (fs ρ)):=nr rfl
theorem MC{tb:Mt}{n:Nat}{m:qa}{fs:M (List D)}{x:D}{c:Nat}{a:List (qa × D)}{fn:List D->M D}(h:Fm σ x=some (c,a))(d:Gu tb c=some fn)(b:a.lookup m=none):An tb n m fs x σ=(fs σ).bind (Ak n fn x):=by
 unfold An;rw[h];dsimp only;rw[d,b];rfl
theorem Qz{n:Nat}{fn:List D->M D}{x:D}{ds:List D}(h:ds.length+1=n):Ak n fn x ds σ=fn (x::ds) σ:=by unfold Ak;rw[da h]
@[simp] theorem Yx(fn:List D->M D)(x:D):Ak 1 fn x [] σ=fn [x] σ:=Qz rfl
@[simp] theorem GB(fn:List D->M D)(x a:D):Ak 2 fn x [a] σ=fn [x,a] σ:=Qz rfl
@[simp] theorem Oq(fn:List D->M D)(x a b:D):Ak 3 fn x [a,b] σ=fn [x,a,b] σ:=Qz rfl
theorem QJ{c:Nat}{fs:List (qa × D)}(h:Nh (fs.map (·.2))=true):Xf σ (.ok (.ref σ.length) (σ++[.ins c fs]))=.ok (.obj c (fs.map (·.1)) (fs.map (·.2))) σ:=by
 unfold Xf;dsimp only;rw[da (by simp)];have e:fz σ.length (σ++[.ins c fs]) 6 (.ref σ.length)=some (.obj c (fs.map (·.1)) (fs.map (·.2))):=by
  unfold fz;rw[ga (by simp)];dsimp only;rw[ga (de _)];have:(σ++[Ob.ins c fs])[σ.length]?=some (.ins c fs):=by simp
  rw[this];dsimp only;have d:∀ (ys:List D) (m:Nat),Nh ys=true->qo (fz σ.length (σ++[.ins c fs]) m) ys=some ys:=by
   intro ys m;induction ys with
   |nil=>intro _;rfl
   |cons y ys f=>
    intro b;have a:cl y=true/\Nh ys=true:=by simpa [Nh,Ma]using b
    unfold qo;rw[MG a.1,f a.2]
  rw[d _ 5 h];rfl
 rw[e]
@[simp] theorem L5(i j:Int):nA [.int i,.int j] σ=.ok (.int (min i j)) σ:=nr rfl
@[simp] theorem Z5(c:BT):ar c .Hb σ=.ok (.bl false) σ:=by cases c<;>rfl
end
end L4
namespace L4
open PySem PySem.Spec PySem.Calls PyProof.Rows PySem.Builtin PySem.Builtin.ObjectAttr PySem.Builtin.Getset_descriptor L2
structure P4(K:W.Frag)(C:Addr):Prop where
 g:W.findIn K (.ref C) "__getattribute__" = some (some (.builtin "BaseException.__getattribute__"))
 g2:W.findIn K (.ref C) "__getattr__" = some none
 mb:W.mroIn K C (.type "BaseException")=some true
 d:W.hasDictIn K C=true
 a:W.findIn K (.ref C) "__class__" = some (some (.builtin "object.__class__"))
 n:W.specialIn K (.builtin "object.__class__") "__get__" = some (some (.builtin "getset_descriptor.__get__"))
 t:W.takesIn K (.builtin "object.__class__")=some true
 m:W.mroIn K C (.type "object")=some true
section
variable{prog:ra}{w:Ia}{A:Ja}{E:Value->Shared->Prop}{s:Shared}{K:W.Frag}{C ea:Addr}{hp:Heap}{Mo:Rj}
theorem QF.plain{dd:Option Addr}(p:QF C dd ea hp):tX C ea hp:=let ⟨o,a,b,_⟩:=p;⟨o,a,b⟩
end
section
variable{T:Tb}{X:Cx}
inductive Cu(X:Cx)(y:qa):V->Value->Prop where
 |own {a:Addr} (h:X.mg y=some (.ref a)):Cu X y (.ref a) (.ref a)
 |bt {n:String} (h:X.mg y=none) (hv:bootBuiltins y=some (.type n)) (hn:y ≠ "__name__"):Cu X y (.ty n) (.type n)
theorem Cu.rel{y:qa}{a:V}{cv:Value}(h:Cu X y a cv):∀ u,Zc a u->u=cv:=by
 cases h with
 |own h=>exact λu q=>q
 |bt h b hn=>exact λu q=>q
end
section
variable{ρ:Ev}{σ:db}
end
end L4
namespace L4
open PySem PySem.Spec PySem.Calls PyProof.Rows L2
section
variable{T:Tb}{X:Cx}
end
end L4
namespace HT
open PySem Builtin
open Sem (wp)
end HT
namespace L4
open PySem PySem.Spec PyProof.Rows L2
end L4
namespace HT
open PySem Builtin
open Sem (wp)
end HT
namespace L4
open PySem PySem.Spec PyProof.Rows L2
section
variable{T:Tb}{X:Cx}
end
end L4
namespace L2
open PySem PySem.Spec PyProof.Rows
section
variable{κ:Type}[DecidableEq κ]
noncomputable def Zm(kvs:List (κ × V))(k:κ):Option V:=(kvs.find? λa=>decide (a.1=k)).map (·.2)
noncomputable def wj(kvs:List (κ × V))(k:κ)(v:V):List (κ × V):=
 if (kvs.any λa=>decide (a.1=k))=true then kvs.map (λa=>if a.1=k then (a.1,v)else a)else kvs++[(k,v)]
noncomputable def wP(kvs:List (κ × V))(k:κ):List (κ × V):=kvs.filter λa=>decide (a.1≠k)
theorem pY{k:κ}:Zm ([]:List (κ × V)) k=none:=rfl
theorem Dz{p:κ × V}{r:List (κ × V)}{k:κ}(e:p.1=k):Zm (p::r) k=some p.2:=by simp[Zm,jd,e]
theorem zA{p:κ × V}{r:List (κ × V)}{k:κ}(e:¬ p.1=k):Zm (p::r) k=Zm r k:=by simp[Zm,jd,e]
theorem sP(k:κ):∀ kvs:List (κ × V),(kvs.any λa=>decide (a.1=k))=(Zm kvs k).isSome
 |[]=>rfl
 |p::r=>by
  rw[yd];by_cases e:p.1=k
  ·simp only[Dz e,Fg e,Sy,bj]
  ·rw[zA e,Pc e,qg];exact sP k r
theorem vC(kvs:List (κ × V))(k:κ)(v:V):(wj kvs k v).length<=kvs.length+1:=by
 unfold wj;split
 ·rw[Ta];omega
 ·rw[Ya,Ha,di];omega
theorem xo.fh{o:Option V}{u:Option Value}(r:xo o u):o.isSome=u.isSome:=by
 cases o with
 |none=>cases u with
  |none=>rfl
  |some _=>exact(show False from r).elim
 |some _=>cases u with
  |none=>exact(show False from r).elim
  |some _=>rfl
theorem xo.getD{o:Option V}{u:Option Value}{d:V}{d':Value}(r:xo o u)(rd:Zc d d'):Zc (o.getD d) (u.getD d'):=by
 cases o with
 |none=>cases u with
  |none=>exact rd
  |some _=>exact(show False from r).elim
 |some _=>cases u with
  |none=>exact(show False from r).elim
  |some _=>exact r
theorem KV.val{kvs:List (κ × V)}{vs:List (κ × Value)}(r:KV kvs vs)(k:κ):xo (Zm kvs k) (Om vs k):=by
 unfold KV at r;induction r with
 |nil=>exact True.intro
 |@cons p q i c h t g=>
  obtain⟨d,f⟩:=h;by_cases e:p.1=k
  ·have a:q.1=k:=d.symm.trans e;have b:Om (q::c) k=some q.2:=by simp[Om,jd,a]
   rw[Dz e,b];exact f
  ·have a:¬ q.1=k:=λz=>e (d.trans z);have b:Om (q::c) k=Om c k:=by simp[Om,jd,a]
   rw[zA e,b];exact g
theorem KV.any{kvs:List (κ × V)}{vs:List (κ × Value)}(r:KV kvs vs)(k:κ):(kvs.any λa=>decide (a.1=k))=vs.any λa=>decide (a.1=k):=by
 unfold KV at r;induction r with
 |nil=>rfl
 |cons h t b=>rw[yd,yd,b,h.1]
theorem KV.Ww{kvs:List (κ × V)}{vs:List (κ × Value)}(r:KV kvs vs)(k:κ){y:V}{u:Value}(f:Zc y u) :
  KV (kvs.map λa=>if a.1=k then (a.1,y)else a) (vs.map λa=>if a.1=k then (a.1,u)else a):=by
 unfold KV at r ⊢;induction r with
 |nil=>exact .nil
 |@cons p q g i h t d=>
  rw[za,za];refine .cons ?_ d;obtain⟨b,c⟩:=h;by_cases e:p.1=k
  ·rw[da e,da (b.symm.trans e)];exact⟨b,f⟩
  ·rw[ga e,ga (λz=>e (b.trans z))];exact⟨b,c⟩
theorem KV.put{kvs:List (κ × V)}{vs:List (κ × Value)}(r:KV kvs vs)(k:κ){y:V}{u:Value}(a:Zc y u):KV (wj kvs k y) (stored vs k u):=by
 unfold wj stored;rw[r.any k];by_cases e:(vs.any λb=>decide (b.1=k))=true
 ·rw[da e,da e];exact r.Ww k a
 ·rw[ga e,ga e];exact Paired.snoc r ⟨rfl,a⟩
theorem KV.drop{kvs:List (κ × V)}{vs:List (κ × Value)}(r:KV kvs vs)(k:κ):KV (wP kvs k) (without vs k):=by
 unfold KV at r ⊢;unfold wP without;induction r with
 |nil=>exact .nil
 |@cons p q i j h t d=>
  obtain⟨c,g⟩:=h;rw[Eh,Eh];by_cases e:p.1=k
  ·have a:¬ decide (p.1≠k)=true:=by simp[e]
   have b:¬ decide (q.1≠k)=true:=by simp[c.symm.trans e]
   rw[ga a,ga b];exact d
  ·have f:¬ q.1=k:=λz=>e (c.trans z);have a:decide (p.1≠k)=true:=by simp[e]
   have b:decide (q.1≠k)=true:=by simp[f]
   rw[da a,da b];exact .cons ⟨c,g⟩ d
theorem KV.keys{kvs:List (κ × V)}{vs:List (κ × Value)}(r:KV kvs vs):kvs.map (·.1)=vs.map (·.1):=by
 unfold KV at r;induction r with
 |nil=>rfl
 |cons h t a=>rw[za,za,a,h.1]
theorem KV.length{kvs:List (κ × V)}{vs:List (κ × Value)}(r:KV kvs vs):kvs.length=vs.length:=Paired.length r
end
theorem qy{P:ra}{w:Ia}{k:Key}{u:Value}(r:Zc (kV k) u):(Ik P w).is k u=true:=by
 cases k with
 |inl i=>obtain⟨t,e⟩:=(show ∃ t,u=Md i t from r);subst e;exact oR P w i t
 |inr x=>obtain⟨t,e⟩:=(show ∃ t,u=Hk x t from r);subst e;exact YR P w x t
theorem YH{P:ra}{w:Ia}:∀ {ks:List Key} {us:List Value},zd (ks.map kV) us->ItemsAre (Ik P w) ks us
 |[],_,r=>by rw[Vd]at r;cases r;exact .nil
 |k::ks,_,r=>by
  rw[za]at r;cases r with
  |cons h t=>exact .cons (qy h) (YH t)
noncomputable abbrev KT(H:Hp):List (List Key × V)->List (List Key × Addr × Value)->Prop:=Paired λp q=>p.1=q.1/\H q.2.1=some (.tup (p.1.map kV))/\Zc p.2 q.2.2
theorem KT.val{H:Hp}{kvs:List (List Key × V)}{xs:List (List Key × Addr × Value)}(r:KT H kvs xs)(k:List Key):xo (Zm kvs k) ((zq xs k).map (·.2)):=by
 induction r with
 |nil=>exact True.intro
 |@cons p q i c h t g=>
  obtain⟨d,_,f⟩:=h;by_cases e:p.1=k
  ·have a:q.1=k:=d.symm.trans e;have b:zq (q::c) k=some q.2:=by simp[zq,jd,a]
   rw[Dz e,b];exact f
  ·have a:¬ q.1=k:=λz=>e (d.trans z);have b:zq (q::c) k=zq c k:=by simp[zq,jd,a]
   rw[zA e,b];exact g
theorem KT.Ww{H:Hp}{kvs:List (List Key × V)}{xs:List (List Key × Addr × Value)}(r:KT H kvs xs)(k:List Key){y:V}{u:Value}(g:Zc y u) :
  KT H (kvs.map λb=>if b.1=k then (b.1,y)else b) (xs.map (putAt k u)):=by
 induction r with
 |nil=>exact .nil
 |@cons p q i j h t f=>
  rw[za,za];refine .cons ?_ f;obtain⟨a,c,d⟩:=h;unfold putAt;by_cases e:p.1=k
  ·rw[da e,da (a.symm.trans e)];exact⟨a,c,g⟩
  ·rw[ga e,ga (λz=>e (a.trans z))];exact⟨a,c,d⟩
theorem KT.put{H:Hp}{kvs:List (List Key × V)}{xs:List (List Key × Addr × Value)}(r:KT H kvs xs)(k:List Key){b:Addr}{y:V}{u:Value}(hb:H b=some (.tup (k.map kV)))(a:Zc y u) :
  KT H (wj kvs k y) (storedH xs k b u):=by
 have e:(kvs.any λc=>decide (c.1=k))=(zq xs k).isSome:=by
  rw[sP,(r.val k).fh,zj]
 unfold wj storedH;rw[e];by_cases q:(zq xs k).isSome=true
 ·rw[da q,da q];exact r.Ww k a
 ·rw[ga q,ga q];exact Paired.snoc r ⟨rfl,hb,a⟩
theorem KT.keeps{H a:Hp}{kvs:List (List Key × V)}{xs:List (List Key × Addr × Value)}(r:KT H kvs xs)(c:∀ b ys,H b=some (.tup ys)->a b=some (.tup ys)):KT a kvs xs:=
 Paired.nq r λ_ _ z=>⟨z.1,c _ _ z.2.1,z.2.2⟩
section
variable{P:ra}{w:Ia}{H:Hp}{h:Heap}{a:Addr}
theorem fJ{u:HO}(ok:Hh P w H h)(e:Rd H a u):Wh P w H h a u:=e.ok ok
theorem gr{kvs:List (Key × V)}(ok:Hh P w H h)(e:Rd H a (.dK kvs)):kvs.length<=sizeLine/\(a == df)=false/\∃ vs,KV kvs vs/\h.DictOf (Ik P w) a vs:=
 show Wh P w H h a (.dK kvs)from fJ ok e
theorem XG{kvs:List (Key × V)}(ok:Hh P w H h)(e:H a=some (.dK kvs)):kvs.length<=sizeLine/\(a == df)=false/\∃ vs,KV kvs vs/\h.DictOf (Ik P w) a vs:=gr ok (.inl e)
theorem XA{ks:List Key}(ok:Hh P w H h)(e:H a=some (.tup (ks.map kV))):(ao (Ik P w)).is h ks a:=by
 obtain⟨_,b,r,o,c,d,n,f⟩:=(show Wh P w H h a (.tup (ks.map kV))from ok a _ e)
 exact⟨o,b.toArray,n,c,d,f,by simpa using YH r⟩
theorem Bz{kvs:List (List Key × V)}(ok:Hh P w H h)(e:Rd H a (.dT kvs)):kvs.length<=sizeLine/\(a == df)=false/\
  ∃ xs,KT H kvs xs/\h.DictOfH (ao (Ik P w)) a xs:=by
 obtain⟨z,y,xs,r,o,f,d,g,i,j,k,n⟩:=(show Wh P w H h a (.dT kvs)from fJ ok e)
 refine⟨z,y,xs,r,o,f,d,g,i,j,k,λx b=>?_,n⟩;have all:∀ {l:List (List Key × V)} {m:List (List Key × Addr × Value)},KT H l m->∀ x∈m,(ao (Ik P w)).is h x.1 x.2.1:=by
  intro l m q;induction q with
  |nil=>intro x b;exact nomatch b
  |@cons p q u v c t s=>
   intro x b;rcases Ca.mp b with e|b
   ·subst e;exact XA ok (by rw[<-c.1];exact c.2.1)
   ·exact s x b
 exact all r x b
theorem kR{kvs:List (List Key × V)}(ok:Hh P w H h)(e:H a=some (.dT kvs)):kvs.length<=sizeLine/\(a == df)=false/\
  ∃ xs,KT H kvs xs/\h.DictOfH (ao (Ik P w)) a xs:=Bz ok (.inl e)
end
noncomputable def Zh(H:Hp)(a:Addr)(y:V)(r:Option V):Prop:=
 (∃ c k,Rd H a (.dK c)/\y=kV k/\r=Zm c k)\/∃ c k b,Rd H a (.dT c)/\y=.ref b/\H b=some (.tup (k.map kV))/\r=Zm c k
noncomputable def Zv(H:Hp)(a:Addr)(y v:V)(d:Hp):Prop:=
 (∃ c k,H a=some (.dK c)/\y=kV k/\c.length<sizeLine/\d=upd H a (.dK (wj c k v)))\/
 ∃ c k b,H a=some (.dT c)/\y=.ref b/\H b=some (.tup (k.map kV))/\c.length<sizeLine/\d=upd H a (.dT (wj c k v))
theorem Zh.k{H:Hp}{a:Addr}{kvs:List (Key × V)}{k:Key}(e:H a=some (.dK kvs)):Zh H a (kV k) (Zm kvs k):=.inl ⟨kvs,k,.inl e,rfl,rfl⟩
theorem Zh.t{H:Hp}{a b:Addr}{kvs:List (List Key × V)}{k:List Key}(e:H a=some (.dT kvs))(c:H b=some (.tup (k.map kV))):Zh H a (.ref b) (Zm kvs k):=.inr ⟨kvs,k,b,.inl e,rfl,c,rfl⟩
theorem Zv.k{H:Hp}{a:Addr}{kvs:List (Key × V)}{k:Key}{v:V}(e:H a=some (.dK kvs))(b:kvs.length<sizeLine):Zv H a (kV k) v (upd H a (.dK (wj kvs k v))):=.inl ⟨kvs,k,e,rfl,b,rfl⟩
theorem Zv.t{H:Hp}{a b:Addr}{kvs:List (List Key × V)}{k:List Key}{v:V}(e:H a=some (.dT kvs))(c:H b=some (.tup (k.map kV)))(d:kvs.length<sizeLine) :
  Zv H a (.ref b) v (upd H a (.dT (wj kvs k v))):=.inr ⟨kvs,k,b,e,rfl,c,d,rfl⟩
section
variable{X:Cx}{pins:List (Addr × Obj)}{σ:St}{H:Hp}{s:Shared}{a:Addr}{y v:V}{u r:Value}{o:Option V}{A:Ja}{E:Value->Shared->Prop}
theorem Inv.OC(I:Inv X pins σ H s):df<s.heap.objs.size:=by
 have h:mainGlobals<s.heap.objs.size:=(I.mod.glob.keeps I.bk).lt;exact Tf (by decide) h
theorem mY{Q:Value->Shared->Prop}(x:A.units+1<cLine)(I:Inv X pins σ H s)(g:Zh H a y (some v))(q:Zc y u)(h:∀ d s',Inv X pins σ H s'->Zc v d->Q d s') :
  wpAny (model X.prog X.w) A (Qh (.ref a) u) Q E s:=by
 rcases g with⟨n,k,e,i,l⟩|⟨n,k,b,e,i,r,l⟩
 ·subst i;obtain⟨z,hd,B,rel,f⟩:=gr I.Pb e;obtain⟨d,m,c⟩:=xo.some_of (v:=v) (o:=Om B k) (by rw[l];exact rel.val k);exact wpAny_getItem_of (qy q) f.mapOf m (h d _ (I.tok _) c)
 ·subst i;cases (show u=kb b from q);obtain⟨z,hd,xs,rel,f⟩:=Bz I.Pb e;obtain⟨d,m,c⟩:=xo.some_of (v:=v) (o:=(zq xs k).map (·.2)) (by rw[l];exact rel.val k);obtain⟨p,t,j⟩:=xb.mp m;refine wpAny_getItem_heap (yh x) (XA I.Pb r) f t ?_;rw[j];exact h d _ (I.tok _) c
theorem F2{Q:Value->Shared->Prop}(m:A.units+1<cLine)(I:Inv X pins σ H s)(g:Zh H a y o)(i:Zc y u)(h:∀ s',Inv X pins σ H s'->Q (.bool o.isSome) s') :
  wpAny (model X.prog X.w) A (Rb .In u (.ref a)) Q E s:=by
 rcases g with⟨f,k,e,d,l⟩|⟨f,k,b,e,d,j,l⟩
 ·subst d;obtain⟨z,hd,n,rel,c⟩:=gr I.Pb e;refine wpAny_in_of (qy i) hd c.mapOf ?_;rw[<-(rel.val k).fh,<-l];exact h _ (I.tok _)
 ·subst d;cases (show u=kb b from i);obtain⟨z,hd,xs,rel,c⟩:=Bz I.Pb e;refine wpAny_in_heap (yh m) (XA I.Pb j) hd c ?_;have q:=(rel.val k).fh;rw[zj]at q;rw[<-q,<-l];exact h _ (I.tok _)
theorem jU{Q:Value->Shared->Prop}(m:A.units+1<cLine)(I:Inv X pins σ H s)(g:Zh H a y o)(i:Zc y u)(h:∀ s',Inv X pins σ H s'->Q (.bool (!o.isSome)) s') :
  wpAny (model X.prog X.w) A (Rb .NotIn u (.ref a)) Q E s:=by
 rcases g with⟨f,k,e,d,l⟩|⟨f,k,b,e,d,j,l⟩
 ·subst d;obtain⟨z,hd,n,rel,c⟩:=gr I.Pb e;refine wpAny_notIn_of (qy i) hd c.mapOf ?_;rw[<-(rel.val k).fh,<-l];exact h _ (I.tok _)
 ·subst d;cases (show u=kb b from i);obtain⟨z,hd,xs,rel,c⟩:=Bz I.Pb e;refine wpAny_notIn_heap (yh m) (XA I.Pb j) hd c ?_;have q:=(rel.val k).fh;rw[zj]at q;rw[<-q,<-l];exact h _ (I.tok _)
theorem BC{h':Heap}{t':Nat}{ob:HO}(I:Inv X pins σ H s)(f:tz (H a))(hs:Oc a s.heap h')(d:∃ q,h'.get? a=some q)(c:Wh X.prog X.w (upd H a ob) h' a ob) :
  Inv X pins σ (upd H a ob) { s with heap:=h',toks:=t' }:=
 I.write (x:=a) (e:=a) f (.inl rfl) (λb q hb z=>(hs.2 b hb).trans z) d c
theorem AB{P:ra}{w:Ia}{b:Hp}{h':Heap}{kvs:List (Key × V)}{vs:List (Key × Value)}(z:kvs.length<=sizeLine)(hd:(a == df)=false)(rel:KV kvs vs)(dd:h'.DictOf (Ik P w) a vs) :
  Wh P w b h' a (.dK kvs):=⟨z,hd,vs,rel,dd⟩
theorem O0{t:Hp}{Q:Unit->Shared->Prop}(P:A.units+1<cLine)(I:Inv X pins σ H s)(g:Zv H a y v t)(F:Zc y u)(D:Zc v r)(h:∀ s',Inv X pins σ t s'->Q () s') :
  wpAny (model X.prog X.w) A (Qp (.ref a) u r) Q E s:=by
 rcases g with⟨d,k,e,n,l,m⟩|⟨d,k,b,e,n,x,l,m⟩
 ·subst n m;obtain⟨z,hd,R,rel,j⟩:=XG I.Pb e;have p:R.length<=sizeLine:=by rw[<-rel.length];exact z
  have o:(wj d k v).length<=sizeLine:=by have:=vC d k v;omega
  refine wpAny_setItem_pairs (hsz:=p) (qy F) j λC f hs=>h _ ?_;have O:∃ q,C.get? a=some q:=let ⟨q,_,_,i,_⟩:=f;⟨q,i⟩;exact BC I (by rw[e];exact True.intro) hs O (AB o hd (rel.put k D) f)
 ·subst n m;cases (show u=kb b from F);obtain⟨z,hd,xs,rel,j⟩:=kR I.Pb e;have p:xs.length<=sizeLine:=by rw[<-Paired.length rel];exact z
  have o:(wj d k v).length<=sizeLine:=by have:=vC d k v;omega
  refine wpAny_setItem_heap (hsz:=p) (yh P) (XA I.Pb x) j λC f hs=>h _ ?_;obtain⟨q,J,G,i,K,L,M,_,N⟩:=f;refine BC I (by rw[e];exact True.intro) hs ⟨q,i⟩ ⟨o,hd,_,(rel.put k x D).keeps λc S B=>?_,q,J,G,i,K,L,M,N⟩;rw[we (TF B e (λz=>nomatch z))];exact B
end
section
variable{X:Cx}{pins:List (Addr × Obj)}{σ:St}{H:Hp}{s:Shared}{a:Addr}{kvs:List (Key × V)}{k:Key}{u:Value}{A:Ja}{E:Value->Shared->Prop}
end
noncomputable def IE(i:Ea):Prop:=∀ b a,Lo i false b a=G4 [b,a] (Qh b a)
theorem r4{prog:ra}{w:Ia}{A:Ja}{E:Value->Shared->Prop}{s:Shared}{env:Cg}{b a:Ea}{pos:se}{T m:String}{Q:Value->Shared->Prop}
  (l:typeLookup (.type T) "__getitem__" = pure (some (.builtin m))) (hs:IE a)
  (h:wpAny (model prog w) A (Gb b env) (λo d=>wpAny (model prog w) A (Gb a env) (λi s₂=>s₂.TypeIs o T/\wpAny (model prog w) A (Qh o i) Q E s₂) E d) E s) :
  wpAny (model prog w) A (Gb (.Subscript b a pos) env) Q E s:=by
 refine Ax (Uc h (λo d g=>Uc g (λi s₂ c=>?_) λ_ _ x=>x) λ_ _ x=>x);obtain⟨k,c⟩:=c;unfold Lr;refine aa ?_;rw[getitemInPython_of_ne k.not_modules];refine aa (SD k l ?_);have f:wpAny (model prog w) A (Lo a false o i) (λr e=>wpAny (model prog w) A (letTemporaryGo b o r >>= λ_=>pure r) Q E e) E s₂:=by
  rw[hs o i];exact wpAny_operating (Uc c (λr e j=>aa (wpAny_letTemporaryGo (ia j))) λ_ _ x=>x)
 first
  |exact ia (aa f)
  |exact aa (ia (aa f))
  |exact aa f
theorem K0{X:Cx}{c:List (Addr × Obj)}{σ:St}{H:Hp}{s:Shared}{a:Addr}{y:V}{o:Option V}(I:Inv X c σ H s)(g:Zh H a y o):s.TypeIs (.ref a) "dict":=by
 rcases g with⟨f,k,e,_,_⟩|⟨f,k,b,e,_,_,_⟩
 ·obtain⟨_,_,h,_,d⟩:=gr I.Pb e;exact d.typeIs
 ·obtain⟨_,_,xs,_,d⟩:=Bz I.Pb e;exact d.typeIs
noncomputable def AQ(e ty:TE):TE:=λc H Q=>e c H λx d=>ty c d λy b=>∃ a v,x=.ref a/\Zh b a y (some v)/\Q v b
section
variable{X:Cx}{o i e value:Ea}{pos pos' tpos:se}{td ty tv:TE}
theorem MY(n:X.A.units+1<cLine)(m:PE X o td)(l:PE X i ty)(hs:IE i):PE X (.Subscript o i pos) (AQ td ty):=by
 intro b s e H Q I h;refine r4 PySem.F.slot_dict_getitem.lookup hs (Ad (m b s e H _ I h) λu s1 ⟨x,H1,j,r,p⟩=>Ad (l b s1 e H1 _ j p) λw s2 ⟨y,f,d,t,a,v,ex,g,q⟩=>?_);subst ex;obtain rfl:u=kb a:=r;exact⟨K0 d g,mY n d g t λB z k c=>⟨v,f,k,c,q⟩⟩
end
theorem iK{P:ra}{w:Ia}{H:Hp}(h:Heap)(hb:df<h.objs.size):Wh P w H (h.push { cls:=.type "dict",data:=.dict #[] }) h.objs.size (.dK []):=
 ⟨Si _,kc.mpr (Fe (ua hb)),[],.nil,EH h⟩
theorem GY{P:ra}{w:Ia}{H:Hp}(h:Heap)(hb:df<h.objs.size):Wh P w H (h.push { cls:=.type "dict",data:=.dict #[] }) h.objs.size (.dT []):=
 ⟨Si _,kc.mpr (Fe (ua hb)),[],.nil,_,#[],0,Aa _ rfl,⟨rfl,rfl,rfl⟩,rfl,rfl,dn⟩
noncomputable def qU:TE:=λ_ H Q=>∀ p,H p=none->Q (.ref p) (upd H p (.dK []))
noncomputable def bS:TE:=λ_ H Q=>∀ p,H p=none->Q (.ref p) (upd H p (.dT []))
section
variable{X:Cx}{pos:se}
theorem rL:PE X (.Dict [] [] pos) qU:=λb s c H Q I h=>
 iB ⟨.ref s.heap.objs.size,_,I.laid (a:=s.heap.objs.size) (o:=.dK []) (t':=s.toks) (λ_ _ q=>ba _ q) (ja _) (iK s.heap I.OC),rfl,h _ (I.Pb.fresh (ja _))⟩
theorem mR:PE X (.Dict [] [] pos) bS:=λb s c H Q I h=>
 iB ⟨.ref s.heap.objs.size,_,I.laid (a:=s.heap.objs.size) (o:=.dT []) (t':=s.toks) (λ_ _ q=>ba _ q) (ja _) (GY s.heap I.OC),rfl,h _ (I.Pb.fresh (ja _))⟩
end
section
variable{X:Cx}{pins:List (Addr × Obj)}{σ:St}{H:Hp}{s:Shared}{a:Addr}{kvs:List (Key × V)}{A:Ja}{E:Value->Shared->Prop}
theorem r0{Q:Value->Shared->Prop}(I:Inv X pins σ H s)(e:Rd H a (.dK kvs))(h:∀ p s',H p=none->Inv X pins σ (upd H p (.dK kvs)) s'->Q (.ref p) s'):wpAny (model X.prog X.w) A (call (.type "dict") [.ref a]) Q E s:=by
 obtain⟨z,hd,i,rel,f⟩:=gr I.Pb e;refine kt_call_dict hd f (by rw[<-rel.length];exact z) λg c hs=>?_;refine h _ _ (I.Pb.fresh (ja _)) (I.laid (a:=s.heap.objs.size) (o:=.dK kvs) (t':=s.toks) (λb q d=>?_) (ja _) (AB z (kc.mpr (Fe (ua I.OC))) rel c));exact(hs.2 b (ua (pa d))).trans (ba _ d)
end
end L2
namespace L4
open PySem PySem.Spec PyProof.Rows L2
noncomputable def qm:D->Option Key
 | .int i=>some (.inl i)
 | .str x=>some (.inr x)
 |_=>none
noncomputable def qh(σ:db):D->Option (List (Key × D))
 | .va b xs=>if b.length=xs.length then some (b.zip xs)else none
 | .ref n=>(match σ[n]? with
  |some (.va a)=>some a
  |some (.lb a)=>some a
  |_=>none)
 |_=>none
noncomputable def ni(kvs:List (Key × D))(k:Key):Option D:=(kvs.find? λa=>decide (a.1=k)).map (·.2)
noncomputable def Rg(kvs:List (Key × D))(k:Key)(d:D):List (Key × D):=
 if kvs.any (λa=>decide (a.1=k))then kvs.map λa=>if a.1=k then (a.1,d)else a else kvs++[(k,d)]
section
variable{T:Tb}{X:Cx}{μ:List Addr}{H:Hp}
theorem Gz{y:D}{v:V}{k:Key}(h:Rep T μ H y v)(e:qm y=some k):v=kV k:=by
 cases y<;>simp[qm]at e<;>subst e<;>rw[Rep]at h<;>exact h
theorem OA:∀ {ks:List Key} {ds:List D} {kvs:List (Key × V)},kvs.map (·.1)=ks->Ra T μ H ds (kvs.map (·.2))->yf T μ H (ks.zip ds) kvs
 |ks,[],kvs,b,a=>by
  rw[Ra]at a;have:kvs=[]:=by simpa using a
  subst this;rw[<-b];exact .nil
 |ks,d::ds,kvs,b,a=>by
  rw[Ra]at a;obtain⟨v,r,e,c,f⟩:=a;cases kvs with
  |nil=>cases e
  |cons p kvs=>
   rw[za]at e b;cases e;rw[<-b];exact .cons ⟨rfl,c⟩ (OA rfl f)
theorem Rv{σ:db}(r:Rel T μ H σ){x:D}{v:V}{kvs:List (Key × D)}(h:Rep T μ H x v)(e:qh σ x=some kvs):∃ a vs,v=.ref a/\Rd H a (.dK vs)/\yf T μ H kvs vs:=by
 cases x with
 |va i xs=>
  rw[Rep]at h;obtain⟨a,vs,rfl,_,b,c,f⟩:=h;unfold qh at e;dsimp only at e;split at e
  ·cases e;exact⟨a,vs,rfl,b,OA c f⟩
  ·cases e
 |ref n=>
  unfold qh at e;dsimp only at e;cases q:σ[n]? with
  |none=>rw[q]at e;cases e
  |some o=>
   rw[q]at e;cases o with
   |va d=>
    cases e;obtain⟨a,rfl,_,vs,b,c⟩:=r.at h q;exact⟨a,vs,rfl,.inl b,c⟩
   |lb d=>
    cases e;obtain⟨a,rfl,_,g,vs,b,c⟩:=r.at h q;exact⟨a,vs,rfl,.inr ⟨g,b⟩,c⟩
   |_=>cases e
 |_=>cases e
theorem SF{kvs:List (Key × D)}{vs:List (Key × V)}(h:yf T μ H kvs vs)(k:Key):(ni kvs k=none/\Zm vs k=none)\/∃ d v,ni kvs k=some d/\Zm vs k=some v/\Rep T μ H d v:=by
 unfold yf at h;induction h with
 |nil=>exact .inl ⟨rfl,rfl⟩
 |@cons p q c j h t i=>
  obtain⟨b,g⟩:=h;by_cases e:p.1=k
  ·have a:q.1=k:=b.symm.trans e;exact .inr ⟨p.2,q.2,by unfold ni;rw[jd,Fg e];rfl,Dz a,g⟩
  ·have a:¬ q.1=k:=λz=>e (b.trans z);have f:ni (p::c) k=ni c k:=by unfold ni;rw[jd,Pc e]
   rw[f,zA a];exact i
theorem fR{kvs:List (Key × D)}{vs:List (Key × V)}(h:yf T μ H kvs vs)(k:Key):(kvs.any λa=>decide (a.1=k))=(vs.any λa=>decide (a.1=k)):=by
 unfold yf at h;induction h with
 |nil=>rfl
 |@cons p q c d h t b=>rw[yd,yd,b,h.1]
theorem FJ{d e:Type}{F:d->e->Prop}{f:d->d}{g:e->e}(c:∀ a b,F a b->F (f a) (g b)):∀ {l:List d} {m:List e},Paired F l m->Paired F (l.map f) (m.map g)
 |_,_,.nil=>.nil
 |_,_,.cons h t=>.cons (c _ _ h) (FJ c t)
theorem BP{d e:Type}{F:d->e->Prop}{a:d}{b:e}(c:F a b):∀ {l:List d} {m:List e},Paired F l m->Paired F (l++[a]) (m++[b])
 |_,_,.nil=>.cons c .nil
 |_,_,.cons h t=>.cons h (BP c t)
theorem RJ{kvs:List (Key × D)}{vs:List (Key × V)}(h:yf T μ H kvs vs)(k:Key){d:D}{v:V}(hd:Rep T μ H d v):yf T μ H (Rg kvs k d) (wj vs k v):=by
 unfold Rg wj;rw[fR h k];split
 ·refine FJ (λp q h=>?_) h;by_cases e:p.1=k
  ·rw[da e,da (h.1.symm.trans e)];exact⟨h.1,hd⟩
  ·rw[ga e,ga (λz=>e (h.1.trans z))];exact h
 ·exact BP ⟨rfl,hd⟩ h
theorem yf.mono{μ':List Addr}{a:Hp}(e:Ext μ H μ' a){kvs:List (Key × D)}{vs:List (Key × V)}(h:yf T μ H kvs vs):yf T μ' a kvs vs:=Paired.nq h λ_ _ z=>⟨z.1,Rep.mono e _ _ z.2⟩
theorem _root_.L2.Zh.kr{H:Hp}{a:Addr}{kvs:List (Key × V)}{k:Key}(e:Rd H a (.dK kvs)):Zh H a (kV k) (Zm kvs k):=.inl ⟨kvs,k,e,rfl,rfl⟩
noncomputable def Nj(x y:D):M D:=λb=>match qm y with
 |some k=>(match qh b x with
  |some a=>(match ni a k with
   |some d=>.ok d b
   |none=>.bad)
  |none=>.bad)
 |none=>.bad
theorem Tt{o i:Ea}{n fi:Ev->M D}{pos:se}(Z:X.A.units+9<cLine)(E:FE T X o n)(C:FE T X i fi)(hs:IE i):FE T X (.Subscript o i pos) (Xb Nj n fi):=by
 intro c s P H Q I h;refine MY (by omega) E C hs c s P H Q I ?_;obtain⟨μ,r,V,p,G,F⟩:=h;refine⟨μ,r,V,p,G,F.bind λx l j v W _ e1 O L K=>⟨j,r,l,p.mono e1,O,K.bind λy m U u Y _ t q N b=>?_⟩⟩;unfold Nj at b;cases f:qm y with
 |none=>rw[f]at b;exact b.elim
 |some k=>
  rw[f]at b;dsimp only at b;cases e:qh m x with
  |none=>rw[e]at b;exact b.elim
  |some J=>
   rw[e]at b;dsimp only at b;obtain⟨a,vs,rfl,z,B⟩:=Rv q (Rep.mono t _ _ L) e;obtain rfl:=Gz N f;rcases SF B k with⟨g,_⟩|⟨d,w,g,R,S⟩
   ·rw[g]at b;exact b.elim
   ·rw[g]at b;exact⟨a,w,rfl,by rw[<-R];exact Zh.kr z,Cb.here b q S⟩
noncomputable def kE:R2:=λy x H Q=>∃ a o,x=.ref a/\Zh H a y o/\Q (.bl o.isSome) H
theorem vN(f:X.A.units+9<cLine):Oh X (Rb .In) kE:=by
 intro b s k H y x i u Q I e d h;obtain⟨a,o,rfl,g,q⟩:=h;obtain rfl:u=kb a:=d;exact F2 (by omega) I g e λj c=>⟨.bl o.isSome,H,c,rfl,q⟩
noncomputable def uy(y x:D):M D:=λb=>match qm y with
 |some k=>(match qh b x with
  |some a=>.ok (.bl (ni a k).isSome) b
  |none=>.bad)
 |none=>.bad
theorem L1:gk T kE uy:=by
 intro E μ H m y x u v Q r q p h;unfold uy at h;cases c:qm y with
 |none=>rw[c]at h;exact h.elim
 |some k=>
  rw[c]at h;dsimp only at h;cases b:qh m x with
  |none=>rw[b]at h;exact h.elim
  |some j=>
   rw[b]at h;obtain⟨a,l,rfl,g,i⟩:=Rv r p b;obtain rfl:=Gz q c;refine⟨a,Zm l k,rfl,Zh.kr g,Cb.here h r ?_⟩;rw[Rep];rcases SF i k with⟨e,f⟩|⟨d,w,e,f,n⟩
   ·rw[e,f];rfl
   ·rw[e,f];rfl
noncomputable def sQ:oD:=λx y v H Q=>∃ a b,x=.ref a/\Zv H a y v b/\Q b
theorem PK(l:X.A.units+9<cLine):yF X sQ:=by
 intro b s p H o i v e m u Q I j f k h;obtain⟨a,c,rfl,g,q⟩:=h;obtain rfl:e=kb a:=j;exact O0 (by omega) I g f k λn d=>⟨c,d,q⟩
noncomputable def Wp(ρ:Ev)(d x:D)(y:D):M Fl:=λb=>match x with
 | .ref n=>(match qm y with
  |some k=>(match b[n]? with
   |some (.va a)=>if a.length<Ch then .ok (.nx ρ) (b.set n (.va (Rg a k d)))else .bad
   |_=>.bad)
  |none=>.bad)
 |_=>.bad
noncomputable def dF(ρ:Ev)(fi:Ev->M D)(d x:D):M Fl:=xs ρ (fi ρ) (Wp ρ d x)
noncomputable def zG(ρ:Ev)(a fi:Ev->M D)(d:D):M Fl:=xs ρ (a ρ) (dF ρ fi d)
noncomputable def Gp(f b fi:Ev->M D):Ev->M Fl:=λa=>xs a (f a) (zG a b fi)
theorem Mq{e o i:Ea}{f P fi:Ev->M D}{pos b:se}(hu:X.A.units+9<cLine)(W:FE T X e f)(Z:FE T X o P)(Y:FE T X i fi)
  (V:∀ v,ah (.Subscript o i b) X.env v=(do
   let q <-Ce [v] (Gb o X.env);let B <-Ce [v,q] (Gb i X.env)
   ak b
   Ce [v,q,B] (Qp q B v)
   bz [v,q,B] []):=by intro _;rfl)
  (hs:Zk [.Subscript o i b] e pos.line X.env=pure false:=by rfl) (hw:al [.Subscript o i b] e X.env=pure none:=by rfl)
  (U:(Td [.Subscript o i b] X.env).map (·.2)=[ah (.Subscript o i b) X.env]:=by rfl):FS T X (.Assign [.Subscript o i b] e pos) (Gp f P fi):=by
 intro l s S H D I hq;refine KG W (dH Z Y (PK hu) V) hs hw U l s S H D I ?_;obtain⟨μ,J,σ,g,hr,hp⟩:=hq;refine⟨μ,J,σ,g,hr,hp.xs g λd K F v H1 _ e1 r1 q1 p1=>?_⟩;refine⟨F,J,K,g.mono e1,r1,p1.xs (g.mono e1) λx L G vo H2 _ p r2 q2 p2=>?_⟩;refine⟨G,J,L,(g.mono e1).mono p,r2,p2.xs ((g.mono e1).mono p) λy N m vi O _ r R q3 c=>?_⟩;have hd:=Rep.mono r _ _ (Rep.mono p _ _ q1);have hx:=Rep.mono r _ _ q2;unfold Wp at c;cases x with
 |ref n=>
  dsimp only at c;cases t:qm y with
  |none=>rw[t]at c;exact c.elim
  |some k=>
   rw[t]at c;dsimp only at c;cases u:N[n]? with
   |none=>rw[u]at c;exact c.elim
   |some ob=>
    rw[u]at c;cases ob with
    |va h=>
     dsimp only at c;by_cases w:h.length<Ch
     ·rw[da w]at c;obtain⟨a,rfl,hn,C,Q,g2⟩:=R.at hx u;obtain rfl:=Gz q3 t;have E:=R.write (o:=.dK (wj C k v)) (ob:=.va (Rg h k d)) hn ⟨_,fg,by
       have ex:Ext m O m (upd O a (.dK (wj C k v))):=Pr (Ga hn) Q (λ_ z=>by cases z) (λ_ _ z=>by cases z);exact RJ (yf.mono ex g2) k (Rep.mono ex _ _ hd)⟩
      have j:C.length=h.length:=by unfold yf at g2;exact(Paired.length g2).symm
      exact⟨a,_,rfl,Zv.k Q (by rw[j];exact Da w (by decide)),c _ (.nx S) _ E.1 E.2 (((g.mono e1).mono p).mono r |>.mono E.1)⟩
     ·rw[ga w]at c;exact c.elim
    |_=>exact c.elim
 |_=>exact c.elim
noncomputable def Xo:Ev->M D:=λ_ a=>.ok (.ref a.length) (a++[.va []])
theorem Zs{pos:se}:FE T X (.Dict [] [] pos) Xo:=by
 intro a s d H Q I h;obtain⟨μ,f,g,e,b,c⟩:=h;refine rL a s d H Q I λp hn=>?_;exact c (μ++[p]) (.ref p) _ (Lu hn) (b.push hn ⟨[],fg,.nil⟩) (MA b)
theorem KI{pos:se}:FE T X (.Dict [] [] pos) (eC (.va [] [])):=by
 intro a s e H Q I h;obtain⟨μ,g,i,f,b,d⟩:=h;refine rL a s e H Q I λp hn=>?_;exact d μ (.ref p) _ (Lj hn) (b.fresh hn) (by rw[Rep];exact⟨p,[],rfl,λhm=>(by obtain⟨u,c,_⟩:=b.mem hm;rw[hn]at c;cases c),(.inl fg),rfl,Ra.nil⟩)
noncomputable def kI:List V->Hp->VK->Prop:=λxs H Q=>∃ a b,xs=[.ref a]/\Rd H a (.dK b)/\∀ p,H p=none->Q (.ref p) (upd H p (.dK b))
theorem eK:Zl X (.type "dict") kI:=by
 intro b s i H xs j Q I r h;obtain⟨a,d,rfl,e,q⟩:=h;obtain⟨u,rfl,f⟩:=Yr r;cases f;exact r0 I e λp g hn c=>⟨.ref p,_,c,rfl,q p hn⟩
noncomputable def Nu(ds:List D):M D:=λb=>match ds with
 |[x]=>(match qh b x with
  |some a=>.ok (.va (a.map (·.1)) (a.map (·.2))) b
  |none=>.bad)
 |_=>.bad
theorem zM:∀ {kvs:List (Key × D)} {vs:List (Key × V)},yf T μ H kvs vs->vs.map (·.1)=kvs.map (·.1)/\Ra T μ H (kvs.map (·.2)) (vs.map (·.2))
 |_,_,.nil=>⟨rfl,Ra.nil⟩
 |_,_,.cons h t=>by
  obtain⟨a,b⟩:=zM t;exact⟨by rw[za,za,a,h.1],Ra.cons h.2 b⟩
theorem bJ:tr T kI Nu:=by
 intro E μ H o f s Q r p h
 match f with
 |[]=>exact h.elim
 |[x]=>
  unfold Nu at h;dsimp only at h;cases b:qh o x with
  |none=>rw[b]at h;exact h.elim
  |some j=>
   rw[b]at h;rw[Ra]at p;obtain⟨v,q,rfl,k,d⟩:=p;rw[Ra]at d;subst d;obtain⟨a,e,rfl,g,i⟩:=Rv r k b;refine⟨a,e,rfl,g,λl hn=>?_⟩;obtain⟨m,n⟩:=zM i;exact h μ (.ref l) _ (Lj hn) (r.fresh hn) (by rw[Rep];exact⟨l,e,rfl,λhm=>(by obtain⟨u,c,_⟩:=r.mem hm;rw[hn]at c;cases c),(.inl fg),m,Ra.mono (Lj hn) _ _ n⟩)
 |_::_::_=>exact h.elim
end
section
variable{T:Tb}{X:Cx}
structure InK(K:W.Frag)(C:Addr):Prop where
 cl:L2.Bh K C
 a:W.findIn K (.ref C) "__class__" = some (some (.builtin "object.__class__"))
 n:W.specialIn K (.builtin "object.__class__") "__get__" = some (some (.builtin "getset_descriptor.__get__"))
 t:W.takesIn K (.builtin "object.__class__")=some true
 m:W.mroIn K C (.type "object")=some true
end
section
variable{T:Tb}{X:Cx}
inductive kA(X:Cx):List (Option Ea)->List Ea->List (qa × qa)->Prop
 |nil:kA X [] [] []
 |cons {k v:Ea} {x y:qa} {ks:List (Option Ea)} {vs:List Ea} {l:List (qa × qa)}:PE X k (tC (.str x))->PE X v (tC (.str y))->kA X ks vs l->kA X (some k::ks) (v::vs) ((x,y)::l)
theorem kA.all{ks vs l}(h:kA X ks vs l):ks.all (·.isSome)=true/\ks.length=vs.length/\ks.length=l.length:=by
 induction h with
 |nil=>exact⟨rfl,rfl,rfl⟩
 |cons _ _ _ a=>exact⟨by simpa using a.1,by simpa using a.2.1,by simpa using a.2.2⟩
theorem Pk{kvs:List (Key × V)}{k:Key}{v:V}(h:k ∉ kvs.map (·.1)):wj kvs k v=kvs++[(k,v)]:=by
 unfold wj;rw[ga];intro z;rw[kg]at z;obtain⟨x,a,e⟩:=z;exact h (Dc.mpr ⟨x,a,of_decide_eq_true e⟩)
end
section
variable{T:Tb}{X:Cx}{e:Ea}{f:Ev->M D}{pos:se}
end
end L4
namespace L4
open PySem PySem.Spec PySem.Calls PyProof.Rows L2
section
variable{T:Tb}{X:Cx}
end
end L4
namespace L4
open PySem PySem.Spec PyProof.Rows L2
noncomputable def yz(o:D->List D->M D)(m:M (List D))(x:D):M D:=λa=>match qh a x with
 |some _=>Fc m (o x) a
 |none=>.bad
noncomputable def Px(o:D->List D->M D)(f:Ev->M D)(fs:Ev->M (List D)):Ev->M D:=λa=>Fc (f a) (yz o (fs a))
section
variable{T:Tb}{X:Cx}{o e:Ea}{es:List Ea}{f:Ev->M D}{fs:Ev->M (List D)}{name:qa}{apos cpos:se}{id:String}{r:V->List V->Hp->VK->Prop}{g:D->List D->M D}
theorem gN{p:Addr}{kvs:List (Key × V)}{b:List (Addr × Obj)}{σ:St}{H:Hp}{s:Shared}(I:Inv X b σ H s)(d:Rd H p (.dK kvs)):s.TypeIs (.ref p) "dict"/\∀ a,kb p=.ref a->∃ ob,s.heap.get? a=some ob/\ob.dict=none:=by
 obtain⟨_,_,_,_,o,_,_,e,ex,_⟩:=gr I.Pb d;refine⟨⟨o,e,ex.1⟩,λa c=>?_⟩;cases c;exact⟨o,e,ex.2.1⟩
noncomputable def PZ(r:V->List V->Hp->VK->Prop)(to:TE):TE:=λd H Q=>to d H λx c=>(∃ a b,x=.ref a/\Rd c a (.dK b))/\r x [] c Q
noncomputable def AT(r:V->List V->Hp->VK->Prop)(to:TE)(t:TA):TE:=λd H Q=>to d H λx c=>(∃ a b,x=.ref a/\Rd c a (.dK b))/\t d c λxs e=>r x xs e Q
theorem RF{to:TE}(n:Xl "dict")(slot:NH "dict" name id)(e:Hx (.builtin id)=pure (.type "method_descriptor"))(hm:Tr X id r)(l:PE X o to)
  (c:Yc o name X.env (Gb o X.env)=Gb o X.env:=by rfl) (d:(apos.endLine == cpos.line)=true:=by rfl):PE X (.Call (.Attribute o name apos) [] [] cpos) (PZ r to):=by
 intro b s g H Q I h;refine wpAny_Call_method0_late c d (Ad (l b s g H _ I h) λv s1 ⟨x,H1,f,q,ty,p⟩=>?_);obtain⟨a,m,rfl,k⟩:=ty;cases q;obtain⟨i,j⟩:=gN f k;exact⟨"dict",id,n,slot,e,i,j,Kh rfl (PySem.evalArgs_none (hm b s1 g H1 (.ref a) [] (.ref a) [] Q f rfl .nil p))⟩
theorem AR{to:TE}{t:TA}(A:Xl "dict")(slot:NH "dict" name id)(i:Hx (.builtin id)=pure (.type "method_descriptor"))(hm:Tr X id r)(y:PE X o to)(u:PA X (e::es) t)
  (d:Yc o name X.env (Gb o X.env)=Gb o X.env:=by rfl)
  (g:((vc cpos (na (e::es) X.env)).all (λx=>!x.1) && (Nm cpos (Rh [] X.env)).all (λx=>x.1.isSome)
   && decide ((e::es).length+([]:List Wi).length+(if ([]:List Wi).isEmpty then 0 else 1)<30))=true:=by rfl)
  (f:(apos.endLine == cpos.line)=true:=by rfl) (hs:na (e::es) X.env=(false,Gb e X.env)::na es X.env:=by rfl) (c:(vc cpos (na es X.env)).any (·.1)=false:=by rfl) :
  PE X (.Call (.Attribute o name apos) (e::es) [] cpos) (AT r to t):=by
 intro b s j H Q I h;refine Ft d g f rfl (Ad (y b s j H _ I h) λv s1 ⟨x,H1,k,D,ty,B⟩=>?_);obtain⟨a,z,rfl,w⟩:=ty;cases D;obtain⟨p,q⟩:=gN k w;refine⟨"dict",id,A,slot,i,p,q,?_⟩;have l:=u cpos b s1 j H1 _ k B;rw[hs]at l ⊢;refine Kh (by show (false || (vc cpos (na es X.env)).any (·.1))=false;rw[c]<;>rfl) (Ci ?_);exact Ad l λus s2 ⟨F,m,n,E,C⟩=>hm b s2 j m (.ref a) F (.ref a) us Q n rfl E C
theorem AS(M:Xl "dict")(slot:NH "dict" name id)(p:Hx (.builtin id)=pure (.type "method_descriptor"))(hm:Tr X id r)(hs:qA T r g)(G:FE T X o f)(F:FA T X (e::es) fs)
  (c:Yc o name X.env (Gb o X.env)=Gb o X.env:=by rfl)
  (i:((vc cpos (na (e::es) X.env)).all (λx=>!x.1) && (Nm cpos (Rh [] X.env)).all (λx=>x.1.isSome)
   && decide ((e::es).length+([]:List Wi).length+(if ([]:List Wi).isEmpty then 0 else 1)<30))=true:=by rfl)
  (d:(apos.endLine == cpos.line)=true:=by rfl) (n:na (e::es) X.env=(false,Gb e X.env)::na es X.env:=by rfl) (b:(vc cpos (na es X.env)).any (·.1)=false:=by rfl) :
  FE T X (.Call (.Attribute o name apos) (e::es) [] cpos) (Px g f fs):=by
 intro j s P H Q I h;refine AR M slot p hm G F c i d n b j s P H Q I ?_;obtain⟨U,A,V,w,K,J⟩:=h;refine⟨U,A,V,w,K,J.bind λx l q v W _ e1 z y k=>?_⟩;unfold yz at k;cases m:qh l x with
 |none=>rw[m]at k;exact k.elim
 |some xs=>
  rw[m]at k;obtain⟨a,R,rfl,E,Y⟩:=Rv z y m;refine⟨⟨a,R,rfl,E⟩,q,A,l,w.mono e1,z,k.bind λC u t S B _ D O L N=>?_⟩;exact hs _ t B u x C (.ref a) S Q O (Rep.mono D _ _ y) L N
end
open Classical in
section
variable{T:Tb}{X:Cx}
end
section
variable{T:Tb}{X:Cx}
end
section
variable{T:Tb}{X:Cx}{tg iter:Ea}{f:Ev->M D}
end
section
variable{T:Tb}{X:Cx}{o e:Ea}{es:List Ea}{f:Ev->M D}{fs:Ev->M (List D)}{name:qa}{apos cpos:se}{id:String}{r:V->List V->Hp->VK->Prop}{g:D->List D->M D}
end
noncomputable def Mz:Ev->M D:=λ_ _=>.bad
noncomputable def Sr:Ev->M Fl:=λ_ _=>.bad
theorem HD{T:Tb}{X:Cx}{e:Ea}:FE T X e Mz:=λpins s st H Q I ⟨b,c,σ,_,_,a⟩=>a.elim
theorem IZ{T:Tb}{X:Cx}{e:Stmt}:FS T X e Sr:=λpins s st H D I ⟨b,c,σ,_,_,a⟩=>a.elim
section
variable{X:Cx}{pins:List (Addr × Obj)}{σ:St}{H:Hp}{s:Shared}{h':Heap}
theorem sA{H:Hp}{a b:Addr}{u:HO}(e:H b=some u)(n:H a=none):b≠a:=λz=>by rw[z,n]at e;cases e
theorem _root_.L2.Inv.Fv{t':Nat}{its:List Addr}{p:Addr}{o:HO}(I:Inv X pins σ H s)(k:∀ b u,b ∉ its->s.heap.get? b=some u->h'.get? b=some u)(f:∀ b∈its,dr X pins H b)(h:s.heap.objs.size<=p)(g:Wh X.prog X.w (upd H p o) h' p o) :
  Inv X pins σ (upd H p o) { s with heap:=h',toks:=t' }:=by
 have hn:H p=none:=I.Pb.fresh h;have d:∀ b u,H b=some u->b ∉ its:=λb u e z=>by rw[(f b z).1]at e;cases e
 refine I.step (g':=s.gens) (d':=s.drawn) (ch:=its) (λb hb=>?_) (λb o _ _ a e _=>k b o a e) (λb o _ _ a e _=>⟨o.slots,k b o a e⟩) (λb u _ q n=>by rw[we (ua (Da (pa q) h))];exact n)
  (λb o a e=>⟨o,k b o a e⟩) (λb xs q=>by rw[we (sA q hn)];exact q) (λb u xs q=>by rw[we (sA q hn)];exact q) (λb D q=>⟨#[],by rw[we (sA q hn),q];simp⟩) (λm hm=>?_) (λb u e=>?_) I.bare
 ·obtain⟨B,l,C,t,x,y⟩:=f b hb;exact⟨t,l,x,y⟩
 ·obtain⟨o,j,i,A,r⟩:=hm;exact⟨o,j,i,k _ o (λz=>(f _ z).2.1 rfl) A,r⟩
 ·by_cases hb:b=p
  ·subst hb;rw[fg]at e;cases e;exact g
  ·rw[we hb]at e;refine(I.Pb b u e).Ql (λc v a q=>k c v ?_ q) (λc q=>by rw[we (sA q hn)];exact q) λc xs q=>by rw[we (sA q hn)];exact q
   rcases a with z|z
   ·rw[z];exact d b u e
   ·exact d c _ z
theorem _root_.L2.Inv.Lv{t':Nat}{its:List Addr}(I:Inv X pins σ H s)(k:∀ b u,b ∉ its->s.heap.get? b=some u->h'.get? b=some u)(f:∀ b∈its,dr X pins H b):Inv X pins σ H { s with heap:=h',toks:=t' }:=by
 have d:∀ b u,H b=some u->b ∉ its:=λb u e z=>by rw[(f b z).1]at e;cases e
 refine I.step (g':=s.gens) (d':=s.drawn) (ch:=its) (λb hb=>?_) (λb o _ _ a e _=>k b o a e) (λb o _ _ a e _=>⟨o.slots,k b o a e⟩) (λb u _ q n=>n)
  (λb o a e=>⟨o,k b o a e⟩) (λb xs q=>q) (λb u xs q=>q) (λb y q=>⟨#[],by rw[q];simp⟩) (λm hm=>?_) (λb u e=>?_) I.bare
 ·obtain⟨w,i,x,j,l,p⟩:=f b hb;exact⟨j,i,l,p⟩
 ·obtain⟨o,h,g,t,r⟩:=hm;exact⟨o,h,g,k _ o (λz=>(f _ z).2.1 rfl) t,r⟩
 ·refine(I.Pb b u e).Ql (λc v a q=>k c v ?_ q) (λ_ q=>q) λ_ _ q=>q;rcases a with z|z
  ·rw[z];exact d b u e
  ·exact d c _ z
end
theorem MF{h:Heap}{a b:Addr}{o i:Obj}{n g:String}(e:h.get? a=some o)(f:h.get? b=some i)(c:o.cls=.type n)(d:i.cls=.type g)(hn:n≠g):a≠b:=λz=>by
 subst z;rw[e]at f;cases f;rw[c]at d;injection d with q;exact hn q
noncomputable def ML(K:W.Frag)(l:Addr):It:=
 ⟨λi H=>∃ xs x,zf K H l xs/\xs[i]?=some x,λi H v a=>∃ p x,H p=none/\v=.ref p/\(∀ xs,zf K H l xs->xs[i]?=some x)/\a=upd H p (.tup [.int i,x]),λi H=>∃ xs,zf K H l xs/\i=xs.length⟩
theorem dW{P:ra}{w:Ia}{K:PySem.W.Frag}{n:List Ea}{kk:Nat}{pos:se}(l e it:Addr):Turn P w K (.Tuple n kk pos) (ML K l) [e,it] e (λi h=>(∃ a,IsEnum h e it i a)/\h.IsListIter it l i) where
 mem:=by simp
 obj:=λi h m b hb=>by
  obtain⟨⟨a,f⟩,o,j,c,d⟩:=m;simp only[Ca,qe,Wk]at hb;rcases hb with rfl|rfl
  ·exact⟨_,f,λv z=>by cases z⟩
  ·exact⟨o,j,λv z=>by rw[d]at z;cases z⟩
 keep:=λi h L m k=>by
  obtain⟨⟨a,f⟩,j⟩:=m;exact⟨⟨a,k e (by simp) _ f⟩,j.at λo q=>k it (by simp) o q⟩
 item:=by
  intro X S Z R V i G s σ H E I M m Y;subst S Z R;obtain⟨xs,x,N,hx⟩:=Y;obtain⟨g,rv,p,hz⟩:=I.list N;obtain⟨u,hu,ru⟩:=rv.get hx;obtain⟨⟨a,f⟩,j⟩:=m;obtain⟨oa,ea,ca,_⟩:=id p.isList;obtain⟨ob,J,cb,_⟩:=id j;have a1:l≠e:=MF ea f ca rfl (by decide);have a2:l≠it:=MF ea J ca cb (by decide);have a0:e≠it:=MF f J rfl cb (by decide);have W:=WalksT.enumerate (prog:=X.prog) (w:=X.w) (A:=X.A) (I.ok.hd V) e it l a0 a1 a2 g.toArray;have hi:i<g.toArray.size:=by
   have:=(ka.mp hu).1;simpa using this
  refine W.item i s _ E hi ⟨⟨a,f⟩,j,p.isList⟩ λT a3 L tk U hT C r hk=>?_;obtain⟨t,y,O,rfl⟩:=U;have ey:y=u:=by
   have:g.toArray[i]?=some u:=by simpa using hu
   rw[this]at O;cases O;rfl
  subst ey;refine⟨.ref T,rfl,W.go n kk pos i T { s with heap:=L,toks:=tk } _ E r λh2 hS F=>?_⟩;have D:=W.apart i T L r;have B:h2.IsTuple T #[.int i t,y]:=by
   obtain⟨o,e1,c1⟩:=C;exact⟨o,F T o D e1,c1⟩
  have hn:H T=none:=I.Pb.fresh hT;refine⟨.ref T,upd H T (.tup [.int i,x]),I.Fv (o:=.tup [.int i,x]) (λb o hb q=>F b o hb (hk b o hb q)) M hT ?_,rfl,⟨T,x,hn,rfl,λys O=>by rw[I.lp O N];exact hx,rfl⟩,⟨hS.1,hS.2.1⟩,λb hb=>?_⟩
  ·exact⟨(show (2:Nat)<=sizeLine by decide),[.int i t,y],.cons ⟨t,rfl⟩ (.cons ru .nil),B⟩
  ·rw[we (λz=>D (by rw[<-z];exact hb))];exact(M b hb).1
 done:=by
  intro X S Z R V i G s σ H E I M m Y;subst S Z R;obtain⟨xs,N,hx⟩:=Y;obtain⟨g,rv,p,hz⟩:=I.list N;obtain⟨⟨a,f⟩,j⟩:=m;have hl:=rv.length;exact wpAny_pyNext_enum_end (I.ok.hd V) f j p.isList (by simp;omega) λL J=>⟨rfl,I.Lv (t':=s.toks) (λb o hb q=>J b o (λz=>hb (by simp[z])) q) M⟩
 self:=λA i s Q E m h=>by
  obtain⟨⟨a,f⟩,j⟩:=m;exact Uy f h
noncomputable abbrev NX:=Nat->db->Option (Option D)
noncomputable def uo(T:Tb)(c:List Addr)(f:Hp)(nx:NX)(J:It):Prop:=∀ a H e i,Ext c f a H->Rel T a H e->match nx i e with
 |none=>True
 |some none=>J.stop i H
 |some (some d)=>J.go i H/\∀ x b,J.ny i H x b->Ext a H a b/\Rel T a b e/\Rep T a b d x
noncomputable def u0(T:Tb)(X:Cx)(f:Ev->M NX):TI:=λb H R=>∃ a c d,eh T a H c b/\Rel T a H d/\Cb T (XE X b) (uo T) a H (f c d) R
noncomputable abbrev Bu(T:Tb)(X:Cx)(tg a:Ea)(f:Ev->M NX):Prop:=PI X tg a (u0 T X f)
noncomputable def Xj(nx:NX)(tg:D->Ev->Option Ev)(body:Ev->M Fl):Nat->Nat->Ev->M Fl
 |0,_,_=>bad
 |k+1,i,c=>λb=>match nx i b with
  |none=>.bad
  |some none=>.ok (.nx c) b
  |some (some d)=>match tg d c with
   |none=>.bad
   |some a=>Fc (body a) (bu (Xj nx tg body k (i+1))) b
noncomputable def zB(tg:D->Ev->Option Ev)(body:Ev->M Fl)(ρ:Ev)(nx:NX):M Fl:=Xj nx tg body 1001 0 ρ
noncomputable def io(src:Ev->M NX)(tg:D->Ev->Option Ev)(body:Ev->M Fl):Ev->M Fl:=λa=>xs a (src a) (zB tg body a)
section
variable{T:Tb}{X:Cx}{tgt iter:Ea}{body:List Stmt}{src:Ev->M NX}{t:D->Ev->Option Ev}{g:Ev->M Fl}{pos:se}
theorem gu(O:Ds (model X.prog X.w) X.A X.env X.xe)(hc:X.calm=true)(hi:Bu T X tgt iter src)(hg:FG T X tgt t)(hb:Qo T X body g)
  (hs:∀ x,vg iter X.env x=pure x:=by intro _;rfl):FS T X (.For tgt iter body [] pos) (io src t g):=by
 intro v s st H D I hq;refine xO O hc hi hg hb hs v s st H D I ?_;obtain⟨b,e,q,K,hr,O⟩:=hq;refine⟨b,e,q,K,hr,O.xs K λnx C c J F _ e1 r1 q1 p1=>?_⟩;have Q:Cb T EN (Vm T) c F (Xj nx t g 1001 0 e C) (Nl X D):=p1;refine⟨λi m l r=>∃ b e q,Ext c F b r/\eh T b r e l/\Rel T b r q/\Cb T EN (Vm T) b r (Xj nx t g m i e q) (Nl X D),⟨1001,c,e,C,Ext.refl _ _,K.mono e1,r1,Q⟩,?_⟩;rintro i m l r ⟨p,z,f,ex,u,V,a⟩;cases m with
 |zero=>exact a.elim
 |succ m=>
  unfold Xj at a;have E:=q1 p r f i ex V;cases G:nx i f with
  |none=>simp only[G]at a;exact a.elim
  |some o=>
   cases o with
   |none=>
    simp only[G]at a E;exact .inl ⟨E,Cb.here (g:=ul.nx l) a V u⟩
   |some d=>
    simp only[G]at a E;obtain⟨N,hy⟩:=E;refine .inr ⟨N,λn j=>∃ b e q,Ext c F b j/\eh T b j e n/\Rel T b j q/\Cb T EN (Vm T) b j (Xj nx t g m (i+1) e q) (Nl X D),λn j h=>⟨m,yb _,h⟩,λx j y=>?_⟩;obtain⟨k,W,hx⟩:=hy x j y;cases P:t d z with
    |none=>simp only[P]at a;exact a.elim
    |some B=>
     simp only[P]at a;exact⟨p,f,z,d,B,u.mono k,W,hx,P,λn L=>⟨p,B,f,L,W,(Cb.mono k a).bind λfl U R gl H4 _ Z Y q4 p4=>iE Y q4 p4 λS a0 M p5=>⟨R,S,U,(ex.trans k).trans Z,M,Y,p5⟩⟩⟩
end
noncomputable def wt(a:D):NX:=λi b=>match Dh b a with
 |some xs=>(match xs[i]? with
  |some x=>some (some (.tup [.int (i:Int),x]))
  |none=>if i=xs.length then some none else none)
 |none=>none
noncomputable def xw(d:D):M NX:=λa=>match Dh a d with
 |some _=>.ok (wt d) a
 |none=>.bad
noncomputable def iD(f:Ev->M D):Ev->M NX:=λa=>Fc (f a) xw
section
variable{T:Tb}{X:Cx}{elts:List Ea}{kk:Nat}{p0 p pos:se}{f g:Ev->M D}
theorem tY:bootBuiltins "enumerate" = some (.type "enumerate"):=by decide +kernel
noncomputable def qS(K:W.Frag)(b:TA):TI:=λd H R=>b d H λc a=>∃ l xs,c=[.ref l]/\zf K a l xs/\R (ML K l) a
theorem K3{a:Ea}{i:TA}(n:Gl X "enumerate")(hm:X.mg "enumerate" = none)(m:PA X [a] i)(hs:na [a] X.env=[(false,Gb a X.env)]:=by rfl):PI X (.Tuple elts kk p0) (.Call (.Name "enumerate" p) [a] [] pos) (qS X.K i):=by
 intro d s x H R I h;refine Call_ (HA I n hm tY (Zf (Ad (m pos d s x H _ I h) λus s1 ⟨C,H1,f,v,u⟩=>?_) hs rfl));obtain⟨l,xs,e,o,q⟩:=u;subst e;cases v with
 |cons r w=>
  cases w;cases r;obtain⟨t,B,pl,A⟩:=f.list o;refine call_enumerate_list pl.isList λz g j y k=>Uy g ?_;refine⟨s1.heap.objs.size+1,[s1.heap.objs.size+1,s1.heap.objs.size],_,_,H1,rfl,f.kept (t':=s1.toks) k,dW l _ _,⟨⟨_,g⟩,j⟩,λb hb=>?_,q⟩;have c:s1.heap.objs.size<=b:=by simp at hb;rcases hb with rfl|rfl<;>omega
  exact f.Xp c (f.Pb.fresh c)
theorem pM{e:Ea}(M:Gl X "enumerate")(hm:X.mg "enumerate" = none)(h:FE T X e f)(hs:na [e] X.env=[(false,Gb e X.env)]:=by rfl):Bu T X (.Tuple elts kk p0) (.Call (.Name "enumerate" p) [e] [] pos) (iD f):=by
 intro k s S H R I P;refine K3 M hm (eu h zv hs) hs k s S H R I ?_;obtain⟨V,Z,σ,L,O,N⟩:=P;refine⟨V,Z,σ,L,O,N.bind λd r W v H1 _ e1 B A j=>?_⟩;unfold xw at j;cases m:Dh r d with
 |none=>rw[m]at j;exact j.elim
 |some ds=>
  rw[m]at j;obtain⟨l,U,rfl,G,h2⟩:=B.ls A m;refine⟨l,U,rfl,zf.of G,Cb.here (R:=uo T) j B λY D t i ex C=>?_⟩;unfold wt;cases n:Dh t d with
  |none=>trivial
  |some xs=>
   obtain⟨l',ws,E,J,u⟩:=C.ls (Rep.mono ex _ _ A) n;cases E;have b:zf X.K D l ws:=zf.of J;dsimp only;cases F:xs[i]? with
   |none=>
    dsimp only;by_cases o:i=xs.length
    ·rw[da o];exact⟨ws,b,by rw[o];exact u.length⟩
    ·rw[ga o];trivial
   |some d'=>
    obtain⟨x,w,Q⟩:=u.get F;refine⟨⟨ws,x,b,w⟩,λz H' y=>?_⟩;obtain⟨q,x',a,rfl,c,rfl⟩:=y;have g:=c ws b;rw[w]at g;cases g;refine⟨Lj a,C.fresh a,?_⟩;rw[Rep];exact⟨q,_,rfl,fg,Ra.cons (by rw[Rep]) (Ra.cons (Rep.mono (Lj a) _ _ Q) Ra.nil)⟩
end
open PySem.Builtin.Str (occurrences partsBetween subAt)
end L4
namespace L4
open PySem PySem.Spec PyProof.Rows L2
section
variable{T:Tb}{X:Cx}{a b c:Ea}{fa fb fc:Ev->M D}{pos:se}
end
noncomputable def oG(ρ:Ev)(c:Nat)(f:qa)(x:D)(a:Int)(y:D):M Fl:=λd=>match y with
 | .int b=>(match x with
  | .ref n=>(match d[n]? with
   |some (.ins e fs)=>if (e == c && decide (fs.length<1000))=true then .ok (.nx ρ) (d.set n (.ins c (Ej f (.int (a+b)) fs)))else .bad
   |_=>.bad)
  |_=>.bad)
 |_=>.bad
noncomputable def Cz(ρ:Ev)(cs:List Nat)(f:qa)(d:Ev->M D)(x:D):M Fl:=λb=>match Fm b x with
 |some (c,fs)=>if cs.contains c=true then (match fs.lookup f with
  |some (.int a)=>xs ρ (d ρ) (oG ρ c f x a) b
  |_=>.bad)else .bad
 |none=>.bad
noncomputable def dE(cs:List Nat)(f:qa)(c b:Ev->M D):Ev->M Fl:=λa=>xs a (b a) (Cz a cs f c)
section
variable{T:Tb}{X:Cx}
theorem ZW{o e:Ea}{f:qa}{U S:Ev->M D}{pos B:se}{cs:List Nat}(hK:T.K=X.K)(hc:Xi T cs f)(ho:FE T X o S)(hv:FE T X e U):FS T X (.AugAssign (.Attribute o f B) .Add e pos) (dE cs f U S):=by
 intro A s st H D I hq;refine RY ho hv IY A s st H D I ?_;obtain⟨μ,ρ,σ,u,hr,hp⟩:=hq;refine⟨μ,ρ,σ,u,hr,hp.xs u λx E O vo H1 _ e1 Z Y d=>?_⟩;unfold Cz at d;cases G:Fm E x with
 |none=>rw[G]at d;exact d.elim
 |some p=>
  obtain⟨c,fs⟩:=p;rw[G]at d;dsimp only at d;by_cases l:cs.contains c=true
  ·rw[da l]at d;obtain⟨a,dx,vs,rfl,h1,h2⟩:=KC Z Y G;cases J:fs.lookup f with
   |none=>rw[J]at d;exact d.elim
   |some y=>
    rw[J]at d;cases y with
    |int i=>
     obtain⟨w,h3,h4⟩:=(Sz h2).1 _ J;obtain⟨V,W⟩:=hc c l;rw[hK]at V W;refine⟨a,_,dx,vs,w,rfl,h1,V,W,h3,O,ρ,E,u.mono e1,Z,d.xs (u.mono e1) λz P C vz Q _ R r2 q2 b=>?_⟩;unfold oG at b;cases z with
     |int j=>
      refine⟨i,j,oo h4,oo q2,?_⟩;have L:=Rep.mono R _ _ Y;cases x with
      |ref n=>
       dsimp only at b;cases k:P[n]? with
       |none=>rw[k]at b;exact b.elim
       |some ob=>
        rw[k]at b;cases ob with
        |lst _=>exact b.elim
        |va _=>exact b.elim
        |lb _=>exact b.elim
        |og _=>exact b.elim
        |ins F q=>
         dsimp only at b;by_cases h:(F == c && decide (q.length<1000))=true
         ·rw[da h]at b;rw[Ma,nc,vf]at h;obtain⟨v,hl⟩:=h;subst v;obtain⟨a',ea,hn,g,m,r,t⟩:=r2.at L k;cases ea;have ex:Ext C Q C (upd Q a (.ins (T.ca F) g (Ll f (.int (i+j)) m))):=Pr (Ga hn) r (λ_ z=>by cases z) (λ_ _ z=>by cases z);have N:=r2.write (o:=.ins (T.ca F) g (Ll f (.int (i+j)) m)) (ob:=.ins F (Ej f (.int (i+j)) q)) hn ⟨g,_,fg,bH (by rw[Rep]) (zr.mono ex t)⟩;exact⟨g,m,r,by rw[<-t.length];exact hl,b _ (.nx st) _ N.1 N.2 ((u.mono e1).mono R |>.mono N.1)⟩
         ·rw[ga h]at b;exact b.elim
      |_=>exact b.elim
     |_=>exact b.elim
    |_=>exact d.elim
  ·rw[ga l]at d;exact d.elim
noncomputable def jt(y x:D):M D:=λb=>match qm y with
 |some k=>(match qh b x with
  |some a=>.ok (.bl (!(ni a k).isSome)) b
  |none=>.bad)
 |none=>.bad
noncomputable def bL:R2:=λy x H Q=>∃ a o,x=.ref a/\Zh H a y o/\Q (.bl (!o.isSome)) H
theorem RG(f:X.A.units+9<cLine):Oh X (Rb .NotIn) bL:=by
 intro b s k H y x i u Q I e d h;obtain⟨a,o,rfl,g,q⟩:=h;obtain rfl:u=kb a:=d;exact jU (by omega) I g e λj c=>⟨.bl (!o.isSome),H,c,rfl,q⟩
theorem EF:gk T bL jt:=by
 intro E o H m y x u v Q r q p h;unfold jt at h;cases c:qm y with
 |none=>rw[c]at h;exact h.elim
 |some k=>
  rw[c]at h;dsimp only at h;cases b:qh m x with
  |none=>rw[b]at h;exact h.elim
  |some j=>
   rw[b]at h;obtain⟨a,l,rfl,g,i⟩:=Rv r p b;obtain rfl:=Gz q c;refine⟨a,Zm l k,rfl,Zh.kr g,Cb.here h r ?_⟩;rw[Rep];rcases SF i k with⟨e,f⟩|⟨d,w,e,f,n⟩
   ·rw[e,f];rfl
   ·rw[e,f];rfl
noncomputable def Qr(T:Tb)(P:ra)(w:Ia)(mg:qa->Option Value)(base:Heap)(k:Nat)(f:Addr)(ps:List qa)(b:List Value)(fn:List D->M D):Prop:=
 ∃ a,Up T.K a ps []/\Up T.K a ps b/\Og P w T.K mg base (Qk P w) k f a ps (Bo T ps.length fn)
structure Ym(K:W.Frag)(C:Addr)(x qual:qa)(st:Stmt)(ps:List qa)(dv:List Value)(f:Addr):Prop where
 ex:∃ fd,(∃ (oc:Value) (od:Option Addr) (dV kV doc pm:Value) (an:Option Addr) (cdv ct:Value) (osl:Array (Option Value)),
  fd=W.fnOf x qual (ml st) (Ei st) (pd st) dV kV doc pm an cdv ct/\K.lookup f=some ⟨oc,od,.func fd,osl⟩/\W.codeIn K cdv qual=true)/\Up K fd ps []/\Up K fd ps dv
end
section
variable{P:ra}{w:Ia}{K:W.Frag}{mg:qa->Option Value}{base:Heap}{ca:Nat->Addr}{tx:Tx}
theorem AL{k:Nat}{C f:Addr}{x qual:qa}{b:Stmt}{ps N:List qa}{d:List Value}{g:Ev->M Fl}(h:Ym K C x qual b ps d f)(S:Ka N ps (pd b))
  (hb:∀ (a:Value) (A:Ja) (outer:List Cg) (s:Shared) (H:Hp) (E:XK),ke k (A.deeper (Kg qual (pd b) s.heap.objs.size f a))->Qo ⟨K,ca,tx⟩ (Dp (Qk P w) P w K mg base N qual (pd b) f a A outer s H E) (Ei b) g) :
  Qr ⟨K,ca,tx⟩ P w mg base (k+1) f ps d (run N.length g):=by
 obtain⟨n,⟨o,p,dV,kV,j,q,m,a,ct,l,rfl,lk,c⟩,e,i⟩:=h.ex;exact⟨_,e,i,xA lk c S (hb a)⟩
theorem Qr.hide{T:Tb}{k:Nat}{f:Addr}{ps:List qa}{a:List Value}{fn:List D->M D}(h:Qr T P w mg base k f ps a fn):Qr T P w mg base k f ps a (L4.hide fn):=by rw[Jk];exact h
theorem Qr.rb{T:Tb}{k:Nat}{f:Addr}{ps:List qa}{a:List Value}{fn:List D->M D}(h:Qr T P w mg base k f ps a fn):Qr T P w mg base k f ps a (λb=>L4.rb (fn b)):=by
 obtain⟨c,d,e,g⟩:=h;exact⟨c,d,e,dD g⟩
theorem hI{C f t:Addr}{x qual:qa}{e:Stmt}{ps:List qa}{i:List Value}{v q:Value}{od g r:Option Addr}{j u:Array (Option Value)}{kV b h a ct:Value}{p:Nat}
  (hb:∀ (t:Addr) (kV b h:Value) (g:Option Addr) (a ct:Value) (s:Shared) (o:Obj) (n:Nat) (us:List Value),s.heap.get? t=some o->o.data=.seq i.toArray n->((us++[]).length=ps.length->Xe s (W.fnOf x qual (ml e) (Ei e) (pd e) (.ref t) kV b h g a ct) ⟨us,[]⟩ (ps.zip (us++[])))/\
   ((us++i).length=ps.length->Xe s (W.fnOf x qual (ml e) (Ei e) (pd e) (.ref t) kV b h g a ct) ⟨us,[]⟩ (ps.zip (us++i))))
  (l:K.lookup f=some ⟨v,od,.func (W.fnOf x qual (ml e) (Ei e) (pd e) (.ref t) kV b h g a ct),j⟩)
  (c:W.codeIn K a qual=true) (d:K.lookup t=some ⟨q,r,.seq i.toArray p,u⟩):Ym K C x qual e ps i f:=
 ⟨⟨_,⟨v,od,_,kV,b,h,g,a,ct,j,rfl,l,c⟩,λs us k m=>(hb t kV b h g a ct s _ p us (k _ _ d) rfl).1 m,λs us k m=>(hb t kV b h g a ct s _ p us (k _ _ d) rfl).2 m⟩⟩
end
section
variable{T:Tb}{X:Cx}
end
section
variable{T:Tb}{X:Cx}
end
noncomputable def Ks(ix:List Nat)(ρ:Ev):Ev:=none::none::ix.map λi=>(ρ[i]?).getD none
noncomputable def sx(ix:List Nat)(a:St):St:=none::none::ix.map λi=>(a[i]?).getD none
theorem WS{T:Tb}{μ:List Addr}{H:Hp}{ρ:Ev}{a:St}(ix:List Nat)(h:eh T μ H ρ a):eh T μ H (Ks ix ρ) (sx ix a):=by
 have q:=hU ix h;refine⟨by simp[Ks,sx],λi d e=>?_⟩;cases i with
 |zero=>simp[Ks]at e
 |succ j=>exact q.2 j d e
section
variable{X:Cx}{pins:List (Addr × Obj)}{st:St}{H:Hp}{s:Shared}{x z0:qa}{M':List qa}{ix:List Nat}{scope:Scope}{fp:List Addr}
theorem U0(I:Inv X pins st H s)(L:cq X x M' ix scope)(g:∀ b∈fp,dr X pins H b/\b<s.heap.objs.size){h':Heap}{t':Nat}{m:qa->Option Value}(K:h'.Ns s.heap.objs.size m)
  (D:∀ b o,s.heap.get? b=some o->h'.get? b=some o) :
  Inv (Rr X (x::z0::M') scope (ro X.env scope.names []) s.heap.objs.size s H fp) [] (sx ix st) H { s with heap:=h',toks:=t' }:=by
 have sub:∀ n c,(ro X.env scope.names []).lookup n=some c->X.env.cells.lookup n=some c:=λn c e=>KM X.env scope.names [] n c (λ_ _ q=>by simp at q) e;have B:∀ n c,X.env.cells.lookup n=some c->c<s.heap.objs.size:=λn c e=>by obtain⟨v,z⟩:=I.cell n c e;exact z.lt
 have fresh:H s.heap.objs.size=none:=I.Pb.fresh (ja _);refine⟨⟨I.ok.mod,L.kind,I.ok.glob,I.ok.blt,ja _,λa b c r d=>I.ok.inj a b c (sub a c r) (sub b c d),λa W=>?_,λa c h=>(by cases h),I.ok.hd,I.ok.frames,.inl rfl,λb hb=>⟨ua (g b hb).2,λa c e=>?_⟩,λb o e=>I.bs b o e,Qa I.ok.tu I.sz,λb o e hb=>?_,λb hb z=>?_,I.stack,I.Lk⟩,
  rfl,I.bare,Un.kept D,⟨m,K,λi y v e1 E e3=>?_⟩,λa c e=>?_,fresh,λa c e=>I.zh a c (sub a c e),λp Z=>absurd (show p∈([]:List (Addr × Obj))from Z) (by simp),I.Pb.kept D,?_⟩
 ·
  have G:(scope.names.map λ(n,k)=>if (k == Za && X.env.scope.kind == .function && X.env.kindOf n == some .cell)then (n,Vb)else (n,k)).lookup a=some .cell\/(scope.names.map λ(n,k)=>if (k == Za && X.env.scope.kind == .function && X.env.kindOf n == some .cell)then (n,Vb)else (n,k)).lookup a=some .free:=W;have Q:scope.names.lookup a=some .free:=by
   rcases G with z|z
   ·obtain⟨k0,r,d⟩:=sH z;rcases d with d|⟨d,_⟩
    ·subst d;exact absurd rfl (qF L _ (dB r))
    ·rw[d]at r;exact r
   ·obtain⟨k0,r,d⟩:=sH z;rcases d with d|⟨_,d⟩
    ·rw[<-d]at r;exact r
    ·cases d
  exact ZG X.env scope.names [] a (dB Q) (zD I L _ (dB Q) rfl)
 ·exact(g b hb).1.2.2.2.2.1 a c (sub a c e)
 ·rcases(g b hb).1.2.2.2.1 with z|z
  ·exact I.ok.Ws b o e z
  ·exact absurd (Da (pa e) (Qa I.ok.tu z)) (de _)
 ·rcases Ca.mp (I.Zp b z)with q|q
  ·exact(g b hb).1.2.1 q
  ·exact(g b hb).1.2.2.1 q
 ·
  cases i with
  |zero=>simp[sx]at E
  |succ i=>
  cases i with
  |zero=>simp[sx]at E
  |succ j=>
   have t:M'[j]?=some y:=e1;have f:(ix.map λi=>(st[i]?).getD none)[j]?=some (some v):=E;rw[Xa]at f;cases F:ix[j]? with
   |none=>rw[F]at f;cases f
   |some A=>
    rw[F]at f;have C:(st[A]?).getD none=some v:=qb f;have T:st[A]?=some (some v):=by
     cases q:st[A]? with
     |none=>rw[q]at C;cases C
     |some o=>rw[q]at C;exact Ve some C
    have U:X.N[A]?=some y:=by
     have z:=Ve (λl=>l[j]?) L.at_;simp only[Xa,F,t,zg]at z;exact qb z
    have q:=jg.mp L.sU y (Ga t);simp only[Ma,ci]at q;have R:X.env.scope.names.lookup y=some .cell\/X.env.scope.names.lookup y=some .free:=by
     rcases q.1 with z|z
     ·exact .inl (eq_of_beq z)
     ·exact .inr (eq_of_beq z)
    have O:scope.names.lookup y=some .free:=eq_of_beq q.2;obtain⟨m0,Y,J⟩:=I.loc;obtain⟨u,ru,lu⟩:=J A y v U T (by rcases R with z|z;exact .inr (.inl z);exact .inr (.inr z));refine⟨u,ru,.inr ⟨ZK (env:=X.env) O,?_⟩⟩;rcases lu with⟨z,_⟩|⟨_,c,V,zc⟩
    ·rcases R with k|k
     ·rw[show X.env.kindOf y=X.env.scope.names.lookup y from rfl,k]at z;cases z
     ·rw[show X.env.kindOf y=X.env.scope.names.lookup y from rfl,k]at z;cases z
    ·obtain⟨S,w⟩:=ZG X.env scope.names [] y (dB O) (zD I L _ (dB O) rfl);have P:=sub y S w;rw[V]at P;cases P;obtain⟨o,M,hd⟩:=zc;exact⟨c,w,o,D _ _ M,hd⟩
 ·obtain⟨v,o,M,hd⟩:=I.cell a c (sub a c e);exact⟨v,o,D _ _ M,hd⟩
 ·simp[sx,Rr];have z:=Ve List.length L.at_;simpa using z
end
section
variable{T:Tb}{X:Cx}
end
noncomputable def Wm(l:List Int):List Int:=l.mergeSort λa b=>decide (a<=b)
theorem ax(l:List Int):(Wm l).Perm l:=List.mergeSort_perm l _
theorem wB(l:List Int):(Wm l).Pairwise (·<=·):=by
 have:=List.pairwise_mergeSort (le:=λa b:Int=>decide (a<=b)) (λa b c d e=>by simp at *;omega) (λa b=>by simp;omega) l;exact this.imp λh=>by simpa using h
theorem Hz:∀ {l m:List Int},l.Perm m->l.Pairwise (·<=·)->m.Pairwise (·<=·)->l=m
 |[],m,h,_,_=>by rw[List.nil_perm]at h;exact h.symm
 |a::l,[],h,_,_=>by have:=h.length_eq;simp at this
 |a::l,b::m,h,c,d=>by
  rw[List.pairwise_cons]at c d;have f:a∈b::m:=h.subset Ba;have hb:b∈a::l:=h.symm.subset Ba;have e:a=b:=by
   rcases Ca.mp f with e|f
   ·exact e
   ·rcases Ca.mp hb with e|hb
    ·exact e.symm
    ·have:=c.1 b hb;have:=d.1 a f;omega
  subst e;rw[Hz (y4 h) c.2 d.2]
noncomputable def VG(K:W.Frag):List V->Hp->VK->Prop:=λxs H Q=>∃ (p:Addr) (is:List Int),xs=[.ref p]/\zf K H p (is.map V.int)/\is.length<64/\∀ l,H l=none->Q (.ref l) (upd H l (.lst ((Wm is).map V.int)))
section
variable{T:Tb}{X:Cx}
theorem FU:Zl X (.builtin "sorted") (VG X.K):=by
 intro f s y H xs x Q I r h;obtain⟨p,is,rfl,o,b,q⟩:=h;obtain⟨u,rfl,t⟩:=Yr r;cases t;obtain⟨c,g,pl,v⟩:=I.list o;have a:=g.length;rw[Ta]at a;refine sorted_ints pl.isList (AE g) (by omega) λout d i j k=>?_;obtain⟨e,m⟩:=sortedAll_at s.heap c out;have l:d=Wm is:=Hz (j.trans (ax is).symm) k (wB is);subst l;have n:=(ax is).length_eq;exact⟨.ref (s.heap.objs.size+1),_,I.laid (t':=s.toks) (λ_ _=>sortedAll_old) (Ui _) (show Wh X.prog X.w _ _ _ (.lst ((Wm is).map V.int))from⟨by rw[Ta,n];exact Qa (Qc b) (by decide),out.toList,e,pA i,by rw[rg];exact m⟩),rfl,q _ (I.Pb.fresh (Ui _))⟩
noncomputable def uF(xs:List D):M D:=λa=>match xs with
 |[x]=>(match Dh a x with
  |some b=>(match xt b with
   |some is=>if is.length<64 then Xw ((Wm is).map D.int) a else .bad
   |none=>.bad)
  |none=>.bad)
 |_=>.bad
theorem WF{μ:List Addr}{H:Hp}:∀ a:List Int,Ra T μ H (a.map D.int) (a.map V.int)
 |[]=>Ra.nil
 |i::a=>Ra.cons (by rw[Rep]) (WF a)
theorem UR(n:T.K=X.K):tr T (VG X.K) uF:=by
 intro E s H m xs q Q r p h
 match xs with
 |[]=>exact h.elim
 |[x]=>
  rw[Ra]at p;obtain⟨v,w,rfl,j,d⟩:=p;rw[Ra]at d;subst d;unfold uF at h;cases e:Dh m x with
  |none=>simp only[e]at h;exact h.elim
  |some k=>
   simp only[e]at h;cases a:xt k with
   |none=>simp only[a]at h;exact h.elim
   |some is=>
    simp only[a]at h;by_cases c:is.length<64
    ·rw[da c]at h;obtain⟨b,o,rfl,f,g⟩:=r.ls j e;obtain rfl:=rC g a;exact⟨b,is,rfl,zf.of f,c,λl i=>Jx h r (WF _) i⟩
    ·rw[ga c]at h;exact h.elim
 |_::_::_=>exact h.elim
noncomputable def sr(kvs more:List (Key × V)):List (Key × V):=more.foldl (λacc a=>wj acc a.1 a.2) kvs
noncomputable def Bm(kvs more:List (Key × D)):List (Key × D):=more.foldl (λacc a=>Rg acc a.1 a.2) kvs
theorem wR:∀ {more:List (Key × V)} {rs:List (Key × Value)} {kvs:List (Key × V)} {vs:List (Key × Value)},KV more rs->KV kvs vs->KV (sr kvs more) (merged vs rs):=by
 intro more;induction more with
 |nil=>intro rs kvs vs a b;cases a;exact b
 |cons p more d=>
  intro rs kvs vs a b;cases a with
  |cons q a=>
   obtain⟨c,e⟩:=q;have:=d a (b.put p.1 e);rw[c]at this;simpa [sr,merged,c]using this
theorem UX:∀ (more kvs:List (Key × V)),(sr kvs more).length<=kvs.length+more.length:=by
 intro more;induction more with
 |nil=>intro kvs;simp[sr]
 |cons p more b=>
  intro kvs;have c:=b (wj kvs p.1 p.2);have d:=vC kvs p.1 p.2;have a:sr kvs (p::more)=sr (wj kvs p.1 p.2) more:=rfl;rw[a,Ha];omega
noncomputable def YN:V->List V->Hp->VK->Prop:=λx d H Q=>∃ a b c more,x=.ref a/\d=[.ref b]/\a≠b/\H a=some (.dK c)/\Rd H b (.dK more)/\c.length+more.length<=sizeLine/\Q .Hb (upd H a (.dK (sr c more)))
theorem VZ:Tr X "dict.update" YN:=by
 intro m s D H x G v E Q I A y h;obtain⟨a,b,e,more,rfl,rfl,j,hH,i,C,q⟩:=h;cases A;obtain⟨u,rfl,t⟩:=Yr y;cases t;obtain⟨z,hd,n,rel,l⟩:=XG I.Pb hH;obtain⟨J,k,f,c,g⟩:=gr I.Pb i;have e1:e.length=n.length:=by unfold KV at rel;exact Paired.length rel
 have B:more.length=f.length:=by unfold KV at c;exact Paired.length c
 refine Nt Jm l.typeIs PySem.F.entry_dict_update (PySem.F.args_dict_update_2 _ _) (meets_dict_update (Ik X.prog X.w) a b j k) ⟨n,f,l,g,by omega,λo d _ hs=>?_⟩;have p:∃ q,o.get? a=some q:=let ⟨q,_,_,r,_⟩:=d;⟨q,r⟩;have hm:=UX more e;exact⟨.Hb,_,BC I (by rw[hH];exact True.intro) hs p (AB (by omega) hd (wR c rel) d),rfl,q⟩
noncomputable def apart(n:Nat):D->Bool
 | .ref m=>!(m == n)
 |_=>true
noncomputable def mu(x:D)(xs:List D):M D:=λb=>match x,xs with
 | .ref n,[y]=>(match b[n]? with
  |some (.va a)=>(match qh b y with
   |some more=>if (apart n y && decide (a.length+more.length<=Ch))=true then .ok .Hb (b.set n (.va (Bm a more)))else .bad
   |none=>.bad)
  |_=>.bad)
 |_,_=>.bad
theorem JI{μ:List Addr}{H:Hp}:∀ {more:List (Key × D)} {us:List (Key × V)} {kvs:List (Key × D)} {vs:List (Key × V)},yf T μ H more us->yf T μ H kvs vs->yf T μ H (Bm kvs more) (sr vs us):=by
 intro more;induction more with
 |nil=>intro us kvs vs a b;unfold yf at a;cases a;exact b
 |cons p more c=>
  intro us kvs vs a b;unfold yf at a;cases a with
  |cons q a=>
   have:=c a (RJ b p.1 q.2);rw[q.1]at this;simpa [Bm,sr,q.1]using this
theorem rQ:qA T YN mu:=by
 intro E F H G x xs v N Q r p q h;cases x with
 |ref n=>
  match xs with
  |[]=>exact h.elim
  |[y]=>
   rw[Ra]at q;obtain⟨w,z,rfl,i,C⟩:=q;rw[Ra]at C;subst C;unfold mu at h;cases d:G[n]? with
   |none=>simp only[d]at h;exact h.elim
   |some ob=>
    cases ob with
    |va f=>
     simp only[d]at h;cases j:qh G y with
     |none=>simp only[j]at h;exact h.elim
     |some more=>
      simp only[j]at h;by_cases g:(apart n y && decide (f.length+more.length<=Ch))=true
      ·rw[da g]at h;simp only[Ma,nc]at g;obtain⟨a,rfl,hn,k,A,g2⟩:=r.at p d;obtain⟨b,l,rfl,J,s⟩:=Rv r i j;have K:k.length=f.length:=by unfold yf at g2;exact(Paired.length g2).symm
       have L:l.length=more.length:=by unfold yf at s;exact(Paired.length s).symm
       have t:a≠b:=by
        cases y with
        |ref m=>
         rw[Rep]at i;obtain⟨I,e,hm⟩:=i;cases e;intro e;subst e;have u:m=n:=ZB r.nd hm hn;have:=g.1;simp[apart,u]at this
        |va M ds=>
         rw[Rep]at i;obtain⟨I,B,e,hb,_⟩:=i;cases e;intro e;subst e;exact hb (Ga hn)
        |_=>cases j
       refine⟨a,b,k,l,rfl,rfl,t,A,J,by rw[K,L];exact Qa g.2 (by decide),?_⟩;have D:=r.write (o:=.dK (sr k l)) (ob:=.va (Bm f more)) hn ⟨_,fg,by
        have ex:Ext F H F (upd H a (.dK (sr k l))):=Pr (Ga hn) A (λ_ z=>by cases z) (λ_ _ z=>by cases z);exact JI (yf.mono ex s) (yf.mono ex g2)⟩
       exact h _ _ _ D.1 D.2 (by rw[Rep])
      ·rw[ga g]at h;exact h.elim
    |lst O=>simp only[d]at h;exact h.elim
    |ins c fs=>simp only[d]at h;exact h.elim
    |lb _=>simp only[d]at h;exact h.elim
    |og _=>simp only[d]at h;exact h.elim
  |_::_::_=>exact h.elim
 |_=>exact h.elim
end
theorem RE:bootBuiltins "sorted" = some (.builtin "sorted"):=by decide +kernel
theorem NF:∀ {ks:List Key} {vs:List Value},vs.length=ks.length->(∀ (j:Nat) (v:Value) (k:Key),vs[j]?=some v->ks[j]?=some k->Zc (kV k) v)->zd (ks.map kV) vs
 |[],[],_,_=>.nil
 |[],_::_,h,_=>by simp at h
 |_::_,[],h,_=>by simp at h
 |k::ks,v::vs,h,a=>.cons (a 0 v k rfl rfl) (NF (by simpa using h) λj v k e1 b=>a (j+1) v k e1 b)
theorem pK{P:ra}{w:Ia}{k:Key}{v:Value}(h:(Ik P w).is k v=true):Zc (kV k) v:=by
 rw[P0]at h;rcases Vs h with⟨i,t,rfl,rfl⟩|⟨x,t,rfl,rfl⟩
 ·exact⟨t,rfl⟩
 ·exact⟨t,rfl⟩
theorem WG:∀ {kvs:List (Key × V)} {ws:List (Key × Value)},KV kvs ws->ws.map (·.1)=kvs.map (·.1)
 |[],_,h=>by cases h;rfl
 |p::kvs,_,h=>by
  cases h with
  |cons q h=>simp only[za];rw[WG h,q.1]
noncomputable def rN:List V->Hp->VK->Prop:=λxs H Q=>∃ (a:Addr) (b:List (Key × V)),xs=[.ref a]/\Rd H a (.dK b)/\∀ l,H l=none->Q (.ref l) (upd H l (.lst (b.map λc=>kV c.1)))
section
variable{T:Tb}{X:Cx}
theorem bY(t:X.calm=true):Zl X (.type "list") rN:=by
 intro n s G H xs F Q I r h;obtain⟨a,kvs,rfl,hH,q⟩:=h;obtain⟨u,rfl,B⟩:=Yr r;cases B;obtain⟨z,hd,g,rel,o⟩:=gr I.Pb hH;obtain⟨ep,d⟩:=o.dictAt;have l:=WG rel;have D:g.length=kvs.length:=by have:=Ve List.length l;simpa using this
 refine W.kdl_call (z4 (knd:=Ik X.prog X.w) (kvs:=g) (ep:=ep) hd) (I.ok.hd t) d (by omega) λp C acc c kp e b=>?_;have m:zd ((g.map (·.1)).map kV) acc.toList:=NF (by rw[pb,Ta];exact b.1) λj v k e1 i=>by
  obtain⟨E,x,y,f⟩:=b.2 j v (by rw[<-Hc];exact e1);rw[Xa,y]at i;cases i;exact pK f
 rw[l,Mg]at m;exact⟨.ref s.heap.objs.size,_,I.laid (t':=C) kp (ja _) (show Wh X.prog X.w _ p _ (.lst (kvs.map λA=>kV A.1))from⟨by rw[Ta];exact z,acc.toList,c,m,by rw[rg];exact e⟩),rfl,q _ (I.Pb.fresh (ja _))⟩
noncomputable def Yp:Key->D
 | .inl i=>.int i
 | .inr x=>.str x
noncomputable def Zx(xs:List D):M D:=λb=>match xs with
 |[x]=>(match qh b x with
  |some a=>if a.length<=Ch then Xw (a.map λc=>Yp c.1) b else .bad
  |none=>.bad)
 |_=>.bad
theorem UM{μ:List Addr}{H:Hp}:∀ {kvs:List (Key × D)} {us:List (Key × V)},yf T μ H kvs us->Ra T μ H (kvs.map λa=>Yp a.1) (us.map λa=>kV a.1)
 |[],_,h=>by unfold yf at h;cases h;exact Ra.nil
 |p::kvs,_,h=>by
  unfold yf at h;cases h with
  |cons q h=>
   refine Ra.cons ?_ (UM h);dsimp only;rw[<-q.1];cases p.1<;>(unfold Yp kV;rw[Rep])
theorem tZ:tr T rN Zx:=by
 intro E n H k xs m Q r p h
 match xs with
 |[]=>exact h.elim
 |[x]=>
  rw[Ra]at p;obtain⟨v,w,rfl,i,d⟩:=p;rw[Ra]at d;subst d;unfold Zx at h;cases e:qh k x with
  |none=>simp only[e]at h;exact h.elim
  |some b=>
   simp only[e]at h;by_cases c:b.length<=Ch
   ·rw[da c]at h;obtain⟨a,j,rfl,f,g2⟩:=Rv r i e;exact⟨a,j,rfl,f,λl g=>Jx h r (UM g2) g⟩
   ·rw[ga c]at h;exact h.elim
 |_::_::_=>exact h.elim
end
end L4
namespace L4
open PySem PySem.Spec PySem.Calls PySem.W PyProof.Rows PyProof.V
theorem bX{prog:ra}{w:Ia}{A:Ja}{E:Value->Shared->Prop}{s:Shared}{R:List Value->Shared->Prop}{t:String}{r d:Addr}{n:Nat}{P:Nat->Value->Prop}{p:Heap->Prop}
  (K:KdlSrc prog w t r d n P p) (u:A.handled=none) (Pb:p s.heap) (hn:n<=sizeLine)
  (k:∀ (h':Heap) (h:Nat) (acc:Array Value),(∀ b o,s.heap.get? b=some o->h'.get? b=some o)->s.heap.objs.size<=h'.objs.size->Pm P acc n->R acc.toList { s with heap:=h',toks:=h }) :
  wpAny (model prog w) A (gz (.ref r)) R E s:=by
 have lt:=K.there _ Pb;let S:Addr:=s.heap.objs.size;let Z:bo->Shared->Prop:=λq m=>∃ (h':Heap) (h:Nat) (acc:Array Value) (c:Nat),q=.ok (.ret (.ref S))/\m={ s with heap:=h',toks:=h }/\(∀ b o,s.heap.get? b=some o->h'.get? b=some o)/\
  h'.get? S=some { cls:=.type "list",dict:=none,data:=.seq acc c,slots:=#[] }/\Pm P acc n
 have a:∀ {h':Heap} {h c:Nat} {acc:Array Value},(∀ b o,s.heap.get? b=some o->h'.get? b=some o)->h'.get? S=some { cls:=.type "list",dict:=none,data:=.seq acc c,slots:=#[] }->Pm P acc n->R acc.toList { s with heap:=h',toks:=h }:=
  λkp g i=>k _ _ _ kp (Qc (pa g)) i
 have j:(s.heap.push { cls:=.type "list",data:=.seq ([]:List Value).toArray }).get? S=some { cls:=.type "list",data:=.seq #[] }:=Aa _ rfl;have run:=kdl_extend (A:=A) (s:={ s with heap:=s.heap.push { cls:=.type "list",data:=.seq ([]:List Value).toArray } }) (R:=Z) K u (K.keep _ _ Pb λb _ o e=>ba _ e) S (De lt.1) (De lt.2) (.ref S) 0 j
  (λh' h acc c kp g i=>⟨h',h,acc,c,rfl,rfl,λb o e=>kp b o (ua (pa e)) (ba _ e),g,i⟩) hn
 unfold gz;refine aa (vq (je jv ?_));rw[Nc Xk _];show wpAny _ A.in1 (M4 [] >>= λl=>again (.builtin "list.__iadd__" ⟨[l,.ref r],[]⟩)) _ _ s;refine aa (Ib (ia ⟨Ng mf _,je jB ?_⟩));rw[Nc mf _];show wpAny _ A.in1 (ve (.ref S) (.ref r) (.ref S)) _ _ _;refine Uc run (λf m x=>?_) (λe m x=>by obtain⟨_,_,_,_,z,_⟩:=x;cases z);cases f with
 |done f=>
  obtain⟨h',h,acc,c,e,rfl,kp,g,i⟩:=x;cases e;exact aa (Vl g (ia (a kp g i)))
 |again v=>
  refine⟨x.1,qf x.2 λq B y=>?_⟩;obtain⟨h',h,acc,c,rfl,rfl,kp,g,i⟩:=y;exact aa (Vl g (ia (a kp g i)))
end L4
namespace L4
open PySem PySem.Spec PyProof.Rows L2
noncomputable def eH:List V->Hp->VK->Prop:=λxs H Q=>∃ (a:Addr) (b:List (Key × V)) (is:List Int),xs=[.ref a]/\Rd H a (.dK b)/\b.map (·.1)=is.map Sum.inl/\is.length<64/\∀ l,H l=none->Q (.ref l) (upd H l (.lst ((Wm is).map V.int)))
theorem HN:∀ {a:List Int} {vs:List Value},zd ((a.map (Sum.inl:Int->Key)).map kV) vs->oh vs a
 |[],_,h=>by cases h;exact .nil
 |i::a,_,h=>by
  cases h with
  |cons q h=>
   obtain⟨t,rfl⟩:=q;exact .cons i t (HN h)
section
variable{T:Tb}{X:Cx}
theorem xS(R:X.calm=true):Zl X (.builtin "sorted") eH:=by
 intro J s σ H xs us Q I r h;obtain⟨a,kvs,is,rfl,hH,f,n,q⟩:=h;obtain⟨u,rfl,Z⟩:=Yr r;cases Z;obtain⟨z,hd,i,rel,N⟩:=gr I.Pb hH;obtain⟨ep,p⟩:=N.dictAt;have E:=WG rel;have U:i.length=kvs.length:=by have:=Ve List.length E;simpa using this
 have T:kvs.length=is.length:=by have:=Ve List.length f;simpa using this
 have hn:i.length<=sizeLine:=by omega
 refine gn K6 A4 B4 (D4 _) ?_;unfold Ye.«sorted»;refine aa (m:=checkCount "sorted" 1 1 _) (ia ?_);refine aa (bX (A:=X.A.in1) (z4 (knd:=Ik X.prog X.w) (kvs:=i) (ep:=ep) hd) (I.ok.hd R) p hn λl tk acc kp g c=>?_);have F:acc.toList.length=i.length:=by rw[pb];exact c.1
 have G:zd ((i.map (·.1)).map kV) acc.toList:=NF (by rw[Ta];exact F) λj v k e1 C=>by
  obtain⟨k',x,Y,t⟩:=c.2 j v (by rw[<-Hc];exact e1);rw[Xa,Y]at C;cases C;exact pK t
 rw[E,f]at G;have P:=HN G;refine aa (ZP ?_ (by rw[F];exact hn));have d:(l.push (QH "list" acc.toList.toArray 0)).get? l.objs.size=some (QH "list" acc.toList.toArray 0):=Aa _ rfl;refine aa (Wc (yc FH ⟨_,d,rfl⟩ TD (GH d P (by omega) λout B K L M=>⟨_,rfl,?_⟩) (HH _)));refine ia ⟨_,rfl,?_⟩;have O:B=Wm is:=Hz (L.trans (ax is).symm) M (wB is);subst O;have y:=(ax is).length_eq;obtain⟨e,S⟩:=aQ (out:=out) d;exact⟨.ref l.objs.size,_,I.laid (t':=tk) (λb o D=>by
  have lt:b<l.objs.size:=pa (kp b o D);rw[IH (ua lt) (by rw[size_push'];exact zb lt)];exact ba _ (kp b o D)) g (show Wh X.prog X.w _ _ _ (.lst ((Wm is).map V.int))from⟨by rw[Ta,y];exact Qa (Qc n) (by decide),out.toList,e,pA K,by rw[rg];exact S⟩),rfl,q _ (I.Pb.fresh g)⟩
noncomputable def Iv:List (Key × D)->Option (List Int)
 |[]=>some []
 |(.inl i,_)::r=>(Iv r).map (i::·)
 |_::_=>none
theorem MO{μ:List Addr}{H:Hp}:∀ {kvs:List (Key × D)} {us:List (Key × V)} {is:List Int},yf T μ H kvs us->Iv kvs=some is->us.map (·.1)=is.map Sum.inl
 |[],_,is,h,e=>by unfold yf at h;cases h;cases e;rfl
 |(k,d)::kvs,_,is,h,e=>by
  unfold yf at h;cases h with
  |cons q h=>
   cases k with
   |inr x=>cases e
   |inl i=>
    unfold Iv at e;cases a:Iv kvs with
    |none=>rw[a]at e;cases e
    |some b=>
     rw[a]at e;cases e;simp only[za];rw[MO h a,<-q.1]
noncomputable def PB(xs:List D):M D:=λb=>match xs with
 |[x]=>(match qh b x with
  |some a=>(match Iv a with
   |some is=>if is.length<64 then Xw ((Wm is).map D.int) b else .bad
   |none=>.bad)
  |none=>.bad)
 |_=>.bad
theorem IW:tr T eH PB:=by
 intro E o H m xs n Q r p h
 match xs with
 |[]=>exact h.elim
 |[x]=>
  rw[Ra]at p;obtain⟨v,w,rfl,j,f⟩:=p;rw[Ra]at f;subst f;unfold PB at h;cases e:qh m x with
  |none=>simp only[e]at h;exact h.elim
  |some d=>
   simp only[e]at h;cases b:Iv d with
   |none=>simp only[b]at h;exact h.elim
   |some is=>
    simp only[b]at h;by_cases c:is.length<64
    ·rw[da c]at h;obtain⟨a,k,rfl,g,g2⟩:=Rv r j e;exact⟨a,k,is,rfl,g,MO g2 b,c,λl i=>Jx h r (WF _) i⟩
    ·rw[ga c]at h;exact h.elim
 |_::_::_=>exact h.elim
noncomputable def oK(K:W.Frag):List V->Hp->VK->Prop:=λxs H Q=>VG K xs H Q\/eH xs H Q
theorem gP(d:X.calm=true):Zl X (.builtin "sorted") (oK X.K):=by
 intro a s c H xs b Q I r h;rcases h with h|h
 ·exact FU a s c H xs b Q I r h
 ·exact xS d a s c H xs b Q I r h
noncomputable def Av(xs:List D):M D:=λa=>match xs with
 |[x]=>(match Dh a x with
  |some _=>uF [x] a
  |none=>PB [x] a)
 |_=>.bad
theorem fO(d:T.K=X.K):tr T (oK X.K) Av:=by
 intro E c H a xs b Q r p h
 match xs with
 |[]=>exact h.elim
 |[x]=>
  unfold Av at h;cases e:Dh a x with
  |some f=>simp only[e]at h;exact .inl (UR d E c H a [x] b Q r p h)
  |none=>simp only[e]at h;exact .inr (IW E c H a [x] b Q r p h)
 |_::_::_=>exact h.elim
end
section
variable{T:Tb}{X:Cx}
end
end L4
namespace L2
open PySem PySem.Spec PyProof.Rows
noncomputable def FD:List (TE × TE)->St->Hp->(List (V × V)->Hp->Prop)->Prop
 |[],_,H,Q=>Q [] H
 |(e,f)::r,σ,H,Q=>e σ H λx a=>f σ a λy b=>FD r σ b λd c=>Q ((x,y)::d) c
noncomputable abbrev VV:List (V × V)->List (Value × Value)->Prop:=Paired λp q=>Zc p.1 q.1/\Zc p.2 q.2
noncomputable def CA(X:Cx)(pos:se)(keys:List (Option Ea))(a:List Ea)(Ep:List (TE × TE)):Prop:=
 ∀ (b:List (Addr × Obj)) (s:Shared) (σ:St) (H:Hp) (Q:List (V × V)->Hp->Prop),Inv X b σ H s->FD Ep σ H Q->
  wpAny (model X.prog X.w) X.A (evalPairs (pairTrees keys a X.env pos)) (λf e=>∃ d c,Inv X b σ c e/\VV d f/\Q d c) X.xe s
theorem OU{X:Cx}{pos:se}:CA X pos [] [] []:=λa s b H Q I h=>pairTrees_nil_walk ⟨[],H,I,.nil,h⟩
theorem xQ{X:Cx}{pos:se}{k v:Ea}{ks:List (Option Ea)}{vs:List Ea}{c d:TE}{Ep:List (TE × TE)}(l:PE X k c)(n:PE X v d)(m:CA X pos ks vs Ep) :
  CA X pos (some k::ks) (v::vs) ((c,d)::Ep):=λa s b H Q I h=>
 pairTrees_cons_walk (Ad (l a s b H _ I h) λu s1 ⟨x,H1,g,t,p⟩=>Ad (n a s1 b H1 _ g p) λz s2 ⟨y,e,i,w,q⟩=>
  Ad (m a s2 b e _ i q) λws s3 ⟨o,f,j,rel,r⟩=>⟨(x,y)::o,f,j,.cons ⟨t,w⟩ rel,r⟩)
noncomputable def zz(kvs more:List (Key × V)):List (Key × V):=more.foldl (λacc a=>wj acc a.1 a.2) kvs
theorem KV.merge:∀ {more:List (Key × V)} {rs:List (Key × Value)} {kvs:List (Key × V)} {vs:List (Key × Value)},KV more rs->KV kvs vs->KV (zz kvs more) (merged vs rs):=by
 intro more rs kvs vs r;unfold KV at r;induction r generalizing kvs vs with
 |nil=>intro q;exact q
 |@cons p q c d h t a=>
  intro b;have e:KV (wj kvs p.1 p.2) (stored vs q.1 q.2):=by
   have:=b.put p.1 h.2;rw[<-h.1];exact this
  exact a e
theorem hP:∀ (more kvs:List (Key × V)),(zz kvs more).length<=kvs.length+more.length
 |[],kvs=>by show kvs.length<=kvs.length+0;omega
 |p::r,kvs=>by
  have a:=hP r (wj kvs p.1 p.2);have b:=vC kvs p.1 p.2;show (zz (wj kvs p.1 p.2) r).length<=_;rw[Ha];omega
theorem qK{P:ra}{w:Ia}:∀ {kvs:List (Key × V)} {ws:List (Value × Value)},VV (kvs.map λd=>(kV d.1,d.2)) ws->∃ rs,Carries (Ik P w) ws rs/\KV kvs rs
 |[],_,r=>by rw[Vd]at r;cases r;exact⟨[],True.intro,.nil⟩
 |p::kvs,_,r=>by
  rw[za]at r;cases r with
  |@cons a b as bs h t=>
   obtain⟨rs,c,q⟩:=qK (P:=P) (w:=w) t;obtain⟨f,e⟩:=b;exact⟨(p.1,e)::rs,⟨qy h.1,rfl,c⟩,.cons ⟨rfl,h.2⟩ q⟩
noncomputable def G2(Ep:List (TE × TE)):TE:=λe H Q=>∀ p,H p=none->FD Ep e (upd H p (.dK [])) λd b=>b p=some (.dK [])/\∃ a:List (Key × V),d=a.map (λc=>(kV c.1,c.2))/\a.length<=15/\Q (.ref p) (upd b p (.dK (zz [] a)))
theorem fV{X:Cx}{pos:se}{keys:List (Option Ea)}{b:List Ea}{Ep:List (TE × TE)}(h:CA X pos keys b Ep)(f:keys.all (·.isSome)=true)(t:keys.length=b.length)(h0:keys≠[])
  (j:keys.length<=15):PE X (.Dict keys b pos) (G2 Ep):=by
 intro i s D H Q I q;have hn:=I.Pb.fresh (ja s.heap.objs.size);have l:=I.laid (a:=s.heap.objs.size) (o:=.dK []) (h':=s.heap.push { cls:=.type "dict",data:=.dict #[] }) (t':=s.toks) (λ_ _ q=>ba _ q) (ja _) (iK s.heap I.OC);refine wpAny_Dict_walk (knd:=Ik X.prog X.w) f t h0 j (Ad (h i _ D _ _ l (q _ hn)) λws s2 ⟨F,E,k,rel,e,g,n,lk,x⟩=>?_);subst n;obtain⟨B,c,A⟩:=qK (P:=X.prog) (w:=X.w) rel;obtain⟨z,hd,C,y,m⟩:=XG k.Pb e;cases y;refine⟨B,c,m,λh' d hs=>⟨.ref s.heap.objs.size,_,?_,rfl,x⟩⟩;have v:(zz [] g).length<=sizeLine:=by
  have p:=hP g [];rw[di]at p;rw[fv];omega
 have r:∃ q,h'.get? s.heap.objs.size=some q:=let ⟨q,_,_,u,_⟩:=d;⟨q,u⟩;exact BC k (by rw[e];exact True.intro) hs r (AB v hd (A.merge .nil) d)
end L2
namespace L4
open PySem PySem.Spec PyProof.Rows L2
noncomputable def OB(n:Nat)(ks:List Key)(ds:List D):M D:=λa=>match a[n]? with
 |some (.va [])=>if ks.length<=15 then .ok (.ref n) (a.set n (.va (Bm [] (ks.zip ds))))else .bad
 |_=>.bad
noncomputable def ID(ks:List Key)(fs:Ev->M (List D)):Ev->M D:=λb a=>Fc (fs b) (OB a.length ks) (a++[.va []])
section
variable{T:Tb}{X:Cx}
inductive Wv(T:Tb)(X:Cx):List (Option Ea)->List Ea->List Key->(Ev->M (List D))->Prop
 |nil:Wv T X [] [] [] Ab
 |cons {k v:Ea} {kk:Key} {f:Ev->M D} {ks:List (Option Ea)} {vs:List Ea} {kks:List Key} {fs:Ev->M (List D)} (hk:FE T X k (eC (Yp kk))) (hv:FE T X v f) (r:Wv T X ks vs kks fs):Wv T X (some k::ks) (v::vs) (kk::kks) (ib f fs)
theorem nT{μ:List Addr}{H:Hp}{kk:Key}{v:V}(h:Rep T μ H (Yp kk) v):v=kV kk:=by
 cases kk<;>(unfold Yp at h;rw[Rep]at h;exact h)
theorem Wv.Ep{pos:se}{ks:List (Option Ea)}{vs:List Ea}{b:List Key}{fs:Ev->M (List D)}(h:Wv T X ks vs b fs) :
  ∃ Ep,CA X pos ks vs Ep/\∀ (e:St) (H:Hp) (Q:List (V × V)->Hp->Prop) (μ:List Addr) (ρ:Ev) (σ:db),eh T μ H ρ e->Rel T μ H σ->Cb T (XE X e) (Ra T) μ H (fs ρ σ) (λa c=>Q ((b.map kV).zip a) c)->FD Ep e H Q:=by
 induction h with
 |nil=>exact⟨[],OU,λe H Q μ ρ σ i l j=>by
  have z:(λ(a:List V) c=>Q ((([]:List Key).map kV).zip a) c) [] H:=Cb.here (R:=Ra T) (g:=([]:List V)) (Q:=λ(a:List V) c=>Q ((([]:List Key).map kV).zip a) c) j l Ra.nil;exact z⟩
 |@cons k v p f ks vs b fs y A r B=>
  obtain⟨Ep,w,x⟩:=B;refine⟨_,xQ y A w,λe H Q μ ρ σ i l j=>?_⟩;refine⟨μ,ρ,σ,i,l,λm g P e1 J F=>?_⟩;obtain rfl:=nT F;refine⟨m,ρ,σ,i.mono e1,J,(Cb.mono e1 j).bind λd o n q s _ t K C G=>?_⟩;exact x e s _ n ρ o (i.mono (e1.trans t)) K (G.bind λS O N a H3 _ u L E I=>by
   have z:(λ(a:List V) c=>Q (((p::b).map kV).zip a) c) (q::a) H3:=Cb.here (R:=Ra T) (g:=q::a) (Q:=λ(a:List V) c=>Q (((p::b).map kV).zip a) c) I L (Ra.cons (Rep.mono u _ _ C) E);exact z)
theorem IL:∀ (ks:List Key) (us:List V),(ks.map kV).zip us=(ks.zip us).map λa=>(kV a.1,a.2)
 |[],_=>by simp
 |_::_,[]=>by simp
 |k::ks,u::us=>by simp[IL ks us]
theorem XJ{μ:List Addr}{H:Hp}:∀ {ks:List Key} {ds:List D} {us:List V},Ra T μ H ds us->yf T μ H (ks.zip ds) (ks.zip us)
 |[],_,_,_=>by unfold yf;simp only[List.zip_nil_left];exact .nil
 |k::ks,[],us,h=>by rw[Ra]at h;subst h;unfold yf;simp only[List.zip_nil_right];exact .nil
 |k::ks,d::ds,us,h=>by
  rw[Ra]at h;obtain⟨v,r,rfl,a,b⟩:=h;have:=XJ (ks:=ks) b;unfold yf at this ⊢;simp only[List.zip_cons_cons];exact .cons ⟨rfl,a⟩ this
theorem gX{keys:List (Option Ea)}{b:List Ea}{e:List Key}{fs:Ev->M (List D)}{pos:se}(h:Wv T X keys b e fs)(j:keys.all (·.isSome)=true)(L:keys.length=b.length)(h0:keys≠[])(t:keys.length<=15) :
  FE T X (.Dict keys b pos) (ID e fs):=by
 intro k s V H Q I P;obtain⟨Ep,v,R⟩:=h.Ep (pos:=pos);refine fV v j L h0 t k s V H Q I ?_;obtain⟨l,W,m,K,B,O⟩:=P;intro p hn;have ex:Ext l H (l++[p]) (upd H p (.dK [])):=Lu hn;have U:Rel T (l++[p]) (upd H p (.dK [])) (m++[.va []]):=B.push (p:=p) (o:=.dK []) (ob:=.va []) hn ⟨[],fg,by unfold yf;exact .nil⟩;have u:(l++[p])[m.length]?=some p:=by rw[<-B.len];simp
 refine R _ _ _ (l++[p]) W (m++[.va []]) (K.mono ex) U ((Cb.mono ex O).bind λF x i n q _ G C S d=>?_);have f:=G.get u;unfold OB at d;cases g:x[m.length]? with
 |none=>simp only[g]at d;exact d.elim
 |some ob=>
  cases ob with
  |lst Z=>simp only[g]at d;exact d.elim
  |ins c fs=>simp only[g]at d;exact d.elim
  |lb _=>simp only[g]at d;exact d.elim
  |og _=>simp only[g]at d;exact d.elim
  |va w=>
   cases w with
   |cons z zs=>simp only[g]at d;exact d.elim
   |nil=>
    simp only[g]at d;by_cases A:e.length<=15
    ·rw[da A]at d;obtain⟨a,J,N,Y,y,g2⟩:=C.at (show Rep T i q (.ref m.length) (.ref p) by rw[Rep];exact⟨p,rfl,f⟩) g;cases J;unfold yf at g2;cases g2;refine⟨y,e.zip n,IL e n,by rw[List.length_zip];omega,?_⟩;have E:=C.write (o:=.dK (sr [] (e.zip n))) (ob:=.va (Bm [] (e.zip F))) f ⟨_,fg,by
      have r:Ext i q i (upd q p (.dK (sr [] (e.zip n)))):=Pr (Ga f) y (λ_ z=>by cases z) (λ_ _ z=>by cases z);exact JI (XJ (S.mono r)) (by unfold yf;exact .nil)⟩
     exact d _ _ _ E.1 E.2 (by rw[Rep];exact⟨p,rfl,f⟩)
    ·rw[ga A]at d;exact d.elim
end
section
variable{T:Tb}{X:Cx}{pins:List (Addr × Obj)}{st:St}{H:Hp}{s:Shared}
variable{N':List qa}{scope:Scope}{cl:List (qa × Addr)}{H3:Hp}{s3:Shared}{fp:List Addr}{xe:Value->Shared->Prop}
end
section
variable{T:Tb}{X:Cx}
end
section
variable{ρ:Ev}{σ:db}
end
end L4
namespace L4
open PySem PySem.Spec PyProof.Rows L2 Builtin Builtin.Str
section
variable{T:Tb}{X:Cx}{a b e o:Ea}{fa fb f:Ev->M D}{pos apos cpos:se}
end
section
variable{ρ:Ev}{σ:db}
end
end L4
namespace L4
open PySem PySem.Spec PyProof.Rows L2
section
variable{T:Tb}{X:Cx}
end
section
variable{ρ:Ev}{σ:db}
end
section
variable{prog:ra}{w:Ia}{A:Ja}{E:Value->Shared->Prop}{h:Heap}{g:Array Mm}{d:mv}{t:Nat}{os:OsState}
variable{nm qn:qa}{C N:Addr}{bs bm bmB:List Value}{hdct:Bool}{sn:List qa}{sub:List Value}{ab:Bool}{col:Option Bool}{dd:Option Addr}{k0 k1 k2 k3 k5:Option Value}{B newId initId:String}
end
section
variable{T:Tb}{X:Cx}{pins:List (Addr × Obj)}{st:St}{H:Hp}{s:Shared}
end
section
variable{X:Cx}
end
section
variable{prog:ra}{w:Ia}{A:Ja}{E:Value->Shared->Prop}{h:Heap}{g:Array Mm}{d:mv}{t:Nat}{os:OsState}{K:W.Frag}
variable{nm qn:qa}{C N x:Addr}{bs bm bmB:List Value}{sn:List qa}{sub:List Value}{ab:Bool}{col:Option Bool}{dd:Option Addr}{k0 k1 k2 k3 k5:Option Value}{B newId sa owner:String}{name:qa}{v:Value}{o:Obj}{vs:Array Value}
end
section
variable{X:Cx}
end
section
variable{P:ra}{w:Ia}{K:W.Frag}{mg:qa->Option Value}{base:Heap}
end
section
variable{M:Rj}{A:Ja}{E:Value->Shared->Prop}{s:Shared}{env:Cg}
variable{nm qn:qa}{C N:Addr}{bs bm:List Value}{hdct:Bool}{sn:List qa}{sub:List Value}{ab:Bool}{col:Option Bool}{dd:Option Addr}{k0 k1 k2 k3 k5:Option Value}{newId:String}
end
section
variable{T:Tb}{X:Cx}
end
end L4
namespace L4
open PySem PySem.Spec PySem.Calls PyProof.Rows PySem.Builtin PySem.Builtin.ObjectAttr L2
section
variable{prog:ra}{w:Ia}{A:Ja}{E:Value->Shared->Prop}{s:Shared}{K:W.Frag}{C ea dN:Addr}{hp:Heap}{n:Nat}{Mo:Rj}
end
section
variable{T:Tb}{X:Cx}
end
section
variable{ρ:Ev}{σ:db}
end
end L4
namespace HT
open PySem Builtin
open Sem (wp)
end HT
namespace L4
open PySem PySem.Spec PyProof.Rows L2
end L4
namespace L4
open PySem
noncomputable def yv(xs:Array Nat):Prop:=∀ i k:Nat,∀ a b:Nat,i<k->xs[i]?=some a->xs[k]?=some b->a<b
noncomputable def Cut(xs:Array Nat)(j p:Nat):Prop:=p<=xs.size/\(∀ i a:Nat,i<p->xs[i]?=some a->a<j)/\∀ i a:Nat,p<=i->xs[i]?=some a->j<=a
theorem Z1{xs:Array Nat}(p:yv xs)(j:Nat):∀ (c b hi:Nat),hi - b<=c->b<=hi->hi<=xs.size->(∀ i a:Nat,i<b->xs[i]?=some a->a<j)->(∀ i a:Nat,hi<=i->xs[i]?=some a->j<=a)->Cut xs j (Qm xs j c b hi):=by
 intro c;induction c with
 |zero=>
  intro b hi s t h k l;have e:b=hi:=by omega
  subst e;exact⟨h,k,l⟩
 |succ f q=>
  intro b hi s t h k l;unfold Qm;by_cases o:b<hi
  ·rw[da o];dsimp only;have hm:(b+hi) / 2<hi:=by omega
   have u:b<=(b+hi) / 2:=by omega
   have hs:(b+hi) / 2<xs.size:=by omega
   have g:xs[(b+hi) / 2]?=some xs[(b+hi) / 2]:=nb hs;have r:xs.getD ((b+hi) / 2) j=xs[(b+hi) / 2]:=by simp[Array.getD,hs]
   rw[r];by_cases m:xs[(b+hi) / 2]<j
   ·rw[da m];refine q _ _ (by omega) (by omega) h (λi a n d=>?_) l;by_cases e:i=(b+hi) / 2
    ·subst e;rw[g]at d;cases d;exact m
    ·have:=p i ((b+hi) / 2) a _ (by omega) d g;omega
   ·rw[ga m];refine q _ _ (by omega) (by omega) (by omega) k (λi a n d=>?_);by_cases e:i=(b+hi) / 2
    ·subst e;rw[g]at d;cases d;omega
    ·have:=p ((b+hi) / 2) i _ a (by omega) g d;omega
  ·rw[ga o];have e:b=hi:=by omega
   subst e;exact⟨h,k,l⟩
theorem fI{xs:Array Nat}(c:yv xs)(j:Nat):Cut xs j (ae xs j):=by
 unfold ae;exact Z1 c j _ _ _ (by omega) (by omega) (ja _) (λi a h=>by omega) (λi a h b=>by
  have:=(Ac.mp b).1;omega)
theorem n3{xs:Array Nat}{j p q:Nat}(a:Cut xs j p)(b:Cut xs j q):p=q:=by
 rcases wu p q with h|h|h
 ·have f:p<xs.size:=Da h b.1;have e:xs[p]?=some xs[p]:=nb f;have c:=b.2.1 p _ h e;have d:=a.2.2 p _ (ja _) e;omega
 ·exact h
 ·have g:q<xs.size:=Da h a.1;have e:xs[q]?=some xs[q]:=nb g;have c:=a.2.1 q _ h e;have d:=b.2.2 q _ (ja _) e;omega
theorem eY{xs:Array Nat}{p x:Nat}(e:p<=xs.size)(i:Nat):(cj xs p x)[i]?=if i<p then xs[i]? else if i=p then some x else xs[i - 1]?:=by
 unfold cj;have a:(xs.extract 0 p).size=p:=by simp;omega
 rw[Array.getElem?_append,Array.size_push,a];by_cases b:i<p
 ·rw[da (by omega),da b,Sq,ga (by rw[a];omega),xp];simp;omega
 ·rw[ga b];by_cases c:i=p
  ·subst c;rw[da (by omega),da rfl,Sq,da (by rw[a])]
  ·rw[ga (by omega),ga c,xp];by_cases d:i - 1<xs.size
   ·rw[da (by omega)];congr 1;omega
   ·rw[ga (by omega),yp (by omega)]
theorem B3{xs:Array Nat}{p x:Nat}(m:yv xs)(l:Cut xs x p)(hn:¬ xs[p]?=some x):yv (cj xs p x):=by
 have r:∀ i a:Nat,p<=i->xs[i]?=some a->x<a:=λi a s c=>by
  have g:=l.2.2 i a s c;rcases Nat.lt_or_ge x a with h|h
  ·exact h
  ·have e:a=x:=by omega
   subst e;by_cases o:i=p
   ·subst o;exact absurd c hn
   ·have u:=(Ac.mp c).1;have t:p<xs.size:=by omega
    have q:xs[p]?=some xs[p]:=nb t;have:=m p i _ _ (by omega) q c;have:=l.2.2 p _ (ja _) q;omega
 intro i k a b n c d;rw[eY l.1]at c d;by_cases g:i<p
 ·rw[da g]at c;by_cases j:k<p
  ·rw[da j]at d;exact m i k a b n c d
  ·rw[ga j]at d;by_cases f:k=p
   ·rw[da f]at d;cases d;exact l.2.1 i a g c
   ·rw[ga f]at d;exact m i (k - 1) a b (by omega) c d
 ·rw[ga g]at c;have j:¬ k<p:=by omega
  rw[ga j,ga (by omega)]at d;by_cases f:i=p
  ·rw[da f]at c;cases c;exact r (k - 1) b (by omega) d
  ·rw[ga f]at c;exact m (i - 1) (k - 1) a b (by omega) c d
structure ij(b:Bool)(t:Bd):Prop where
 led:t.led = !b
 cD:yv t.place
 yG:t.dummies=#[]
theorem SO(j:Nat):zu #[] j=false:=by
 unfold zu;simp
theorem dY{b:Bool}{t:Bd}(h:ij b t)(j:Nat):t.slot j=.empty/\¬ t.place[ae t.place j]?=some j\/∃ i,t.slot j=.live i:=by
 unfold T6;dsimp only;by_cases e:(t.place[ae t.place j]? == some j)=true
 ·rw[da e];exact .inr ⟨_,rfl⟩
 ·rw[ga e,h.yG,SO];exact .inl ⟨rfl,by simpa using e⟩
theorem SY{b:Bool}{t:Bd}(h:ij b t)(d:Nat->Int)(k:Int):∀ (a:Nat) (p:U6) (m:V6),p.dummy=none->xg t d k a p=some m->(∃ j,m=.empty j none/\¬ t.place[ae t.place j]?=some j)\/∃ j i nx,m=.candidate j i nx:=by
 intro a;induction a with
 |zero=>intro p m _ e;unfold xg at e;cases e
 |succ f l=>
  intro p m hd e;unfold xg at e;rcases dY h p.j with⟨c,hn⟩|⟨i,c⟩
  ·rw[c]at e;dsimp only at e;cases e;rw[hd];exact .inl ⟨_,rfl,hn⟩
  ·rw[c]at e;dsimp only at e;by_cases g:(d i == k)=true
   ·rw[da g]at e;cases e;exact .inr ⟨_,_,_,rfl⟩
   ·rw[ga g]at e;refine l _ m ?_ e;unfold W6;split
    ·exact hd
    ·exact hd
theorem iV{b:Bool}{t:Bd}(h:ij b t){a:Int}{j:Nat}{wd:Bool}(e:t.freeSlot a=some (j,wd)):¬ t.place[ae t.place j]?=some j:=by
 unfold X6 Y6 at e;cases c:xg t (λ_=>a+1) a (10 * Z6 t.mask) (t.probeStart a)with
 |none=>rw[c]at e;cases e
 |some m=>
  rw[c]at e;rcases SY h _ _ _ _ m rfl c with⟨d,rfl,hn⟩|⟨d,i,nx,rfl⟩
  ·cases e;exact hn
  ·cases e
theorem ij.put{b:Bool}{t:Bd}(h:ij b t){j:Nat}(hn:¬ t.place[ae t.place j]?=some j):ij b (t.put j).1:=by
 unfold d7;dsimp only;refine⟨h.led,B3 h.cD (fI h.cD j) hn,?_⟩;rw[h.yG,SO];rfl
theorem ij.plain{b p:Bool}{t:Bd}(h:ij b t):ij b { t with plain:=p }:=⟨h.led,h.cD,h.yG⟩
theorem gT(n:Nat):yv (Array.range n):=by
 intro i k a c g b d;have e:=(Ac.mp b).1;have f:=(Ac.mp d).1;simp only[Array.size_range]at e f;simp[e]at b;simp[f]at d;omega
theorem ij.Cq{b:Bool}{t:Bd}(h:ij b t)(n:Nat):ij b (t.standIn n):=⟨h.led,gT n,rfl⟩
theorem ij.or{b:Bool}{t:Bd}(h:ij b t)(n:Nat):ij b (t.orStandIn n):=by
 unfold e7;split
 ·exact h
 ·exact h.Cq n
theorem ij.lay{b:Bool}{t:Bd}(h:ij b t)(es:Array (Int × Value))(a:Int)(x:Value):ij b (layNew t es a x).2.1:=by
 unfold layNew;cases e:t.freeSlot a with
 |none=>exact h.Cq _
 |some q=>
  obtain⟨j,wd⟩:=q;dsimp only;exact(h.put (iV h e)).or _
theorem oV(m:Nat)(f:Nat->Option Nat):yv ((((List.range m).filterMap λj=>(f j).map (j,·)).map (·.1)).toArray):=by
 have o:List.Pairwise (·<·) (((List.range m).filterMap λj=>(f j).map (j,·)).map (·.1)):=by
  have l:List.Pairwise (·<·) (List.range m):=List.pairwise_lt_range;have e:((List.range m).filterMap λj=>(f j).map (j,·)).map (·.1)=(List.range m).filter λj=>(f j).isSome:=by
   rw[List.map_filterMap];rw[<-List.filterMap_eq_filter];congr 1;funext j;cases n:f j<;>simp[Option.guard,n]
  rw[e];exact l.sublist List.filter_sublist
 intro i k a c b d g;rw[dg]at d g;obtain⟨p,e1⟩:=ka.mp d;obtain⟨q,h⟩:=ka.mp g;rw[<-e1,<-h];exact Vn.mp o i k p q b
theorem ij.Uz{b:Bool}{t:Bd}(h:ij b t)(es:Array (Int × Value))(a:Nat):ij b (Rm t es a).2.1:=by
 unfold Rm;cases e:t.relaid (es.map (·.1)) a with
 |none=>exact h.Cq _
 |some q=>
  obtain⟨g,d⟩:=q;dsimp only;split
  ·unfold f7 g7 at e;cases c:i7 (j7 a - 1) (es.map (·.1))with
   |none=>rw[c]at e;cases e
   |some f=>
    rw[c]at e;cases e;exact⟨h.led,oV _ _,rfl⟩
  ·exact h.Cq _
theorem ij.fresh(b:Bool):ij b (Js 0 0 (!b)):=⟨rfl,λi k a c _ d _=>by simp[Js]at d,rfl⟩
end L4
namespace L4
open PySem PySem.Spec PyProof.Rows
section
variable{prog:ra}{w:Ia}{K:Type}[DecidableEq K][BEq K][LawfulBEq K]{knd:KeyKind prog w K}{A:Ja}{E:Value->Shared->Prop}{s:Shared}{b:Bool}{a:Addr}{k:K}{x:Value}
noncomputable def aq(knd:KeyKind prog w K)(b:Bool)(h:Heap)(a:Addr)(S:K->Bool)(n:Nat):Prop:=
 ∃ o c d t,h.get? a=some o/\o.ExactSet/\o.data=.set c d t/\Tp knd c.toList/\(∀ k,S k=true ↔ ∃ e∈c.toList,knd.is k e.2=true)/\c.size<scanBound/\t.fits c.size=true/\c.size=n/\ij b t
theorem iI{h:Heap}{o:Obj}{es c:Array (Int × Value)}{ep:Nat}{t t':Bd}{S':K->Bool}(m:h.get? a=some o)(d:o.ExactSet)(n:o.data=.set es ep t)(f:Tp knd c.toList)
  (i:∀ k,S' k=true ↔ ∃ e∈c.toList,knd.is k e.2=true) (j:c.size<scanBound) (l:t'.fits c.size=true) (p:ij b t') :
  (h.update a (Qt c t')).get? a=some { o with data:=.set c (ep+1) t' }/\aq knd b (h.update a (Qt c t')) a S' c.size:=by
 obtain⟨g,_⟩:=SetOf_store (knd:=knd) m d n f i j l;exact⟨g,_,c,ep+1,t',g,d,rfl,f,i,j,l,rfl,p⟩
theorem dI{g:Bool->Io Unit}(I:∀ (c:Bool) (s1:Shared) (p:Unit->Shared->Prop),p () s1->wpAny (model prog w) A (g c) p E s1){o:Obj}{es d:Array (Int × Value)}{ep:Nat}{t f:Bd}{S':K->Bool}{wd:Bool}{R:Option Bool->Shared->Prop}
  (v:s.heap.get? a=some o) (x:o.ExactSet) (B:o.data=.set es ep t) (C:Tp knd d.toList) (D:∀ k,S' k=true ↔ ∃ e∈d.toList,knd.is k e.2=true) (j:d.size<scanBound) (H:f.fits d.size=true) (F:ij b f)
  (q:∀ h',Oc a s.heap h'->aq knd b h' a S' d.size->R (some true) { s with heap:=h' }) :
  wpAny (model prog w) A (do
    storeSet a d f
    if (!wd && f.tooFull)=true then do
      g (Rm f d (He d.size)).2.2
      storeSet a (Rm f d (He d.size)).1 (Rm f d (He d.size)).2.1
      pure (some true)
     else pure (some true)) R E s:=by
 refine aa (Vy v B ?_ (sg j));obtain⟨u,G⟩:=iI (knd:=knd) v x B C D j H F;have h:=pc s.heap a (Qt d f);split
 ·have i:=relayAll_perm f d (He d.size);have m:=relayAll_fits f d (He d.size);have n:=F.Uz d (He d.size);generalize Rm f d (He d.size)=Z at i m n ⊢;obtain⟨l,L,J⟩:=Z;dsimp only at i m n ⊢;have z:l.size=d.size:=by rw[<-pb,i.length_eq,pb]
  refine aa (I _ _ _ (aa (Vy u rfl ?_ (sg (by rw[z];exact j)))));obtain⟨_,r⟩:=iI (knd:=knd) (S':=S') u x rfl (C.perm i) (λk=>(D k).trans ⟨λ⟨e,he,y⟩=>⟨e,i.mem_iff.mpr he,y⟩,λ⟨e,he,y⟩=>⟨e,i.mem_iff.mp he,y⟩⟩) (by rw[z];exact j) m n;rw[z]at r;exact ia (q _ (h.trans (pc _ a _)) r)
 ·exact ia (q _ h G)
theorem QQ{S:K->Bool}{n:Nat}{Q:Bool->Shared->Prop}(L:knd.is k x=true)(M:x.scannable=true)(hS:aq knd b s.heap a S n)(hn:n+1<scanBound)
  (q:∀ h',Oc a s.heap h'->aq knd b h' a (λf=>S f || decide (f=k)) (if S k then n else n+1)->Q (!S k) { s with heap:=h' }):wpAny (model prog w) A (N4 a x (knd.hash k)) Q E s:=by
 obtain⟨o,g,X,t,r,I,u,F,G,R,J,T,U⟩:=hS;unfold N4 setAddHashedIn;refine Wc (aa (We r u J ?_));dsimp only;rw[byScan_of M R F];simp only[↓reduceIte];unfold setAddByScan;refine aa (aa (rq (aa (wpAny_setScan_of L r u J F ?_))));cases V:List.findIdx? (λe=>knd.is k e.2) g.toList with
 |some j=>
  dsimp only;obtain⟨hj,pj,_⟩:=List.findIdx?_eq_some_iff_getElem.mp V;have C:S k=true:=(G k).mpr ⟨g.toList[j],re hj,pj⟩;refine ia (ia ?_);have z:=q s.heap (UD a s.heap) ⟨o,g,X,t,r,I,u,F,λf=>by
   rw[ci,nc,<-G f];exact⟨λy=>y.elim id λe=>e ▸ C,.inl⟩,R,J,by rw[C];exact T,U⟩
  rw[C]at z;obtain⟨hp,gg,dd,tk,os⟩:=s;exact z
 |none=>
  dsimp only;have C:S k=false:=by
   cases y:S k with
   |false=>rfl
   |true=>obtain⟨e,Y,p⟩:=(G k).mp y;have:=List.findIdx?_eq_none_iff.mp V e Y;rw[p]at this;cases this
  have H:∀ (c:Bool) {s1:Shared} {l:Unit->Shared->Prop},l () s1->wpAny (model prog w) A (match c with|true=>rule "set.scan.the-table-gave-way" | false=>pure ()) l E s1:=λc s1 l y=>by
   cases c
   ·exact ia y
   ·exact rq y
  have h:=layNew_perm t g (knd.hash k) x;have v:=layNew_fits t g (knd.hash k) x;have B:=U.lay g (knd.hash k) x;generalize layNew t g (knd.hash k) x=Z at h v B ⊢;obtain⟨d,t1,wd,gv⟩:=Z;dsimp only at h v B ⊢;rw[Array.toList_push]at h;have N:Tp knd d.toList:=(F.push L M).perm h;have O:∀ f,(S f || decide (f=k))=true ↔ ∃ e∈d.toList,knd.is f e.2=true:=mem_push_iff L G h;have W:d.size=n+1:=by rw[<-pb,h.length_eq,Ya,pb,T];rfl
  have P:d.size<scanBound:=by omega
  have m:∀ h',Oc a s.heap h'->aq knd b h' a (λf=>S f || decide (f=k)) d.size->Q true { s with heap:=h' }:=λh' D i=>by
   have:=q h' D;rw[C]at this;rw[W]at i;exact this i
  refine aa (H _ ?_);split
  ·refine aa ?_;rw[hashByValue_scannable 8 M];refine ia (dI (b:=b) ?_ r I u N O P ?_ ?_ ?_)
   ·exact λc s1 l y=>H c y
   ·split
    ·exact v
    ·exact L6 v
   ·split
    ·exact B
    ·exact B.plain
   ·exact λh' D i=>ia (m h' D i)
  ·refine aa (ia ?_);simp only[↓reduceIte];refine dI ?_ r I u N O P v B ?_
   ·exact λc s1 l y=>H c y
   ·exact λh' D i=>ia (m h' D i)
end
noncomputable def bT(w:Ia):Bool:=w.params.followText "set-order"
section
variable{prog:ra}{w:Ia}{A:Ja}
theorem qQ{b:Bool}{h:Heap}{a:Addr}{S S':Int->Bool}{n n':Nat}(hS:aq (Le prog w) b h a S n)(e:∀ k,S k=S' k)(c:n=n'):aq (Le prog w) b h a S' n':=by
 obtain rfl:S=S':=funext e;subst c;exact hS
theorem kH{b:Bool}{h h':Heap}{a:Addr}{S:Int->Bool}{n:Nat}(hS:aq (Le prog w) b h a S n)(k:∀ o,h.get? a=some o->h'.get? a=some o):aq (Le prog w) b h' a S n:=by
 obtain⟨o,d,c,t,e,r⟩:=hS;exact⟨o,d,c,t,k o e,r⟩
theorem rZ{R:bo->Shared->Prop}{I:Addr}{p wr:List Addr}{G:Array Mm->Array Mm->Prop}{n:Nat}{P:Nat->Value->Prop}{St:Nat->Shared->Prop}{b:Bool}(W:WalksS prog w A.in1 I p wr G n P St)(a:Addr)(r:a ∉ p)(f:Nat->Int)(E:∀ i v,P i v->∃ t,v=.int (f i) t)(hn:n+1<scanBound) :
  ∀ (k i:Nat) (s:Shared),n - i=k->i<=n->St i s->aq (Le prog w) b s.heap a (λy=>(Ef f i).any (·== y)) (Ef f i).length->
   (∀ s',Moved (a::wr) G s s'->aq (Le prog w) b s'.heap a (λy=>(Ef f n).any (·== y)) (Ef f n).length->R (.ok (.ret .none)) s')->codeAny (model prog w) A (.builtin "set.update.loop" ⟨[.ref a,.ref I],[]⟩) R s:=by
 have l:a ∉ wr:=λz=>r (W.sub _ z);have sub:∀ c∈wr,c∈a::wr:=λc d=>wa _ d;intro k;induction k with
 |zero=>
  intro i s J H h hS q;obtain rfl:i=n:=by omega
  refine je Tq ?_;rw[Nc gi _];show wpAny _ A.in1 (pyNext (.ref I) >>= _) _ _ s;refine aa (W.done s _ _ h λs' m=>?_);exact ia (q s' (m.mono sub) (kH hS λo e=>m.heap a _ l e))
 |succ k K=>
  intro i s J H h hS q;have lt:i<n:=by omega
  refine je Tq ?_;rw[Nc gi _];show wpAny _ A.in1 (pyNext (.ref I) >>= _) _ _ s;refine aa (W.item i s _ _ lt h λv s' D j m=>?_);obtain⟨t,rfl⟩:=E i v D;have g:=kH (h':=s'.heap) hS λo e=>m.heap a _ l e;show wpAny _ A.in1 (Ce [Md (f i) t] (setAdd a (.int (f i) t)) >>= _) _ _ s';unfold setAdd;refine aa (Wc (Wc (aa ((Le prog w).pyHash (k:=f i) (intKind_is _ _ _ _) ?_))));refine QQ (knd:=Le prog w) (s:={ s' with toks:=s'.toks+1 }) (intKind_is _ _ _ _) rfl g (by have:=Ex f i;omega) λh' u x=>?_;have B:aq (Le prog w) b h' a (λy=>(Ef f (i+1)).any (·== y)) (Ef f (i+1)).length:=qQ x (λy=>by rw[bQ,step_any]) (by rw[bQ,step_length]);refine ia ⟨Ng gi _,K (i+1) _ (by omega) lt (W.frame _ s' _ _ j (Ui _) λc d o e=>?_) B λM L C=>?_⟩
  ·rw[u.2 c (λz:c=a=>r (by rw[<-z];exact d))];exact e
  ·refine q M (Moved.trans W.gtrans ((m.mono sub).then_heap (Ui _) λc o d e=>?_) L) C;rw[u.2 c (λz:c=a=>d (by rw[z];exact Ba))];exact e
variable{E:Value->Shared->Prop}{s:Shared}
theorem XW(x:Value){Q:Value->Shared->Prop}(q:Q (.ref s.heap.objs.size) { s with heap:=s.heap.push { cls:=.type "set",dict:=none,data:=.set #[] 0 (.fresh 0 0 (!bT w)) } }) :
  codeAny (model prog w) A (.call (.builtin "set.__new__") ⟨[.type "set",x],[]⟩) (wants Q E) s:=by
 refine VD ?_;show wpAny _ A.in1 (do checkBuiltinCall "set.__new__" ⟨[.type "set",x],[]⟩;again (.builtin "set.__new__" ⟨[.type "set",x],[]⟩)) _ _ s;refine aa (M6 (PySem.F.newCall_set_1 x) (ia ⟨Ng Go _,je PySem.F.entry_set_new ?_⟩));rw[Nc Go _];unfold Ye.«set.__new__» pv;have sub:=sub_set_self;obtain⟨a,g,d,b,os⟩:=s;dsimp only
 wp_walk
 refine Yn (ia ?_);dsimp only;simp only[newObj];exact aa (wpAny_alloc (ia (ia q)))
end
section
variable{prog:ra}{w:Ia}{A:Ja}{E:Value->Shared->Prop}{s:Shared}
noncomputable abbrev Mu(w:Ia):Obj:={ cls:=.type "set",dict:=none,data:=.set #[] 0 (.fresh 0 0 (!bT w)) }
set_option maxHeartbeats 3200000 in
theorem SW{l:Addr}{items:Array Value}{ns:List Int}{Q:Value->Shared->Prop}(S:A.handled=none)(U:s.heap.IsList l items)(T:oh items.toList ns)(hb:items.size+1<scanBound)
  (q:∀ (h':Heap) (j:Nat),aq (Le prog w) (bT w) h' s.heap.objs.size (λy=>(Ef (λi=>ns.getD i 0) items.size).any (·== y)) (Ef (λi=>ns.getD i 0) items.size).length->
   (∀ b o,b<s.heap.objs.size->s.heap.get? b=some o->h'.get? b=some o)->Q (.ref s.heap.objs.size) { s with heap:=h',toks:=j }) :
  wpAny (model prog w) A (call (.type "set") [.ref l]) Q E s:=by
 obtain⟨c,tl,D⟩:=Ic.mro;have f1:=Ic.made;have f2:=Ic.sub;refine Dx (VD (show wpAny _ _ (callAny (.type "set") _) _ _ _ from ia ⟨Code.quiet_builtin _ (by decide +kernel),je PySem.F.entry_type_call ?_⟩));rw[Around.under_plain (weight_type_call_type "set" [.ref l] []) rfl];have f3:=Ic.notType;have f4:=Ic.canCreate;have f5:=PySem.F.typeCall_set_1 (.ref l);repeat (any_goals (first|assumption|wp_step))
 refine qf (XW (.ref l) (E:=E) (Q:=λI J=>I=.ref s.heap.objs.size/\J={ s with heap:=s.heap.push (Mu w) }) ⟨rfl,rfl⟩) λr J u=>?_;cases r with
 |error e=>exact u
 |ok M=>
  cases M with
  |ret I=>
   obtain⟨rfl,rfl⟩:=u;have C:(s.heap.push (Mu w)).get? s.heap.objs.size=some (Mu w):=Aa _ rfl;have tS:on { s with heap:=s.heap.push (Mu w) } (.ref s.heap.objs.size) "set":=⟨_,C,rfl⟩
   have i1:=Ic.init.lookup;have i2:=Ic.init.bind (.ref s.heap.objs.size);repeat (any_goals (first|assumption|wp_step))
   refine qf (codeAny_call_builtin (R:=wants (λr K=>r=.none/\∃ h' j,K={ s with heap:=h',toks:=j }/\aq (Le prog w) (bT w) h' s.heap.objs.size (λy=>(Ef (λi=>ns.getD i 0) items.size).any (·== y)) (Ef (λi=>ns.getD i 0) items.size).length/\
     (∀ b o,b<s.heap.objs.size->s.heap.get? b=some o->h'.get? b=some o)) E) Ic.init.plain PySem.F.entry_set_init (check_set_init_1 tS ?_)) λr2 K d=>?_
   ·obtain⟨⟨oc,Y,Z,z⟩,gl,f,H,g⟩:=U;simp only at f g;subst f;subst g;have n:(s.heap.push (Mu w)).get? l=some { cls:=.type "list",dict:=Y,data:=.seq items H,slots:=z }:=ba _ gl;have g1:=PySem.F.sub_list_set;have g2:=PySem.F.sub_list_frozenset;have g3:(uf "list" == uf "dict")=false:=by decide
    have h:(s.heap.push (Mu w)).IsList l items:=⟨_,n,rfl,H,rfl⟩
    unfold Ye.«set.__init__» noKeywords qv;generalize p:pyIter=PI
    wp_walk
    subst p;refine Im h (aa (vq ?_));have G:l<s.heap.objs.size:=pa gl;have O:A.in1.in1.in1.handled=none:=by simp[S]
    have W:l≠(s.heap.push (Mu w)).objs.size:=by rw[dc];exact ua (zb G)
    have X:s.heap.objs.size ∉ [(s.heap.push (Mu w)).objs.size,l]:=by
     rw[dc];simp only[Ca,qe,Wk,N6];exact⟨ua (yb _),De G⟩
    refine rZ (b:=bT w) ((hB O _ l W items).toS) s.heap.objs.size X (λi=>ns.getD i 0) (λi v V=>IntsAre.int_at T i v (by rw[Hc];exact V)) hb (items.size - 0) 0 _ (by omega) (Si _) ⟨⟨_,Aa _ rfl,rfl,rfl⟩,(h.push _)⟩ ?S0 ?RR;case S0=>
     exact⟨Mu w,#[],0,_,ba _ C,⟨rfl,rfl,rfl⟩,rfl,λe P=>by simp at P,λk=>by simp[cQ],by decide,by rfl,by simp[cQ],ij.fresh _⟩
    case RR=>
     intro s' hm a;obtain⟨h',N,L,B,x⟩:=s';obtain rfl:N=s.gens:=hm.gens;obtain rfl:L=s.drawn:=hm.drawn;obtain rfl:x=s.os:=hm.os;refine ia (ia ⟨rfl,h',B,rfl,a,λb o lt e=>?_⟩);refine hm.heap b o ?_ (ba _ (ba _ e));rw[dc];simp only[Ca,qe,Wk,N6];exact⟨ua lt,ua (zb lt)⟩
   ·cases r2 with
    |error e=>exact d
    |ok m=>
     cases m with
     |ret r=>
      obtain⟨rfl,h',j,rfl,a,t⟩:=d;repeat (any_goals (first|assumption|wp_step))
      exact q _ _ a t
     |_=>exact d
  |_=>exact u
end
theorem At:NH "set_iterator" "__next__" "set_iterator.__next__":=.of (owner:="set_iterator") (n:="__next__") (by rw[WD,yu];kernel_rfl) (by decide +kernel) (by decide +kernel) (by decide +kernel) (.inl (by decide +kernel)) (by rw[wq];kernel_rfl)
theorem bD:RH table "set_iterator.__next__" = some Ye.«set_iterator.__next__»:=entryFor_of_tree (by kernel_rfl)
theorem BB(a:Value):SH "set_iterator.__next__" ⟨[a],[]⟩:=by unfold SH;kernel_rfl
theorem SV:RH table "set.__iter__" = some Ye.«frozenset.__iter__»:=JH (id':="frozenset.__iter__") (by kernel_rfl) (by first|rfl|decide +kernel) (by decide +kernel) (by kernel_rfl)
noncomputable def Vo(h:Heap)(a:Addr)(es:Array (Int × Value))(ep:Nat)(t:Bd):Prop:=∃ o,h.get? a=some o/\o.ExactSet/\o.data=.set es ep t
noncomputable def Bp(h:Heap)(I a:Addr)(first:Value)(i n ep:Nat):Prop:=∃ o,h.get? I=some o/\o.cls=.type "set_iterator"/\o.data=.fields #[first,rawInt i,.ref a,rawInt n,rawInt ep]
section
variable{prog:ra}{w:Ia}{A:Ja}{E:Value->Shared->Prop}{s:Shared}{I a:Addr}{es:Array (Int × Value)}{ep:Nat}{t:Bd}{i:Nat}
theorem Bp.ty{first:Value}{n:Nat}(h:Bp s.heap I a first i n ep):s.TypeIs (.ref I) "set_iterator":=let ⟨o,b,c,_⟩:=h;⟨o,b,c⟩
theorem LV{f:Nat}{Q:Option Value->Shared->Prop}{v:Value}{f':Nat}(b:Bp s.heap I a (rawInt f) i es.size ep)(hS:Vo s.heap a es ep t)(j:t.fits es.size=true)(k:a≠I)
  (hn:∀ (A:Ja) (E:Value->Shared->Prop) (Q:Option (Value × Nat)->Shared->Prop),Q (some (v,f')) s->wpAny (model prog w) A (Sm a f i ep) Q E s)
  (q:∀ h',Bp h' I a (rawInt f') (i+1) es.size ep->Oc I s.heap h'->Q (some v) { s with heap:=h' }):wpAny (model prog w) A (pyNext (.ref I)) Q E s:=by
 obtain⟨o,c,h,hd⟩:=id b;obtain⟨l,g,m,e⟩:=id hS;unfold pyNext;refine aa (Yk (vd (name:=Vf "__next__") b.ty At (yc At b.ty bD ?_ (BB _))));unfold Ye.«set_iterator.__next__»;refine aa (ia ?_);refine aa (Qj c hd ?_);dsimp only[rawInt];refine aa (Af g e j ?_);rw[ga (by simp)];simp only[Uf];refine aa (hn _ _ _ ?_);dsimp only;refine aa (ug c hd (by simp) ?_);have d:=cc (ge (·.setIfInBounds 0 (Md (f':Int) 0))) c (Ke (Lb hd _));have d1:=Lb hd (·.setIfInBounds 0 (Md (f':Int) 0));refine aa (ug d d1 (by simp) ?_);have g2:=cc (ge (·.setIfInBounds 1 (Md ((i:Int)+1) 0))) d (Ke (Lb d1 _));refine ia ⟨_,rfl,ia (q _ ⟨_,g2,?_,?_⟩ ((pc ..).trans (pc ..)))⟩
 ·rw[Gk,Gk];exact h
 ·rw[Lb d1];simp[rawInt]
theorem LL{Q:Option Value->Shared->Prop}{first:Value}{n:Nat}{g:Heap}(h:A.handled=none)(i:Oc I s.heap g)(q:∀ h',Uq I s.heap h'->Q none { s with heap:=h' }) :
  wpAny (model prog w) A.in1 (do let e <-newExc (.type "StopIteration") [];raiseNew e:Io PySem.Fin) (λd f=>∃ v,d=Fin.done (Flow.ret v)/\wpAny (model prog w) A (pure (some v)) Q E f)
   (λe f=>wpAny (model prog w) A (do let c <-isInstance e (uf "StopIteration");if c=true then pure none else throw e) Q E f) { s with heap:=g }:=by
 refine aa ?_;simp only[newExc,newTuple];refine aa (Ib (aa (m:=TH _ _) (M6 (a:=Sa) (by first|rfl|(simp only[TH];rfl)) (Ib ?_ (by size_fits)))) (by size_fits));simp only[raiseNew];refine aa (wpAny_handled ?_);rw[show A.in1.handled=none from h];refine aa (ia (wpAny_throw ?_));refine aa (kB (T:="StopIteration") (b:=true) ⟨_,Aa _ rfl,rfl⟩ isSubtype_stop ?_);exact ia (q _ ((i.extBut.push _).push _))
theorem sS{f:Nat}{Q:Option Value->Shared->Prop}(h:A.handled=none)(b:Bp s.heap I a (rawInt f) i es.size ep)(hS:Vo s.heap a es ep t)(g:t.fits es.size=true)
  (hn:∀ (A:Ja) (E:Value->Shared->Prop) (Q:Option (Value × Nat)->Shared->Prop),Q none s->wpAny (model prog w) A (Sm a f i ep) Q E s)
  (q:∀ h',Uq I s.heap h'->Q none { s with heap:=h' }):wpAny (model prog w) A (pyNext (.ref I)) Q E s:=by
 obtain⟨o,c,j,hd⟩:=id b;obtain⟨k,e,l,d⟩:=id hS;unfold pyNext;refine aa (Yk (vd (name:=Vf "__next__") b.ty At (yc At b.ty bD ?_ (BB _))));unfold Ye.«set_iterator.__next__»;refine aa (ia (aa (Qj c hd ?_)));dsimp only[rawInt];refine aa (Af e d g ?_);rw[ga (by simp)];simp only[Uf];refine aa (hn _ _ _ ?_);dsimp only;refine aa (ug c hd (by simp) ?_);exact LL (first:=.none) (n:=0) h (pc ..) q
end
theorem zE{a:Type}:∀ (l:List a) (i:Nat) (h:i<l.length),(l[i]::l.eraseIdx i).Perm l
 |x::l,0,_=>.refl _
 |x::l,i+1,h=>by
  have:=zE l i (by simpa using h);simp only[List.getElem_cons_succ,List.eraseIdx_cons_succ];exact(List.Perm.swap _ _ _).trans (this.cons x)
theorem xI{c:Type}(nx:Nat->Nat):∀ (a k:Nat) (left:List c) (out:Array c),left.length=a->∃ ys:List c,(Um nx a k left out).toList=out.toList++ys/\ys.Perm left
 |0,k,left,out,h=>by
  obtain rfl:=Fh.mp h;exact⟨[],by unfold Um;simp,.refl _⟩
 |a+1,k,left,out,h=>by
  have b:nx k % left.length<left.length:=KH _ (by omega);unfold Um;rw[jb b];dsimp only;obtain⟨ys,e,p⟩:=xI nx a (k+1) (left.eraseIdx (nx k % left.length)) (out.push left[nx k % left.length]) (by rw[jn b];omega);refine⟨left[nx k % left.length]::ys,by rw[e];simp,?_⟩;exact(p.cons _).trans (zE left _ b)
theorem PJ{a:Type}(nx:Nat->Nat)(xs:Array a):(fo nx xs).toList.Perm xs.toList:=by
 obtain⟨b,e,p⟩:=xI nx xs.size 0 xs.toList #[] (by simp);unfold fo;rw[e];simpa using p
noncomputable def fB(pl:Array Nat)(i:Nat):Nat:=if i=0 then 0 else pl.getD (i - 1) 0+1
theorem bW{pl:Array Nat}(f:yv pl){i:Nat}(g:i<=pl.size):ae pl (fB pl i)=i:=by
 refine n3 (fI f _) ⟨g,λj a h b=>?_,λj a h b=>?_⟩
 ·unfold fB;rw[ga (by omega)];have c:i - 1<pl.size:=by omega
  have e1:pl[i - 1]?=some pl[i - 1]:=nb c;have d:pl.getD (i - 1) 0=pl[i - 1]:=by simp[Array.getD,c]
  rw[d];by_cases e:j=i - 1
  ·subst e;rw[e1]at b;cases b;omega
  ·have:=f j (i - 1) a _ (by omega) b e1;omega
 ·unfold fB;by_cases h0:i=0
  ·rw[da h0];omega
  ·rw[ga h0];have c:i - 1<pl.size:=by omega
   have e1:pl[i - 1]?=some pl[i - 1]:=nb c;have d:pl.getD (i - 1) 0=pl[i - 1]:=by simp[Array.getD,c]
   rw[d];have:=f (i - 1) j _ a (by omega) e1 b;omega
section
variable{prog:ra}{w:Ia}{A:Ja}{E:Value->Shared->Prop}{s:Shared}{a:Addr}{es:Array (Int × Value)}{ep:Nat}{t:Bd}{i:Nat}
theorem GC{Q:Bool->Shared->Prop}(q:Q (bT w) s):wpAny (model prog w) A setsByText Q E s:=by
 unfold setsByText;exact aa (Yn (ia q))
theorem O1{Q:Option (Value × Nat)->Shared->Prop}(hb:bT w=true)(hS:Vo s.heap a es ep t)(b:t.fits es.size=true)(q:Q (((fo (w.params.setOrder a ep) es)[i]?).map λe=>(e.2,0)) s):wpAny (model prog w) A (Sm a 0 i ep) Q E s:=by
 obtain⟨o,g,x,d⟩:=hS;unfold Sm;refine aa (We g d b ?_);dsimp only;refine aa (GC ?_);rw[hb];simp only[ee,bne_self_eq_false,wf,Ph];refine aa ?_;unfold setWalk;refine aa (We g d b ?_);dsimp only;refine aa (GC ?_);rw[hb];simp only[ee];exact aa (Yn (ia (ia q)))
theorem rX{Q:Option (Value × Nat)->Shared->Prop}(hb:bT w=false)(f:ij (bT w) t)(n:(!t.plain && decide (es.size > 1))=false)(m:i<=es.size)(hS:Vo s.heap a es ep t)(c:t.fits es.size=true)(q:Q ((es[i]?).map λe=>(e.2,fB t.place (i+1))) s):wpAny (model prog w) A (Sm a (fB t.place i) i ep) Q E s:=by
 obtain⟨o,g,x,d⟩:=hS;have j:t.place.size=es.size:=by simp only[k7,Ma,vf]at c;exact c.1
 unfold Sm;refine aa (We g d c ?_);dsimp only;refine aa (GC ?_);rw[hb];simp only[wf,Ph];refine Gf (λz=>?_) (λ_=>?_)
 ·have:(!t.plain && decide (es.size > 1))=true:=z;rw[n]at this;cases this
 ·refine aa ?_;refine Gf (λz=>?_) (λ_=>ia ?_)
  ·have:(!t.led && !es.isEmpty)=true:=z;rw[f.led,hb]at this;cases this
  ·rw[bW f.cD (by rw[j];exact m)];refine ia ?_;by_cases h:i<es.size
   ·have e1:es[i]?=some es[i]:=nb h;have b:i<t.place.size:=by rw[j];exact h
    have k:t.place[i]?=some t.place[i]:=nb b;rw[e1]at q ⊢;rw[k];have l:fB t.place (i+1)=t.place[i]+1:=by unfold fB;simp[Array.getD,b]
    rw[l]at q;exact q
   ·have e1:es[i]?=none:=yp (by omega);rw[e1]at q ⊢;exact q
end
section
variable{prog:ra}{w:Ia}{A:Ja}{E:Value->Shared->Prop}{s:Shared}{I a p:Addr}{es:Array (Int × Value)}{ep:Nat}{t:Bd}{i:Nat}
theorem W3{M:Rj}{src:Source}{n:Nat}{Q:Nat->Shared->Prop}(hn:n≠0)(q:∀ i,i<n->∀ d',Q i { s with drawn:=d' }):wpAny M A (choose src n) Q E s:=λb a _=>⟨hn,q _ (KH _ (Nat.pos_of_ne_zero hn)) _⟩
theorem lO{M:Rj}{b:Type}:∀ (n:Nat) (xs:List b) (s:Shared) (Q:List b->Shared->Prop),xs.length=n->(∀ ys d',ys.Perm xs->Q ys { s with drawn:=d' })->wpAny M A (drawOrder n xs) Q E s
 |0,xs,s,Q,h,q=>by
  obtain rfl:=Fh.mp h;exact ia (q [] s.drawn (.refl _))
 |n+1,[],s,Q,h,q=>by cases h
 |n+1,x::xs,s,Q,h,q=>by
  unfold drawOrder;refine aa (W3 (by simp) λi a d'=>?_);rw[jb a];dsimp only;refine aa (lO n _ _ _ (by rw[jn a];simpa using h) λys c p=>ia ?_);exact q _ c ((p.cons _).trans (zE (x::xs) i a))
noncomputable def Kw(h:Heap)(p:Addr)(ps:List Nat):Prop:=∃ o n,h.get? p=some o/\o.data=.seq (ps.map λ(i:Nat)=>rawInt i).toArray n
theorem yQ{ps:List Nat}{j:Nat}{v:Int × Value}{Q:Option Value->Shared->Prop}(b:Bp s.heap I a (.ref p) i es.size ep)(hS:Vo s.heap a es ep t)(g:t.fits es.size=true)(l:Kw s.heap p ps)(n:ps[i]?=some j)(r:es[j]?=some v)
  (q:∀ h',Bp h' I a (.ref p) (i+1) es.size ep->Oc I s.heap h'->Q (some v.2) { s with heap:=h' }):wpAny (model prog w) A (pyNext (.ref I)) Q E s:=by
 obtain⟨o,c,m,hd⟩:=id b;obtain⟨x,f,z,d⟩:=id hS;obtain⟨y,u,k,dT⟩:=l;unfold pyNext;refine aa (Yk (vd (name:=Vf "__next__") b.ty At (yc At b.ty bD ?_ (BB _))));unfold Ye.«set_iterator.__next__»;refine aa (ia (aa (Qj c hd ?_)));dsimp only[rawInt];refine aa (Af f d g ?_);rw[ga (by simp)];refine aa (LH k dT ?_);dsimp only;have e:(ps.map λ(i:Nat)=>rawInt i).toArray[(i:Int).toNat]?=some (.int (j:Int) 0):=by
  rw[Uf,dg,Xa,n];rfl
 rw[e];dsimp only;simp only[Uf];unfold setNextDrawn;refine aa (aa (We f d g ?_));dsimp only;rw[ga (by simp)];rw[r];refine ia (aa (ug c hd (by simp) ?_));have h:=cc (ge (·.setIfInBounds 1 (Md ((i:Int)+1) 0))) c (Ke (Lb hd _));refine ia ⟨_,rfl,ia (q _ ⟨_,h,?_,?_⟩ (pc ..))⟩
 ·rw[Gk];exact m
 ·rw[Lb hd];simp[rawInt]
theorem BR{ps:List Nat}{Q:Option Value->Shared->Prop}(l:A.handled=none)(b:Bp s.heap I a (.ref p) i es.size ep)(hS:Vo s.heap a es ep t)(k:t.fits es.size=true)(j:Kw s.heap p ps)(m:ps[i]?=none)
  (q:∀ h',Uq I s.heap h'->Q none { s with heap:=h' }):wpAny (model prog w) A (pyNext (.ref I)) Q E s:=by
 obtain⟨o,c,r,hd⟩:=id b;obtain⟨v,g,y,d⟩:=id hS;obtain⟨x,u,h,dT⟩:=j;unfold pyNext;refine aa (Yk (vd (name:=Vf "__next__") b.ty At (yc At b.ty bD ?_ (BB _))));unfold Ye.«set_iterator.__next__»;refine aa (ia (aa (Qj c hd ?_)));dsimp only[rawInt];refine aa (Af g d k ?_);rw[ga (by simp)];refine aa (LH h dT ?_);dsimp only;have e:(ps.map λ(i:Nat)=>rawInt i).toArray[(i:Int).toNat]?=none:=by
  rw[Uf,dg,Xa,m];rfl
 rw[e];dsimp only;refine aa (ug c hd (by simp) ?_);have f:=cc (ge (·.setIfInBounds 0 (Md 0 0))) c (Ke (Lb hd _));have d1:=Lb hd (·.setIfInBounds 0 (Md 0 0));refine aa (ug f d1 (by simp) ?_);exact LL (s:=s) (I:=I) (first:=.none) (n:=0) l ((pc ..).trans (pc ..)) q
noncomputable abbrev Ow(a:Addr)(first:Value)(n ep:Nat):Obj:={ cls:=.type "set_iterator",data:=.fields #[first,rawInt 0,.ref a,rawInt n,rawInt ep] }
noncomputable abbrev wD(ps:List Nat):Obj:={ cls:=.type "tuple",data:=.seq (ps.map λ(i:Nat)=>rawInt i).toArray }
theorem X2{Q:Value->Shared->Prop}(hS:Vo s.heap a es ep t)(b:t.fits es.size=true)(hz:es.size<scanBound)
  (h:(!bT w && (!t.plain && decide (es.size > 1)))=false->Q (.ref s.heap.objs.size) { s with heap:=s.heap.push (Ow a (rawInt 0) es.size ep) })
  (i:(!bT w && (!t.plain && decide (es.size > 1)))=true->∀ ps d',ps.Perm (List.range es.size)->Q (.ref (s.heap.objs.size+1)) { s with heap:=(s.heap.push (wD ps)).push (Ow a (.ref s.heap.objs.size) es.size ep),drawn:=d' }) :
  wpAny (model prog w) A (pyIter (.ref a)) Q E s:=by
 obtain⟨o,g,x,d⟩:=id hS;have e:s.TypeIs (.ref a) "set":=⟨o,g,x.1⟩
 refine Wy e Ho (yc Ho e SV ?_ (PySem.F.args_set_iter_1 _));unfold Ye.«frozenset.__iter__»;refine aa (ia ?_);unfold sv;refine aa (aa (Af g d b (ia ?_)));unfold setDrawn;refine aa (aa (We g d b ?_));dsimp only;refine aa (GC (ia ?_));refine Gf (λz=>?_) (λz=>?_)
 ·have c:(!bT w && (!t.plain && decide (es.size > 1)))=true:=z;refine aa (lO _ _ _ _ (by simp) λps d' f=>?_);have j:ps.length=es.size:=by rw[f.length_eq,jh]
  refine aa (wpAny_newTuple ?_ (by rw[Ta,j];exact sg hz));refine aa (Xy (ba _ g) d b ?_);unfold sB;refine aa (Ib (ia ⟨_,rfl, "set_iterator",_,⟨_,Aa _ rfl,rfl⟩,At.lookup,?_⟩) (by size_fits));have:=i c ps d' f;rw[<-dc s.heap (wD ps)]at this;exact this
 ·have c:(!bT w && (!t.plain && decide (es.size > 1)))=false:=by
   cases y:(!bT w && (!t.plain && decide (es.size > 1)))with
   |false=>rfl
   |true=>exact absurd y z
  refine aa (ia ?_);refine aa (Xy g d b ?_);unfold sB;refine aa (Ib (ia ⟨_,rfl, "set_iterator",_,⟨_,Aa _ rfl,rfl⟩,At.lookup,?_⟩) (by size_fits));exact h c
end
theorem TJ:NH "set_iterator" "__iter__" "set_iterator.__iter__":=.of (owner:="set_iterator") (n:="__iter__") (by rw[WD,yu];kernel_rfl) (by decide +kernel) (by decide +kernel) (by decide +kernel) (by first|exact .inl (by decide +kernel)|exact .inr (by decide +kernel)) (by rw[wq];kernel_rfl)
theorem GU:RH table "set_iterator.__iter__" = some Ye.«dict_keyiterator.__iter__»:=JH (id':="dict_keyiterator.__iter__") (by kernel_rfl) (by first|rfl|decide +kernel) (by decide +kernel) (by kernel_rfl)
theorem BZ(a:Value):SH "set_iterator.__iter__" ⟨[a],[]⟩:=by unfold SH;kernel_rfl
section
variable{prog:ra}{w:Ia}{A:Ja}{I a p:Addr}{es:Array (Int × Value)}{ep:Nat}{t:Bd}
theorem ZI{E:Value->Shared->Prop}{s:Shared}{first:Value}{i n:Nat}{Q:Value->Shared->Prop}(h:Bp s.heap I a first i n ep)(q:Q (.ref I) s):wpAny (model prog w) A (pyIter (.ref I)) Q E s:=by
 refine Wy h.ty TJ (yc TJ h.ty GU ?_ (BZ _));show wpAny _ _ (PySem.ret (kb I)) _ _ s;exact ia ⟨_,rfl, "set_iterator",_,h.ty,At.lookup,q⟩
theorem Bp.keep{h h':Heap}{first:Value}{i n:Nat}(x:Bp h I a first i n ep)(k:∀ o,h.get? I=some o->h'.get? I=some o):Bp h' I a first i n ep:=let ⟨o,e,r⟩:=x;⟨o,k o e,r⟩
theorem Vo.keep{h h':Heap}(x:Vo h a es ep t)(k:∀ o,h.get? a=some o->h'.get? a=some o):Vo h' a es ep t:=let ⟨o,e,r⟩:=x;⟨o,k o e,r⟩
theorem Kw.keep{h h':Heap}{ps:List Nat}(x:Kw h p ps)(k:∀ o,h.get? p=some o->h'.get? p=some o):Kw h' p ps:=let ⟨o,n,e,r⟩:=x;⟨o,n,k o e,r⟩
theorem sJ{f:Nat->Nat}{ord:List (Int × Value)}(F:A.handled=none)(r:t.fits es.size=true)(g:a≠I)(y:ord.length=es.size)
  (hn:∀ (s:Shared) (i:Nat),Vo s.heap a es ep t->i<=es.size->∀ (A:Ja) (E:Value->Shared->Prop) (Q:Option (Value × Nat)->Shared->Prop),Q ((ord[i]?).map λe=>(e.2,f (i+1))) s->wpAny (model prog w) A (Sm a (f i) i ep) Q E s) :
  S6 prog w A I [I,a] [I] es.size (λi v=>(ord[i]?).map (·.2)=some v) (λi h=>Bp h I a (rawInt (f i)) i es.size ep/\Vo h a es ep t) where
 sub:=λb hb=>by simp at hb;simp[hb]
 frame:=λ_ _ _ c x=>⟨c.1.keep λo e=>x I (by simp) o e,c.2.keep λo e=>x a (by simp) o e⟩
 item:=λi s Q E u c d=>by
  have p:i<ord.length:=by rw[y];exact u
  have j:ord[i]?=some ord[i]:=jb p;refine LV c.1 c.2 r g (v:=ord[i].2) (f':=f (i+1)) (λk l m q=>hn s i c.2 (Qc u) k l m (by rw[j];exact q)) λn C B=>?_;exact d _ n s.toks (by rw[j];rfl) ⟨C,c.2.keep λo e=>by rw[B.2 a g];exact e⟩ λb o hb e=>by rw[B.2 b (λz=>hb (by simp[z]))];exact e
 done:=λs Q E c d=>by
  have j:ord[es.size]?=none:=by rw[<-y];simp
  exact sS F c.1 c.2 r (λk l m q=>hn s es.size c.2 (ja _) k l m (by rw[j];exact q)) λn D=>d n s.toks λb o hb e=>D b o (λz=>hb (by simp[z])) e
 self:=λ_ _ _ _ c d=>ZI c.1 d
theorem JV{ps:List Nat}(D:A.handled=none)(y:t.fits es.size=true)(n:a≠I)(r:p≠I)(q:ps.Perm (List.range es.size)) :
  S6 prog w A I [I,a,p] [I] es.size (λi v=>((ps[i]?).bind λj=>es[j]?).map (·.2)=some v) (λi h=>(Bp h I a (.ref p) i es.size ep/\Vo h a es ep t)/\Kw h p ps) where
 sub:=λb hb=>by simp at hb;simp[hb]
 frame:=λ_ _ _ c l=>⟨⟨c.1.1.keep λo e=>l I (by simp) o e,c.1.2.keep λo e=>l a (by simp) o e⟩,c.2.keep λo e=>l p (by simp) o e⟩
 item:=λi s Q E F c d=>by
  have m:ps.length=es.size:=by rw[q.length_eq,jh]
  have f:i<ps.length:=by rw[m];exact F
  have g:ps[i]?=some ps[i]:=jb f;have G:ps[i]<es.size:=Wg.mp (q.mem_iff.mp (re f));have x:es[ps[i]]?=some es[ps[i]]:=nb G;refine yQ c.1.1 c.1.2 y c.2 g x λk B u=>?_;exact d _ k s.toks (by rw[g,rh,x];rfl) ⟨⟨B,c.1.2.keep λo e=>by rw[u.2 a n];exact e⟩,c.2.keep λo e=>by rw[u.2 p r];exact e⟩ λb o hb e=>by rw[u.2 b (λz=>hb (by simp[z]))];exact e
 done:=λs Q E c d=>by
  have m:ps.length=es.size:=by rw[q.length_eq,jh]
  have g:ps[es.size]?=none:=by rw[<-m];simp
  exact BR D c.1.1 c.1.2 y c.2 g λk C=>d k s.toks λb o hb e=>C b o (λz=>hb (by simp[z])) e
 self:=λ_ _ _ _ c d=>ZI c.1.1 d
theorem YS{E:Value->Shared->Prop}{s:Shared}{Q:Bool->Shared->Prop}(e:s.TypeIs (.ref a) "set")(h:Q false s):wpAny (model prog w) A (ag (.ref a)) Q E s:=by
 unfold ag;refine aa (SD e PySem.F.slot_set_len.lookup ?_);generalize d:("set.__len__" : String)=f
 wp_delta
 rw[show splitId f=some ("set", "__len__")from by subst d;decide +kernel];subst d;refine aa (kB (T:="set") (b:=true) e (by rw[wq];kernel_rfl) ?_);refine Gf (λc=>absurd c (by decide)) (λ_=>?_);refine Gf (λ_=>?_) (λc=>absurd (by decide +kernel) c);exact aa (Ti e (ia h))
end
end L4
namespace L4
open PySem PySem.Spec PySem.Calls PySem.W PyProof.Rows PyProof.V
section
variable{prog:ra}{w:Ia}{A:Ja}{E:Value->Shared->Prop}{s:Shared}{a:Addr}{es:Array (Int × Value)}{ep:Nat}{t:Bd}
theorem jF{y:Bool}{I S:Addr}{v:List Addr}{n u:Nat}{P:Nat->Value->Prop}{St:Nat->Heap->Prop}{R:bo->Shared->Prop}{d:Value}(W:S6 prog w A.in1 I v [I] n P St)(hn:n<=sizeLine)(i:S ∉ v)(H:s.TypeIs (.ref a) "set")(x:St 0 s.heap)
  (hS:s.heap.get? S=some { cls:=.type "list",data:=.seq #[] u })
  (G:∀ h' m acc c,(∀ b o,b≠S->b≠I->s.heap.get? b=some o->h'.get? b=some o)->h'.get? S=some { cls:=.type "list",dict:=none,data:=.seq acc c,slots:=#[] }->Pm P acc n->R (.ok (.ret d)) { s with heap:=h',toks:=m }) :
  wpAny (model prog w) A.in1 (do
    let l <-Ce [kb I] (ag (.ref a))
    if (l || y)=true then do
     rule "list.extend.makes-room"
     ZD (.ref S)
     again (.builtin "list.extend.loop" ⟨[.ref S,.ref I,d],[]⟩)
    else again (.builtin "list.extend.loop" ⟨[.ref S,.ref I,d],[]⟩))
   (λq g=>match q with | .done f=>R (.ok f) g | .again t=>t.quiet=true/\codeAny (model prog w) A t R g) (λe g=>R (.error e) g) s:=by
 have j:∀ (h:Heap) (p m:Nat),St 0 h->(∀ b o,b≠S->s.heap.get? b=some o->h.get? b=some o)->h.get? S=some { cls:=.type "list",data:=.seq #[] p }->codeAny (model prog w) A (.builtin "list.extend.loop" ⟨[.ref S,.ref I,d],[]⟩) R { s with heap:=h,toks:=m }:=by
  intro h p m r K D;refine codeAny_extend_loopS W.toS hn S i d n 0 _ #[] p rfl (Si _) r D (ItemsOf.nil _) λg acc c hm B J=>?_;rw[Moved.eq_with hm];refine G g.heap g.toks acc c (λb o hb E e=>hm.heap b o (λz=>?_) (K b o hb e)) B J;rcases Ca.mp z with z|z
  ·exact hb z
  ·exact E (xf.mp z)
 refine aa (Wc (YS H ?_));refine Gf (λ_=>?_) (λ_=>ia ⟨Ng gm _,j _ u _ x (λb o _ e=>e) hS⟩);refine aa (rq (aa ?_));show wpAny _ _ (updateSeq S (·.push .none) >>= λ_=>updateSeq S (·.pop)) _ _ _;refine aa (XD hS rfl ?_);have g2:=cc (Bf (·.push Sa)) hS rfl;refine XD (hz:=by seq_fits) g2 rfl ?_;have C:=cc (Bf (·.pop)) g2 rfl;have k:∀ b o,b≠S->s.heap.get? b=some o->((s.heap.update S (Bf (·.push Sa))).update S (Bf (·.pop))).get? b=some o:=λb o hb e=>(Be _ _ (Fe hb)).trans ((Be _ _ (Fe hb)).trans e);exact ia ⟨Ng gm _,j _ _ _ (W.frame 0 _ _ x λb hb o e=>k b o (λz=>i (z ▸ hb)) e) (λb o hb e=>k b o hb e) C⟩
theorem EE{a b:Type}{f:a->Option b}{g:a->b}:∀ {l:List a},(∀ j∈l,f j=some (g j))->l.filterMap f=l.map g
 |[],_=>rfl
 |x::l,h=>by rw[bf,h x Ba,za,EE λj c=>h j (wa _ c)]
theorem rU{acc:Array Value}{ord:List (Int × Value)}{n:Nat}(a:ord.length=n)(h:Pm (λi v=>(ord[i]?).map (·.2)=some v) acc n):acc.toList=ord.map (·.2):=by
 apply ih;intro i;rw[Hc,Xa];cases e:acc[i]? with
 |none=>
  have:n<=i:=by have:=Km.mp e;rw[h.1]at this;exact this
  rw[eg (by omega)];rfl
 |some v=>exact(h.2 i v e).symm
theorem e0(es:Array (Int × Value)):(List.range es.size).filterMap (λj=>(es[j]?).map (·.2))=es.toList.map (·.2):=by
 apply ih;intro i;have e:(List.range es.size).filterMap (λj=>(es[j]?).map (·.2))=(List.range es.size).map (λj=>((es[j]?).map (·.2)).getD .none):=by
  refine EE λj b=>?_;have:=Wg.mp b;simp[this]
 rw[e,Xa,Xa];by_cases a:i<es.size
 ·simp[a]
 ·simp[a]
theorem EQ{acc:Array Value}{ps:List Nat}(a:ps.Perm (List.range es.size))(h:Pm (λi v=>((ps[i]?).bind λj=>es[j]?).map (·.2)=some v) acc es.size):acc.toList.Perm (es.toList.map (·.2)):=by
 have g:ps.length=es.size:=by rw[a.length_eq,jh]
 have e:acc.toList=ps.filterMap (λj=>(es[j]?).map (·.2)):=by
  have d:ps.filterMap (λj=>(es[j]?).map (·.2))=ps.map (λj=>((es[j]?).map (·.2)).getD .none):=by
   refine EE λj f=>?_;have:=Wg.mp (a.mem_iff.mp f);simp[this]
  rw[d];apply ih;intro i;rw[Hc,Xa];cases b:acc[i]? with
  |none=>
   have:es.size<=i:=by have:=Km.mp b;rw[h.1]at this;exact this
   rw[eg (by omega)];rfl
  |some v=>
   have this:((ps[i]?).bind λj=>es[j]?).map (·.2)=some v:=h.2 i v b;cases c:ps[i]? with
   |none=>rw[c]at this;cases this
   |some j=>rw[c]at this;simp only[rh]at this;rw[zg,this];rfl
 rw[e,<-e0];exact a.filterMap _
theorem RU{R:List Value->Shared->Prop}(V:A.handled=none)(hA:Vo s.heap a es ep t)(H:t.fits es.size=true)(hk:ij (bT w) t)(hz:es.size<scanBound)
  (B:∀ h' h d' (acc:Array Value),(∀ b o,s.heap.get? b=some o->h'.get? b=some o)->s.heap.objs.size<=h'.objs.size->acc.toList.Perm (es.toList.map (·.2))->R acc.toList { s with heap:=h',toks:=h,drawn:=d' }) :
  wpAny (model prog w) A (gz (.ref a)) R E s:=by
 have hn:es.size<=sizeLine:=sg hz;have la:a<s.heap.objs.size:=let ⟨_,g,_⟩:=hA;pa g;let S:Addr:=s.heap.objs.size;let Z:bo->Shared->Prop:=λq m=>∃ (h':Heap) (h:Nat) (d':mv) (acc:Array Value) (c:Nat),q=.ok (.ret (.ref S))/\m={ s with heap:=h',toks:=h,drawn:=d' }/\(∀ b o,s.heap.get? b=some o->h'.get? b=some o)/\
  h'.get? S=some { cls:=.type "list",dict:=none,data:=.seq acc c,slots:=#[] }/\acc.toList.Perm (es.toList.map (·.2))
 let s1:Shared:={ s with heap:=s.heap.push { cls:=.type "list",data:=.seq ([]:List Value).toArray } }
 have O:s1.heap.get? S=some { cls:=.type "list",data:=.seq #[] }:=Aa _ rfl;have n:Vo s1.heap a es ep t:=hA.keep λo e=>ba _ e;have J:s1.heap.objs.size=S+1:=dc ..;have run:wpAny (model prog w) A.in1 (ve (.ref S) (.ref a) (.ref S)) (λB m=>match B with | .done f=>Z (.ok f) m | .again Y=>Y.quiet=true/\codeAny (model prog w) A Y Z m) (λe m=>Z (.error e) m) s1:=by
  have P:s1.TypeIs (.ref a) "set":=let ⟨o,g,x,_⟩:=n;⟨o,g,x.1⟩;unfold ve;refine aa (Ti (T:="set") P ?_);have ns:ek (.ref S) (.ref a)=false:=by simp only[ek,kc];exact De la
  have n1:(uf "set" == uf "list")=false:=by decide
  have n2:(uf "set" == uf "tuple")=false:=by decide
  simp only[ns,n1,n2,Bool.or_false,wf,Ph];refine aa (X2 n H hz (λU=>?_) (λU ps d' I=>?_))
  ·have N:Bp (s1.heap.push (Ow a (rawInt 0) es.size ep)) s1.heap.objs.size a (rawInt 0) 0 es.size ep:=⟨_,Aa _ rfl,rfl,rfl⟩
   have d:Vo (s1.heap.push (Ow a (rawInt 0) es.size ep)) a es ep t:=n.keep λo e=>ba _ e;have r:on { s1 with heap:=s1.heap.push (Ow a (rawInt 0) es.size ep) } (.ref a) "set":=let ⟨o,g,x,_⟩:=d;⟨o,g,x.1⟩;have L:a≠s1.heap.objs.size:=by rw[J];exact ua (zb la)
   have K:S ∉ [s1.heap.objs.size,a]:=by rw[J];simp only[Ca,qe,Wk,N6];exact⟨ua (yb _),De la⟩
   have out:∀ (ord:List (Int × Value)),ord.length=es.size->ord.Perm es.toList->∀ h' h acc c,(∀ b o,b≠S->b≠s1.heap.objs.size->(s1.heap.push (Ow a (rawInt 0) es.size ep)).get? b=some o->h'.get? b=some o)->h'.get? S=some { cls:=.type "list",dict:=none,data:=.seq acc c,slots:=#[] }->
     Pm (λi v=>(ord[i]?).map (·.2)=some v) acc es.size->Z (.ok (.ret (.ref S))) { s1 with heap:=h',toks:=h }:=λord D I h' h acc c k g u=>⟨h',h,s.drawn,acc,c,rfl,rfl,λb o e=>by
      have M:=pa e;exact k b o (ua M) (by rw[J];exact ua (zb M)) (ba _ (ba _ e)),g,by rw[rU D u];exact I.map _⟩
   cases hb:bT w with
   |true=>
    have D:(fo (w.params.setOrder a ep) es).toList.length=es.size:=by rw[(PJ _ _).length_eq,pb]
    exact jF (sJ (f:=λ_=>0) (ord:=(fo (w.params.setOrder a ep) es).toList) V H L D λm i C _ A' E' Q' X=>O1 hb C H (by rw[<-Hc];exact X)) hn K r ⟨N,d⟩ (ba _ O) (out _ D (PJ _ _))
   |false=>
    have I:(!t.plain && decide (es.size > 1))=false:=by rw[hb]at U;simpa using U
    have D:es.toList.length=es.size:=pb;exact jF (sJ (f:=fB t.place) (ord:=es.toList) V H L D λm i C hi A' E' Q' X=>rX hb hk I hi C H (by rw[<-Hc];exact X)) hn K r ⟨N,d⟩ (ba _ O) (out _ D (.refl _))
  ·let G:Heap:=(s1.heap.push (wD ps)).push (Ow a (.ref s1.heap.objs.size) es.size ep);have W:∀ b o,s1.heap.get? b=some o->G.get? b=some o:=λb o e=>ba _ (ba _ e);have z2:(s1.heap.push (wD ps)).objs.size=s1.heap.objs.size+1:=dc ..;have N:Bp G (s1.heap.objs.size+1) a (.ref s1.heap.objs.size) 0 es.size ep:=⟨_,by rw[<-z2];exact Aa _ rfl,rfl,rfl⟩
   have d:Vo G a es ep t:=n.keep λo e=>W a o e;have Q:Kw G s1.heap.objs.size ps:=⟨_,_,ba _ (Aa _ rfl),rfl⟩
   have r:on { s1 with heap:=G,drawn:=d' } (.ref a) "set":=let ⟨o,g,x,_⟩:=d;⟨o,g,x.1⟩;refine jF (s:={ s1 with heap:=G,drawn:=d' }) (JV (p:=s1.heap.objs.size) V H (by rw[J];exact ua (zb (zb la))) (ua (yb _)) I) hn (by rw[J];simp only[Ca,qe,Wk,N6];exact⟨ua (zb (yb _)),De la,ua (yb _)⟩) r ⟨⟨N,d⟩,Q⟩ (W _ _ O) λh' h acc c k g u=>⟨h',h,d',acc,c,rfl,rfl,λb o e=>?_,g,EQ I u⟩
   have M:=pa e;exact k b o (ua M) (by rw[J];exact ua (zb (zb M))) (W b o (ba _ e))
 have j:∀ {h':Heap} {h c:Nat} {d':mv} {acc:Array Value},(∀ b o,s.heap.get? b=some o->h'.get? b=some o)->h'.get? S=some { cls:=.type "list",dict:=none,data:=.seq acc c,slots:=#[] }->acc.toList.Perm (es.toList.map (·.2))->R acc.toList { s with heap:=h',toks:=h,drawn:=d' }:=λkp g u=>B _ _ _ _ kp (Qc (pa g)) u;unfold gz;refine aa (vq (je jv ?_));rw[Nc Xk _];show wpAny _ A.in1 (M4 [] >>= λl=>again (.builtin "list.__iadd__" ⟨[l,.ref a],[]⟩)) _ _ s;refine aa (Ib (ia ⟨Ng mf _,je jB ?_⟩));rw[Nc mf _];show wpAny _ A.in1 (ve (.ref S) (.ref a) (.ref S)) _ _ _;refine Uc run (λf m x=>?_) (λe m x=>by obtain⟨_,_,_,_,_,z,_⟩:=x;cases z);cases f with
 |done f=>
  obtain⟨h',h,d',acc,c,e,rfl,kp,g,u⟩:=x;cases e;exact aa (Vl g (ia (j kp g u)))
 |again c1=>
  refine⟨x.1,qf x.2 λq s2 y=>?_⟩;obtain⟨h',h,d',acc,c,rfl,rfl,kp,g,u⟩:=y;exact aa (Vl g (ia (j kp g u)))
end
end L4
namespace L4
open PySem PySem.Spec PyProof.Rows L2
theorem l0(ns:List Int):(Jj ns).Nodup:=by
 unfold Jj;have h:∀ (l acc:List Int),acc.Nodup->(l.foldl Ix acc).Nodup:=by
  intro l;induction l with
  |nil=>intro acc h;exact h
  |cons x l f=>
   intro acc h;rw[sf];refine f _ ?_;unfold Ix;split
   ·exact h
   ·rename_i d
    rw[Zj];refine⟨h,by simp,λa c b hb=>?_⟩;rw[xf]at hb;intro e;subst e;subst hb;exact d (kg.mpr ⟨_,c,by simp⟩)
 exact h ns [] dn
theorem WI{c:Type}[DecidableEq c]:∀ {l1 l2:List c},l1.Nodup->(∀ x∈l1,x∈l2)->l2.length<=l1.length->l1.Perm l2
 |[],l2,_,_,h=>by
  have:l2=[]:=Fh.mp (Nat.le_zero.mp h);subst this;exact .refl _
 |x::l1,l2,hn,hs,d=>by
  rw[gd]at hn;have a:=hs x Ba;have p:=List.perm_cons_erase a;have f:=WI (l1:=l1) (l2:=l2.erase x) hn.2 (λy b=>(List.mem_erase_of_ne (show y≠x from λe=>hn.1 (by rw[<-e];exact b))).mpr (hs y (wa _ b))) (by rw[List.length_erase_of_mem a];simp at d;omega);exact(f.cons x).trans p.symm
theorem xM:∀ {prog:ra} {w:Ia} {l:List (Int × Value)},Tp (Le prog w) l->∃ c,oh (l.map (·.2)) c/\c.length=l.length/\∀ k,k∈c ↔ ∃ e∈l,(Le prog w).is k e.2=true
 |prog,w,[],_=>⟨[],.nil,rfl,λk=>by simp⟩
 |prog,w,e::l,h=>by
  obtain⟨c,g,i,j⟩:=xM (λx a=>h x (.tail _ a):Tp (Le prog w) l);obtain⟨⟨k,d,_⟩,_⟩:=h e (.head _);have b:=d;obtain⟨t,f⟩:=ts d;refine⟨k::c,by rw[za,f];exact .cons k t g,by simp[i],λm=>?_⟩;rw[Ca,j m];constructor
  ·rintro (rfl|⟨x,a,q⟩)
   ·exact⟨e,.head _,b⟩
   ·exact⟨x,.tail _ a,q⟩
  ·rintro ⟨x,a,q⟩;rcases Ca.mp a with rfl|a
   ·exact .inl ((Le prog w).inj _ _ _ q b)
   ·exact .inr ⟨x,a,q⟩
theorem F3{l g:List Value}(p:g.Perm l):∀ {is:List Int},oh l is->∃ a,oh g a/\a.Perm is:=by
 induction p with
 |nil=>intro is h;exact⟨is,h,.refl _⟩
 |cons x p k=>
  intro is h;cases h with
  |cons n t h=>obtain⟨a,b,c⟩:=k h;exact⟨n::a,.cons n t b,c.cons n⟩
 |swap x y l=>
  intro is h;cases h with
  |cons n t h=>
   cases h with
   |cons m u h=>exact⟨m::n::_,.cons m u (.cons n t h),.swap _ _ _⟩
 |trans q r d e=>
  intro is h;obtain⟨o,b,c⟩:=e h;obtain⟨f,i,j⟩:=d b;exact⟨f,i,j.trans c⟩
noncomputable def ly(P:ra)(w:Ia)(ns:List Int)(a:Addr):Heap->Prop:=λh=>aq (Le P w) (bT w) h a (λk=>(Jj ns).any (·== k)) (Jj ns).length
theorem nY{P:ra}{w:Ia}{ns:List Int}{a:Addr}:∀ b h2:Heap,ly P w ns a b->(∀ u,b.get? a=some u->h2.get? a=some u)->ly P w ns a h2:=λb h2 x k=>kH x k
section
variable{T:Tb}{X:Cx}
noncomputable def Z2(X:Cx):List V->Hp->VK->Prop:=λxs H Q=>∃ (p:Addr) (ns:List Int),xs=[.ref p]/\zf X.K H p (ns.map V.int)/\ns.length<64/\∀ l,H l=none->Q (.ref l) (upd H l (.ext (ly X.prog X.w ns l)))
theorem qX(i:X.calm=true):Zl X (.type "set") (Z2 X):=by
 intro d s x H xs y Q I r h;obtain⟨p,ns,rfl,l,k,q⟩:=h;obtain⟨u,rfl,m⟩:=Yr r;cases m;obtain⟨a,f,pl,v⟩:=I.list l;have c:a.length=ns.length:=by rw[<-f.length,Ta]
 refine SW (I.ok.hd i) pl.isList (ns:=ns) (AE f) (by rw[xa,c];exact GO (Qa (Qc k) (by decide))) λt n hs j=>?_;rw[show a.toArray.size=ns.length by rw[xa,c],VF]at hs;refine⟨.ref s.heap.objs.size,_,I.laid (t':=n) (o:=.ext (ly X.prog X.w ns s.heap.objs.size)) (λb o e=>j b o (pa e) e) (ja _) ?_,rfl,q _ (I.Pb.fresh (ja _))⟩;exact⟨hs,let ⟨o,_,_,_,g,_⟩:=hs;⟨o,g⟩,nY⟩
theorem T1{a:List (Addr × Obj)}{b:St}{H:Hp}{s:Shared}(I:Inv X a b H s)(d':mv):Inv X a b H { s with drawn:=d' }:=⟨I.ok,I.os,I.bare,I.base,I.loc,I.cell,I.free,I.zh,I.pin,I.Pb,I.len⟩
noncomputable def yY(X:Cx):List V->Hp->VK->Prop:=λxs H Q=>∃ (a:Addr) (ns:List Int),xs=[.ref a]/\H a=some (.ext (ly X.prog X.w ns a))/\ns.length<64/\(Jj ns).length<=ns.length/\∀ l,H l=none->Q (.ref l) (upd H l (.lst ((Wm (Jj ns)).map V.int)))
theorem vS(S:X.calm=true):Zl X (.builtin "sorted") (yY X):=by
 intro z s σ H xs us Q I r h;obtain⟨a,ns,rfl,hH,P,T,q⟩:=h;obtain⟨u,rfl,rx⟩:=Yr r;cases rx;obtain⟨⟨o,j,ep,t,G,g2,J,K,L,v,M,N,O⟩,_,_⟩:=I.Pb a _ hH;obtain⟨is,Z,i2,i3⟩:=xM K;have W:is.Perm (Jj ns):=(WI (l0 ns) (λx Y=>(i3 x).mpr ((L x).mp (kg.mpr ⟨x,Y,by simp⟩))) (by rw[i2,pb,N];exact ja _)).symm;have f:j.size<64:=by omega
 have hn:j.size<=sizeLine:=sg v;refine gn K6 A4 B4 (D4 _) ?_;unfold Ye.«sorted»;refine aa (m:=checkCount "sorted" 1 1 _) (ia ?_);refine aa (RU (A:=X.A.in1) (I.ok.hd S) ⟨o,G,g2,J⟩ M O v λi tk E acc kp g c=>?_);obtain⟨a0,R,l⟩:=F3 c Z;have y:acc.toList.length=j.size:=by rw[c.length_eq,Ta,pb]
 refine aa (ZP ?_ (by rw[y];exact hn));have d:(i.push (QH "list" acc.toList.toArray 0)).get? i.objs.size=some (QH "list" acc.toList.toArray 0):=Aa _ rfl;refine aa (Wc (yc FH ⟨_,d,rfl⟩ TD (GH d R (by rw[y];exact f) λout n B C D=>⟨_,rfl,?_⟩) (HH _)));refine ia ⟨_,rfl,?_⟩;have F:n=Wm (Jj ns):=Hz (C.trans (l.trans (W.trans (ax _).symm))) D (wB _);subst F;have k:=(ax (Jj ns)).length_eq;obtain⟨e,U⟩:=aQ (out:=out) d;exact⟨.ref i.objs.size,_,(T1 I E).laid (t':=tk) (λb o p=>by
  have lt:b<i.objs.size:=pa (kp b o p);rw[IH (ua lt) (by rw[size_push'];exact zb lt)];exact ba _ (kp b o p)) g (show Wh X.prog X.w _ _ _ (.lst ((Wm (Jj ns)).map V.int))from⟨by rw[Ta,k];exact Qa (show (Jj ns).length<=1000 by omega) (by decide),out.toList,e,pA B,by rw[rg];exact U⟩),rfl,q _ (I.Pb.fresh g)⟩
noncomputable def Cw(x:D):M D:=λa=>match (Dh a x).bind xt with
 |some ns=>if ns.length<64 then Xw ((Wm (Jj ns)).map D.int) a else .bad
 |none=>.bad
theorem UT(ns:List Int):(Jj ns).length<=ns.length:=by rw[<-VF];exact Ex _ _
theorem CJ{μ:List Addr}{H:Hp}:∀ (a:List Int),Ra T μ H (a.map D.int) (a.map V.int)
 |[]=>Ra.nil
 |i::a=>Ra.cons (by rw[Rep]) (CJ a)
theorem EW{e:Ea}{f:Ev->M D}{p j pos b:se}(Z:T.K=X.K)(y:X.calm=true)(L:Gl X "sorted")(hm:X.mg "sorted" = none)(q:Gl X "set")(r:X.mg "set" = none)(J:FE T X e f)
  (hs:na [e] X.env=(false,Gb e X.env)::na [] X.env:=by rfl) (u:(vc b (na [] X.env)).any (·.1)=false:=by rfl)
  (i:na [.Call (.Name "set" j) [e] [] b] X.env=(false,Gb (.Call (.Name "set" j) [e] [] b) X.env)::na [] X.env:=by rfl) (g:(vc pos (na [] X.env)).any (·.1)=false:=by rfl) :
  FE T X (.Call (.Name "sorted" p) [.Call (.Name "set" j) [e] [] b] [] pos) (Xd Cw f):=by
 intro k s R H Q I h;refine FC (vS y) L hm L4.RE (eu (nH (qX y) q r rfl (eu J zv hs) (by decide) (by decide) hs u) zv i) (by decide) (by decide) i g k s R H Q I ?_;obtain⟨S,V,W,G,O,N⟩:=h;refine⟨S,V,W,G,O,N.bind λd x U v Y _ e1 z P c=>?_⟩;unfold Cw at c;cases n:(Dh x d).bind xt with
 |none=>rw[n]at c;exact c.elim
 |some ns=>
  rw[n]at c;dsimp only at c;by_cases m:ns.length<64
  ·rw[da m]at c;obtain⟨ys,A,B⟩:=rf.mp n;obtain⟨a,vs,rfl,E,F⟩:=z.ls P A;have C:=rC F B;subst C;refine⟨a,ns,rfl,zf.of E,m,λl hn=>⟨l,ns,rfl,fg,m,UT ns,λl2 t=>?_⟩⟩;have j:=Cb.mono (Lj (o:=.ext (ly X.prog X.w ns l)) hn) c;exact Jx j (z.fresh hn) (CJ _) t
  ·rw[ga m]at c;exact c.elim
end
section
variable{X:Cx}{pins:List (Addr × Obj)}{σ:St}{H:Hp}{s:Shared}
theorem _root_.L2.Inv.freeze{a:Addr}{kvs:List (Key × V)}{od:Obj}(I:Inv X pins σ H s)(hd:H a=some (.dK kvs))(e:s.heap.get? a=some od):Inv X pins σ (upd H a (.rb od (.dK kvs))) s:=by
 have ne:∀ b u,H b=some u->u≠.dK kvs->b≠a:=λb u q n z=>by rw[z,hd]at q;exact n (qb q).symm
 refine I.step (g':=s.gens) (d':=s.drawn) (t':=s.toks) (h':=s.heap) (ch:=[]) (λ_ z=>nomatch z) (λb o _ _ _ q _=>q) (λb o _ _ _ q _=>⟨o.slots,q⟩) (λb o _ q n=>?_) (λb o _ q=>⟨o,q⟩)
  (λb xs q=>by rw[we (ne b _ q (λz=>by cases z))];exact q) (λb u xs q=>by rw[we (ne b _ q (λz=>by cases z))];exact q) (λb d q=>⟨#[],by rw[we (ne b _ q (λz=>by cases z)),q];simp⟩) (λm hm=>hm) (λb u q=>?_) I.bare
 ·rw[we (λz=>by rw[z,hd]at n;cases n)];exact n
 ·by_cases hb:b=a
  ·subst hb;rw[fg]at q;cases q;exact⟨e,I.Pb b _ hd⟩
  ·rw[we hb]at q;exact(I.Pb b u q).Ql (λc v _ z=>z) (λc z=>by rw[we (ne c _ z (λy=>by cases y))];exact z) λc xs z=>by rw[we (ne c _ z (λy=>by cases y))];exact z
theorem Zu{a:Addr}{kvs:List (Key × V)}{od:Obj}(I:Inv X pins σ H s)(hd:H a=some (.rb od (.dK kvs))):∃ vs es ep,KV kvs vs/\od.data=.dict es ep/\s.heap.DictAt (Ik X.prog X.w) a vs ep:=by
 obtain⟨e,_,_,vs,rel,o,es,ep,c,ex,b,r⟩:=I.Pb a _ hd;rw[e]at c;cases c;exact⟨vs,es,ep,rel,b,od,es,e,ex,b,r⟩
end
noncomputable def Itm(d:Addr)(od:Obj)(kvs:List (Key × V)):It:=
 ⟨λi H=>H d=some (.rb od (.dK kvs))/\∃ x,kvs[i]?=some x,λi H v a=>∃ p k x,H p=none/\v=.ref p/\kvs[i]?=some (k,x)/\a=upd H p (.tup [kV k,x]),λi H=>H d=some (.rb od (.dK kvs))/\i=kvs.length⟩
theorem FB{c:Type}:∀ {kvs:List (c × V)} {vs:List (c × Value)} (r:KV kvs vs) (i:Nat) {k:c} {x:V},kvs[i]?=some (k,x)->∃ u,vs[i]?=some (k,u)/\Zc x u
 |_,_,.nil,i,_,_,h=>by simp at h
 |_,_,.cons (b:=q) a b,0,k,x,h=>by
  simp only[Gh,Gg]at h;obtain⟨d,e⟩:=a;rw[h]at d e;exact⟨q.2,by simp only[Gh,Gg];exact GP d.symm rfl,e⟩
 |_,_,.cons a b,i+1,k,x,h=>by
  simp only[zp]at h ⊢;exact FB b i h
theorem xK{P:ra}{w:Ia}{k:Key}{v:Value}(h:(Ik P w).is k v=true):Zc (kV k) v:=by
 rcases Vs (k:=k) (v:=v) h with⟨i,t,rfl,rfl⟩|⟨x,t,rfl,rfl⟩
 ·exact⟨t,rfl⟩
 ·exact⟨t,rfl⟩
theorem YW{P:ra}{w:Ia}{K:W.Frag}{j:List Ea}{kk:Nat}{pos:se}(d it:Addr)(od:Obj)(kvs:List (Key × V))(Z:d≠it){es:Array Hs}{ep:Nat}(n:od.data=.dict es ep) :
  Turn P w K (.Tuple j kk pos) (Itm d od kvs) [it] it (λi h=>∃ ok f,IsItemIter h it d i kvs.length ep ok f) where
 mem:=by simp
 obj:=λi h c b hb=>by
  obtain⟨ok,f,a⟩:=c;obtain rfl:b=it:=by simpa using hb
  exact⟨_,a,λv z=>by cases z⟩
 keep:=λi h M c k=>by
  obtain⟨ok,f,a⟩:=c;exact⟨ok,f,k it (by simp) _ a⟩
 item:=by
  intro X D L C N i r s σ H E I t c G;subst D L C;obtain⟨hd,⟨k,x⟩,R⟩:=G;obtain⟨vs,B,y,rel,g,hm⟩:=Zu I hd;rw[n]at g;cases g;obtain⟨u,hu,ru⟩:=FB rel i R;obtain⟨ok,f,a⟩:=c;rw[rel.length]at a;refine wpAny_pyNext_items_item a hm hu λe M m ho U a0 Y=>?_;have l:s.heap.objs.size≠it:=De (pa a);refine⟨.ref s.heap.objs.size,rfl,wpAny_letOwnedTupleGo_items ho λT J p=>?_⟩;have hn:H s.heap.objs.size=none:=I.Pb.fresh (ja _);have F:T.get? s.heap.objs.size=some { cls:=.type "tuple",data:=.seq #[e,u] }:=p.extBut _ _ l U;refine⟨.ref s.heap.objs.size,upd H s.heap.objs.size (.tup [kV k,x]),I.Fv (t':=s.toks) (o:=.tup [kV k,x]) (its:=[it]) (λb o hb q=>p.extBut b o (λz=>hb (by simp[z])) (Y b o (λz=>hb (by simp[z])) q)) t (ja _) ?_,rfl,⟨_,k,x,hn,rfl,R,rfl⟩,⟨e,u,by rw[rel.length];exact J⟩,λb hb=>?_⟩
  ·exact⟨(show (2:Nat)<=sizeLine by decide),[e,u],.cons (xK m) (.cons ru .nil),⟨_,F,rfl,_,rfl⟩⟩
  ·obtain rfl:b=it:=by simpa using hb
   rw[we (λz=>l z.symm)];exact(t b hb).1
 done:=by
  intro X D L C N i r s σ H E I t c G;subst D L C;obtain⟨hd,O⟩:=G;obtain⟨vs,B,y,rel,g,hm⟩:=Zu I hd;rw[n]at g;cases g;obtain⟨ok,f,a⟩:=c;rw[rel.length]at a O;exact wpAny_pyNext_items_end (I.ok.hd N) a hm (by rw[O];simp) λM S=>⟨rfl,I.Lv (t':=s.toks) (its:=[it]) (λb o hb q=>S b o (λz=>hb (by simp[z])) q) t⟩
 self:=λA i s Q E c h=>by
  obtain⟨ok,f,a⟩:=c;exact W.kcp_self a h
noncomputable def Tk(l a:Addr):Heap->Prop:=λh=>h.IsItemsView l a
noncomputable def N3:V->List V->Hp->VK->Prop:=λx xs H Q=>∃ a b,x=.ref a/\xs=[]/\Rd H a (.dK b)/\∀ l,H l=none->Q (.ref l) (upd H l (.ext (Tk l a)))
theorem Qu{H:Hp}{a:Addr}{o:HO}(h:H a=some o):upd H a o=H:=by
 funext b;unfold upd;split
 ·next e=>rw[e,h]
 ·rfl
theorem Dw(h:Heap)(o:Obj)(a:o.data≠.freed):(h.push o).get? h.objs.size=some o:=by
 obtain⟨c,d,x,b⟩:=o;simp[Heap.get?,Heap.push];cases x<;>first|rfl|exact absurd rfl a
section
variable{T:Tb}{X:Cx}{elts:List Ea}{kk:Nat}{p0:se}
theorem OK:Tr X "dict.items" N3:=by
 intro f s r H x u v t Q I j i h;obtain⟨a,g,rfl,rfl,hH,q⟩:=h;cases j;cases i;obtain⟨z,hd,l,rel,d⟩:=gr I.Pb hH;refine Nt kh d.typeIs PySem.F.entry_dict_items (PySem.F.args_dict_items_1 _) (meets_dict_items (Ik X.prog X.w) a hd) ⟨⟨l,d⟩,?_⟩;refine⟨.ref s.heap.objs.size,_,I.laid (t':=s.toks) (o:=.ext (Tk s.heap.objs.size a)) (λb o e=>ba _ e) (ja _) ?_,rfl,q _ (I.Pb.fresh (ja _))⟩;refine⟨⟨_,Dw _ _ (λz=>by cases z),rfl,rfl⟩,⟨_,Dw _ _ (λz=>by cases z)⟩,λm n p k=>?_⟩;obtain⟨o,e,c⟩:=p;exact⟨o,k o e,c⟩
noncomputable def VW(e:TE):TI:=λf H R=>e f H λv c=>∃ l a b,v=.ref l/\c l=some (.ext (Tk l a))/\Rd c a (.dK b)/\∀ d,c a=some (.dK b)\/c a=some (.rb d (.dK b))->R (Itm a d b) (upd c a (.rb d (.dK b)))
theorem cM{f:Ea}{p:TE}(y:PE X f p):PI X (.Tuple elts kk p0) f (VW p):=by
 intro i s r H R I h;refine Ad (y i s r H _ I h) λv s1 ⟨x,H1,j,D,C⟩=>?_;obtain⟨l,a,c,rfl,A,d,q⟩:=C;cases D;obtain⟨g,n,k⟩:∃ g,(H1 a=some (.dK c)\/H1 a=some (.rb g (.dK c)))/\Inv X i r (upd H1 a (.rb g (.dK c))) s1:=by
  rcases d with d|⟨g,d⟩
  ·obtain⟨_,_,E,rel,o,w,u,e,_⟩:=j.Pb a _ d;exact⟨o,.inl d,j.freeze d e⟩
  ·exact⟨g,.inr d,by rw[Qu d];exact j⟩
 obtain⟨E,w,u,rel,t,hm⟩:=Zu k fg;have B:s1.heap.IsItemsView l a:=(j.Pb l _ A).1;have m:a≠s1.heap.objs.size:=ua hm.lt_size;refine wpAny_pyIter_items B hm ?_;refine⟨s1.heap.objs.size,[s1.heap.objs.size],_,Itm a g c,_,rfl,k.kept (t':=s1.toks) (λb o e=>ba _ e),YW a _ g c m t,⟨.none,.none,by rw[rel.length];exact Dw _ _ (λz=>by cases z)⟩,λb hb=>?_,q g n⟩;obtain rfl:b=s1.heap.objs.size:=by simpa using hb
 exact k.Xp (ja _) (k.Pb.fresh (ja _))
noncomputable def Fn(a:List (Key × D)):NX:=λi _=>match a[i]? with
 |some p=>some (some (.tup [Yp p.1,p.2]))
 |none=>if i=a.length then some none else none
noncomputable def rO(d:D):M NX:=λb=>match d with
 | .va a xs=>if a.length=xs.length then .ok (Fn (a.zip xs)) b else .bad
 |_=>.bad
noncomputable def qw(f:Ev->M D):Ev->M NX:=λa=>Fc (f a) rO
theorem GF{μ:List Addr}{H:Hp}(k:Key):Rep T μ H (Yp k) (kV k):=by
 cases k<;>(unfold Yp kV;rw[Rep])
theorem zF{μ:List Addr}{H:Hp}{a:Addr}{od:Obj}{kvs:List (Key × V)}(c:H a=some (.dK kvs)):Ext μ H μ (upd H a (.rb od (.dK kvs))):=by
 have ne:∀ b u,H b=some u->u≠.dK kvs->b≠a:=λb u q n z=>by rw[z,c]at q;exact n (qb q).symm
 refine⟨⟨[],by simp⟩,λp xs h=>by rw[we (ne p _ h (λz=>by cases z))];exact h,λp o u h=>by rw[we (ne p _ h (λz=>by cases z))];exact h,λp o h n=>⟨?_,n⟩⟩;by_cases e:p=a
 ·subst e;rw[c]at h;cases h;exact⟨_,fg,.inr (.inl ⟨od,kvs,rfl,rfl⟩)⟩
 ·exact⟨o,by rw[we e];exact h,.inl rfl⟩
theorem oz{c d:Type}{R:c->d->Prop}:∀ {xs:List c} {ys:List d},Paired R xs ys->∀ (i:Nat) {x:c},xs[i]?=some x->∃ y,ys[i]?=some y/\R x y
 |_,_,.nil,i,_,h=>by simp at h
 |_,_,.cons a b,0,x,h=>by
  simp only[Gh,Gg]at h ⊢;subst h;exact⟨_,rfl,a⟩
 |_,_,.cons a b,i+1,x,h=>by
  simp only[zp]at h ⊢;exact oz b i h
theorem nJ{e:Ea}{f:Ev->M D}{j k:se}(h:FE T X e f)(m:Yc e "items" X.env (Gb e X.env)=Gb e X.env:=by rfl)(o:(j.endLine == k.line)=true:=by rfl) :
  Bu T X (.Tuple elts kk p0) (.Call (.Attribute e "items" j) [] [] k) (qw f):=by
 intro G s st H R I hw;refine cM (RF pf kh ln OK h m o) G s st H R I ?_;obtain⟨μ,ρ,σ,hE,hr,hp⟩:=hw;refine⟨μ,ρ,σ,hE,hr,hp.bind λd σ1 c v g _ e1 r1 Z w=>?_⟩;unfold rO at w;cases d with
 |va J xs=>
  dsimp only at w;by_cases W:J.length=xs.length
  ·rw[da W]at w;rw[Rep]at Z;obtain⟨a,kvs,rfl,hn,n,N,O⟩:=Z;refine⟨⟨a,kvs,rfl,n⟩,a,kvs,rfl,rfl,n,λl t=>?_⟩;have P:a≠l:=by rcases n with n|⟨_,n⟩<;>exact bn n t
   have L:Rd (upd g l (.ext (Tk l a))) a (.dK kvs):=by unfold Rd;rw[we P];exact n
   refine⟨l,a,kvs,rfl,fg,L,λod A=>?_⟩;have x1:Ext c g c (upd g l (.ext (Tk l a))):=Lj t;have x:Rel T c (upd g l (.ext (Tk l a))) σ1:=r1.fresh t;obtain⟨x2,Q⟩:Ext c g c (upd (upd g l (.ext (Tk l a))) a (.rb od (.dK kvs)))/\Rel T c (upd (upd g l (.ext (Tk l a))) a (.rb od (.dK kvs))) σ1:=by
    rcases A with A|A
    ·have y:=zF (μ:=c) (od:=od) A;exact⟨x1.trans y,x.keep y (λb hb=>we (λz=>hn (by rw[<-z];exact hb))) (x.tb.out (λb hb=>we hb) (.inr ⟨_,A⟩))⟩
    ·rw[Qu A];exact⟨x1,x⟩
   have h3:upd (upd g l (.ext (Tk l a))) a (.rb od (.dK kvs)) a=some (.rb od (.dK kvs)):=fg;generalize upd (upd g l (.ext (Tk l a))) a (.rb od (.dK kvs))=H3 at *;refine Cb.here (R:=uo T) (Cb.mono x2 w) Q λS U a0 i ex r2=>?_;have V:U a=some (.rb od (.dK kvs)):=ex.rb _ _ _ h3;have E:yf T S U (J.zip xs) kvs:=yf.mono (x2.trans ex) (OA N O);unfold Fn;cases ei:(J.zip xs)[i]? with
   |none=>
    dsimp only;by_cases K:i=(J.zip xs).length
    ·rw[da K];exact⟨V,by rw[K];exact Paired.length E⟩
    ·rw[ga K];trivial
   |some p=>
    obtain⟨q,Y,C,rx⟩:=oz E i ei;refine⟨⟨V,q,Y⟩,λz H' y=>?_⟩;obtain⟨r,k',x',u,rfl,B,rfl⟩:=y;rw[Y]at B;cases B;dsimp only at C rx;refine⟨Lj u,r2.fresh u,?_⟩;rw[Rep,C];exact⟨r,_,rfl,fg,Ra.cons (GF _) (Ra.cons (Rep.mono (Lj u) _ _ rx) Ra.nil)⟩
  ·rw[ga W]at w;exact w.elim
 |_=>exact w.elim
end
noncomputable def bi(nx:NX)(n:Nat)(tg:D->Ev->Option Ev)(fi:Ev->M Bool)(fe:Ev->M D):Nat->Nat->Ev->M Unit
 |0,_,_=>bad
 |k+1,i,e=>λb=>match nx i b with
  |none=>.bad
  |some none=>.ok () b
  |some (some d)=>match tg d e with
   |none=>.bad
   |some a=>Fc (Co (fi a)) (λc=>if c=true then Fc (Co (fe a)) λy=>Fc (fu (.ref n) [y]) λ_=>bi nx n tg fi fe k (i+1) a else bi nx n tg fi fe k (i+1) a) b
noncomputable def IC(tg:D->Ev->Option Ev)(fi:Ev->M Bool)(fe:Ev->M D)(ρ:Ev)(nx:NX):M D:=λa=>
 Fc (bi nx a.length tg fi fe 1001 0 ρ) (λ_=>ret (.ref a.length)) (a++[.lst []])
noncomputable def mo(src:Ev->M NX)(ix:List Nat)(tg:D->Ev->Option Ev)(fi:Ev->M Bool)(fe:Ev->M D):Ev->M D:=λa=>Fc (src a) (IC tg fi fe (Ks ix a))
section
variable{T:Tb}{X:Cx}
theorem yO{E:XK}{a5 W a3:Ea}{a6:List Ea}{scope:Scope}{pos:se}{x z0:qa}{M':List qa}{ix:List Nat}{tg:D->Ev->Option Ev}{fi:Ev->M Bool}{fe:Ev->M D}
  {b0:List (Addr × Obj)} {st:St} {R:Hp} {s3:Shared} {t:Heap} {t':Nat} {m:qa->Option Value} {fp:List Addr} {it D0:Addr} {tn:Nat->Heap->Prop} {J:It} {nx:NX} {G:List Addr} {b5:db} {ρ:Ev} {n:Nat} {Q:VK}
  (hc:X.calm=true) (L:cq X x M' ix scope)
  (d0:∀ cl C s₀ H₀ ex,FG T (Rr X (x::z0::M') scope cl C s₀ H₀ ex) a3 tg)
  (c7:∀ cl C s₀ H₀ ex,Tz T (Rr X (x::z0::M') scope cl C s₀ H₀ ex) a6 fi)
  (b8:∀ cl C s₀ H₀ ex,FE T (Rr X (x::z0::M') scope cl C s₀ H₀ ex) a5 fe)
  (I3:Inv X b0 st R s3) (b9:∀ b∈fp,dr X b0 R b/\b<s3.heap.objs.size) (c9:t.Ns s3.heap.objs.size m) (kp:∀ b o,s3.heap.get? b=some o->t.get? b=some o)
  (TT:Turn X.prog X.w X.K a3 J fp it tn) (a9:tn 0 t) (so:uo T G R nx J) (hE:eh T G R ρ st) (r3:Rel T G R b5) (hn:G[n]?=some D0)
  (p3:Cb T E (Rep T) G R (Fc (bi nx n tg fi fe 1001 0 (Ks ix ρ)) (λ_=>ret (.ref n)) b5) Q) {RR:bo->Shared->Prop}
  (c5:∀ (s6:Shared) (j:Hp) (m6:qa->Option Value),s6.heap.Ns s3.heap.objs.size m6->j s3.heap.objs.size=none->Un (yi X.stack) fp R j s3.heap s6.heap->s6.os=s3.os->Hh X.prog X.w j s6.heap->mh s6.gens->Q (.ref D0) j->RR (.ok .next) s6) :
  codeAny (model X.prog X.w) X.A (.compStart (.ListComp a5 [⟨a3,W,a6,0⟩] scope pos) 0 (.ref it) (.ref D0) (compEnvC scope (ro X.env scope.names []) s3.heap.objs.size X.env))
   RR { s3 with heap:=t,toks:=t' }:=by
 have I4:=U0 (z0:=z0) (h':=t) (t':=t') I3 L b9 c9 kp;let Y:Cx:=Rr X (x::z0::M') scope (ro X.env scope.names []) s3.heap.objs.size s3 R fp;have a2:∀ {j:Hp},(∀ b∈fp,j b=none)->∀ b∈fp,dr Y [] j b:=fun {j} hn b hb=>⟨hn b hb,(I4.ok.sD b hb).1,I4.ok.Os b hb,.inl hb,(I4.ok.sD b hb).2,λp hp=>absurd (show p∈([]:List (Addr × Obj))from hp) (by simp)⟩
 have Uk:codeAny (model X.prog X.w) X.A (.compLoop (.ListComp a5 [⟨a3,W,a6,0⟩] scope pos) 0 (.ref it) (.ref D0) Y.env) RR { s3 with heap:=t,toks:=t' }:=by
  refine codeAny_loop rfl (λk s'=>∃ i f j σ' q B,Inv Y [] B j s'/\tn i s'.heap/\(∀ b∈fp,j b=none)/\Ext G R f j/\eh T f j q B/\Rel T f j σ'/\
   Cb T E (Rep T) f j (Fc (bi nx n tg fi fe k i q) (λ_=>ret (.ref n)) σ') Q) ?_ 1001 ⟨0,G,R,b5,Ks ix ρ,sx ix st,I4,a9,λb hb=>(b9 b hb).1.1,Ext.refl _ _,WS ix hE,r3,p3⟩
  rintro k s' ⟨i,f,j,σ',q,B,I',c1,b6,ex',hE',r',p'⟩;show wpAny _ X.A ((compTurn (.ListComp a5 [⟨a3,W,a6,0⟩] scope pos) 0 (.ref it) (.ref D0) Y.env).onRaise (λx=>do uh x Y.env;theTreesLotGoes x)) _ _ s';refine wpAny_noted ?_;rw[compTurn_list];refine Uc (E:=λ_ _=>False) ?_ (λ_ _ z=>z) (λ_ _ z=>z.elim);refine aa (Dr ?_);cases k with
  |zero=>exact p'.elim
  |succ k=>
   have a8:=so f j σ' i ex' r';cases en:nx i σ' with
   |none=>
    have e1:bi nx n tg fi fe (k+1) i q σ'=.bad:=by unfold bi;simp only[en]
    rw[yB (m':=bad) e1]at p';exact p'.elim
   |some od=>
    rw[en]at a8;cases od with
    |none=>
     have e1:bi nx n tg fi fe (k+1) i q σ'=.ok () σ':=by unfold bi;simp only[en]
     rw[yB (m':=ret ()) e1]at p';refine aa (Ad (TT.done Y rfl rfl rfl hc i [] s' B j (λ_ _=>False) I' (a2 b6) c1 a8) λr s6 ⟨er,I6⟩=>?_);subst er;refine ia ?_;obtain⟨m6,c8,_⟩:=I6.loc;exact c5 s6 j m6 c8 I6.free I6.base I6.os I6.Pb I6.bare (Cb.here p' r' (by rw[Rep];exact⟨_,rfl,ex'.get hn⟩))
    |some d=>
     refine aa (Ad (TT.item Y rfl rfl rfl hc i [] s' B j (λ_ _=>False) I' (a2 b6) c1 a8.1) λr s6 ⟨u,er,h6⟩=>?_);subst er;refine aa (Ad h6 λ_ s7 ⟨xv,H7,I7,r7,y7,b4,c6⟩=>?_);obtain⟨b1,d1,hd⟩:=a8.2 xv H7 y7;replace p':=Cb.mono b1 p';replace hE':=hE'.mono b1;replace ex':=ex'.trans b1;replace r':=d1;cases et:tg d q with
     |none=>
      have e1:bi nx n tg fi fe (k+1) i q σ'=.bad:=by unfold bi;simp only[en,et]
      rw[yB (m':=bad) e1]at p';exact p'.elim
     |some h=>
      have e1:bi nx n tg fi fe (k+1) i q σ'=Fc (Co (fi h)) (λc=>if c=true then Fc (Co (fe h)) λy=>Fc (fu (.ref n) [y]) λ_=>bi nx n tg fi fe k (i+1) h else bi nx n tg fi fe k (i+1) h) σ':=by
       conv=>lhs;unfold bi
       simp only[en,et]
      rw[yB e1,iG]at p';have c3:=I7.pinned (a2 c6) (TT.obj _ _ b4);refine aa (Ad (d0 _ _ _ _ _ _ s7 B H7 xv u (λF H8=>H8=H7/\eh T f H7 h F) c3 r7 ⟨f,σ',q,d,h,hE',r',hd,et,λF V=>⟨rfl,V⟩⟩) λ_ s8 ⟨F,H8,I8,c4,V⟩=>?_);subst c4;refine aa (Ad (c7 _ _ _ _ _ _ s8 F H8 (λc H9=>∃ N P,Ext f H8 N H9/\Rel T N H9 P/\Cb T E (Rep T) N H9 (Fc (if c=true then Fc (Co (fe h)) λy=>Fc (fu (.ref n) [y]) λ_=>bi nx n tg fi fe k (i+1) h else bi nx n tg fi fe k (i+1) h) (λ_=>ret (.ref n)) P) Q) I8
       ⟨f,h,σ',V,r',p'.Uv λc P N c' H9 _ e9 r9 q9 p9=>by cases q9;exact⟨N,P,e9,r9,p9⟩⟩) λc s9 ⟨H9,I9,N,P,e9,r9,p9⟩=>?_)
      have U:∀ {a1:Shared} {l:Hp} {a:List Addr} {g:db},Inv Y ([]++Wz fp s7.heap) F l a1->Ext f H8 a l->Rel T a l g->Cb T E (Rep T) a l (Fc (bi nx n tg fi fe k (i+1) h) (λ_=>ret (.ref n)) g) Q->
        ∃ m,m<k+1/\∃ i f j σ' q B,Inv Y [] B j a1/\tn i a1.heap/\(∀ b∈fp,j b=none)/\Ext G R f j/\eh T f j q B/\Rel T f j σ'/\Cb T E (Rep T) f j (Fc (bi nx n tg fi fe m i q) (λ_=>ret (.ref n)) σ') Q:=by
       intro a1 l a g S O a0 Z;refine⟨k,yb _,i+1,a,l,g,h,F,S.nj,TT.keep _ _ _ b4 (λb hb o e=>(S.pin (b,o) (vb _ (vb _ (JD hb e)))).1),λb hb=>?_,ex'.trans O,V.mono O,a0,Z⟩;obtain⟨o,e,_⟩:=TT.obj _ _ b4 b hb;exact(S.pin (b,o) (vb _ (vb _ (JD hb e)))).2.1
      cases c with
      |false=>
       rw[ga Wa]at p9;exact ia ⟨rfl,U I9 e9 r9 p9⟩
      |true=>
       rw[da rfl,iG]at p9;refine aa (aa (Ad (b8 _ _ _ _ _ _ s9 F H9 (λv I=>∃ y s H,Ext f H8 s I/\Rel T s I H/\Rep T s I y v/\Cb T E (Rep T) s I (Fc (fu (.ref n) [y]) (λ_=>Fc (bi nx n tg fi fe k (i+1) h) (λ_=>ret (.ref n))) H) Q) I9
        ⟨N,h,P,V.mono e9,r9,p9.Uv λy H s v I _ a4 b3 b2 a7=>⟨y,s,H,e9.trans a4,b3,b2,by rw[iG]at a7;exact a7⟩⟩) λw d2 ⟨v,I,c2,c0,y,s,H,a4,b3,b2,a7⟩=>?_))
       have b7:=QT (Q:=λ_ l=>∃ a g,Ext f H8 a l/\Rel T a l g/\Cb T E (Rep T) a l (Fc (bi nx n tg fi fe k (i+1) h) (λ_=>ret (.ref n)) g) Q) b3 ((ex'.trans a4).get hn) b2
        (a7.bind λ_ g a d3 l _ O a0 d4 Z=>⟨a,g,a4.trans O,a0,Z⟩)
       refine aa (Ad (kZ (X:=Y) _ d2 F I (.ref D0) [v] (.ref D0) [w] _ c2 rfl (.cons c0 .nil) b7) λ_ a1 ⟨d3,l,S,_,a,g,O,a0,Z⟩=>?_);exact ia (ia ⟨rfl,U S O a0 Z⟩)
 exact codeAny_compStart_list Uk (TT.self X.A 0 _ _ _ a9 Uk)
theorem Hy{w g u:Ea}{K:List Ea}{scope:Scope}{pos:se}{x z0:qa}{M':List qa}{ix:List Nat}{src:Ev->M NX}{tg:D->Ev->Option Ev}{fi:Ev->M Bool}{fe:Ev->M D}
  (hc:X.calm=true) (L:cq X x M' ix scope) (F:Bu T X u g src)
  (Z:∀ cl C s₀ H₀ ex,FG T (Rr X (x::z0::M') scope cl C s₀ H₀ ex) u tg)
  (U:∀ cl C s₀ H₀ ex,Tz T (Rr X (x::z0::M') scope cl C s₀ H₀ ex) K fi)
  (A:∀ cl C s₀ H₀ ex,FE T (Rr X (x::z0::M') scope cl C s₀ H₀ ex) w fe)
  (hs:∀ y,vg g X.env y=pure y:=by intro _;rfl) :
  FE T X (.ListComp w [⟨u,g,K,0⟩] scope pos) (mo src ix tg fi fe):=by
 intro m s st H Q I h;obtain⟨O,ρ,σ,hE,hr,hp⟩:=h;rw[eval_ListComp];refine Hr (use:=none) rfl hs (QK X.env scope (zD I L)) L.kind (λy hy e=>?_) ?_
 ·have q:=jg.mp L.names y hy;rw[e]at q;simp only[Pp,sj,qg]at q;exact eq_of_beq q
 have h1:=F m s st H (λJ j=>∃ nx c d,Ext O H c j/\Rel T c j d/\uo T c j nx J/\Cb T (XE X st) (Rep T) c j (Fc (bi nx d.length tg fi fe 1001 0 (Ks ix ρ)) (λ_=>ret (.ref d.length)) (d++[Ob.lst []])) Q) I
  ⟨O,ρ,σ,hE,hr,hp.bind λnx a2 a1 J H1 _ e1 r1 q1 p1=>⟨nx,a1,a2,e1,r1,q1,p1⟩⟩
 refine Ad h1 λv s1 h2=>Ad h2 λa3 a h3=>?_;obtain⟨it,fp,tn,J,j,rfl,I2,TT,N,f2,nx,c,d,P,r2,so,p2⟩:=h3;refine Ib (lv (qF L) (by intro y hy;simp at hy) (λG k l=>?_) L.kind);have I3:=I2.Mw (ys:=[]) (its:=[]) (t':=a.toks) .nil (by simp);have z:j a.heap.objs.size=none:=I2.Pb.fresh (ja _);have r3:=r2.push (p:=a.heap.objs.size) (o:=.lst []) (ob:=.lst []) z ⟨[],fg,Ra.nil⟩;have t:Ext c j (c++[a.heap.objs.size]) (upd j a.heap.objs.size (.lst [])):=Lu z;have Y:a.heap.objs.size<(a.heap.push { cls:=.type "list",data:=.seq ([]:List Value).toArray }).objs.size:=by rw[dc];exact yb _
 have kp:∀ b o,(a.heap.push { cls:=.type "list",data:=.seq ([]:List Value).toArray }).get? b=some o->G.get? b=some o:=λb o e=>l.extBut b o (ua (pa e)) (ba _ e);have f:∀ b∈fp,dr X m (upd j a.heap.objs.size (.lst [])) b/\b<(a.heap.push { cls:=.type "list",data:=.seq ([]:List Value).toArray }).objs.size:=λb hb=>by
  obtain⟨o,e,_⟩:=TT.obj 0 _ N b hb;have lt:=pa e;exact⟨⟨by rw[we (ua lt)];exact(f2 b hb).1,(f2 b hb).2⟩,Tf lt Y⟩
 refine yO (s3:={ a with heap:=a.heap.push { cls:=.type "list",data:=.seq ([]:List Value).toArray },toks:=a.toks }) (n:=d.length) (D0:=a.heap.objs.size) hc L Z U A I3 f k kp TT (TT.keep 0 _ _ N λb hb o e=>kp b o (ba _ e))
  (λO H σ i ex r=>so O H σ i (t.trans ex) r) ((hE.mono P).mono t) r3 (by rw[<-r2.len];simp) (p2.mono t) (λs6 H' m6 V R a0 W B S hq=>⟨m6,V,λh7 E=>?_⟩)
 have hu:=UU a0 E (ja _);have I7:=L2.Inv.Ps (s':={ s6 with heap:=h7 }) (ch:=fp) I3 W hu (o4 B E R) S (λb hb=>⟨(f b hb).1.2.2.2.1,(f b hb).1.2.1,(f b hb).1.2.2.2.2.1,(f b hb).1.2.2.2.2.2⟩);exact⟨.ref a.heap.objs.size,H',I7,rfl,hq⟩
end
noncomputable def hD(K:W.Frag)(mg:qa->Option Value)(x:qa)(ss:List qa):Prop:=∃ a,mg x=some (.ref a)/\oA K a ss
noncomputable def jw:List Value->List qa->Bool
 |[],[]=>true
 | .str y _::a,x::ss=>(y == x) && jw a ss
 |_,_=>false
noncomputable def mG(K:W.Frag)(a:Addr)(ss:List qa):Bool:=match K.lookup a with
 |some o=>(o.cls == .type "tuple") && (match o.data with
  | .seq b _=>decide (b.size<=sizeLine) && jw b.toList ss
  |_=>false)
 |none=>false
theorem VN:∀ {vs:List Value} {ss:List qa},jw vs ss=true->zd (ss.map V.str) vs
 |[],[],_=>.nil
 |[],_::_,h=>by simp[jw]at h
 |v::vs,[],h=>by cases v<;>simp[jw]at h
 |v::vs,x::ss,h=>by
  cases v with
  |str y t=>
   simp only[jw,Ma]at h;obtain rfl:=eq_of_beq h.1;exact .cons ⟨t,rfl⟩ (VN h.2)
  |_=>simp[jw]at h
theorem oA.of{K:W.Frag}{a:Addr}{ss:List qa}(h:mG K a ss=true):oA K a ss:=by
 unfold mG at h;cases e:K.lookup a with
 |none=>rw[e]at h;cases h
 |some o=>
  rw[e]at h;simp only[Ma]at h;obtain⟨f,b⟩:=h;cases c:o.data with
  |seq d n=>
   rw[c]at b;simp only[Ma,nc]at b;exact⟨o,d,n,e,eq_of_beq f,c,b.1,VN b.2⟩
  |_=>rw[c]at b;cases b
section
variable{T:Tb}{X:Cx}{e:Ea}{f:Ev->M D}{x:qa}{p pos:se}{ss:List qa}
end
section
variable{T:Tb}{X:Cx}
end
theorem BY{K:W.Frag}{mg:qa->Option Value}{h:Heap}{x:qa}{C:Addr}{ss:List qa}(X:K.In h)(G:h.Ns mainGlobals mg)(a:W.nsIn K mainGlobals x=some (some (.ref C)))(b:mG K C ss=true):hD K mg x ss:=⟨C,fw X G a,oA.of b⟩
section
variable{T:Tb}{X:Cx}
end
section
variable{T:Tb}{X:Cx}
end
section
variable{prog:ra}{w:Ia}{A:Ja}{E:Value->Shared->Prop}{l q I S:Addr}{n:Nat}{P:Nat->Value->Prop}{R:bo->Shared->Prop}{Q:Value->Shared->Prop}
end
section
variable{X:Cx}{pins:List (Addr × Obj)}{st:St}{H:Hp}{s:Shared}{x:qa}{M':List qa}{ix:List Nat}{scope:Scope}{A:Ja}{qual:qa}{q:Addr}{cd:Value}{v:V}{u:Value}
end
noncomputable def uP(K:W.Frag)(c P:Addr):Bool:=match K.lookup c with
 |some o=>(match o.cls,o.data with
  | .type n,.fields a=>n == "code" && (match (a[11]?:Option Value)with|some (.ref p)=>p == P|_=>false) && (match a.getD 11 .none with | .ref p=>p == P|_=>false) && (match a.getD 18 .none with | .str _ _=>true|_=>false) &&
   (match a.getD 7 .none with | .int _ _=>true|_=>false) && (match a.getD 9 .none with | .bool _=>true|_=>false) && (match a.getD 10 .none with | .int _ _=>true|_=>false) && (c != P)
  |_,_=>false)
 |none=>false
section
variable{T:Tb}{X:Cx}{pins:List (Addr × Obj)}{st:St}{H:Hp}{s:Shared}{μ:List Addr}{σ:db}{x:qa}{M':List qa}{ix:List Nat}{scope:Scope}{params:Arguments}{body:Ea}{pos:se}{c:Addr}{t:Tab}
structure eL(T:Tb)(X:Cx)(t:Tab)(c:Addr)(pos:se):Prop where
 mem:t∈T.tx.QE
 inj:∀ t'∈T.tx.QE,t'.P=t.P->t'=t
 code:X.env.code=.ref c
 hd:uP X.K c t.P=true
 line:t.line=pos.line
 col:t.col=pos.col
 qual:t.qual=X.env.qual++"<lambda>"
 bm:X.mg "__builtins__" = some (.ref T.tx.bm)
 bb:T.tx.bm≠builtinsNs
end
section
variable{T:Tb}{X:Cx}
end
noncomputable def qJ(K:W.Frag)(x:qa):Addr:=((W.tabIn K x).getD (0,0)).1
noncomputable def LK(K:W.Frag)(x:qa):Addr:=((W.tabIn K x).getD (0,0)).2
noncomputable def kF(K:W.Frag):Addr:=match W.nsIn K mainGlobals "__builtins__" with
 |some (some (.ref a))=>a
 |_=>0
structure nS(K:W.Frag)(xs:List qa):Prop where
 no:W.noTabs K=true
 bm:W.nsIn K mainGlobals "__builtins__" = some (some (.ref (kF K)))
 bk:K.lookup (kF K)=none
 bb:kF K≠builtinsNs
 tab:∀ x∈xs,W.tabIn K x=some (qJ K x,LK K x)
 hd:∀ x∈xs,uP K (qJ K x) (LK K x)=true
noncomputable def Kz(x:D)(xs:List D):M D:=λa=>match x,xs with
 | .ref n,[y]=>(match Hi a n with
  |some b=>(match Dh a y with
   |some zs=>if b.length+zs.length<=Ch then .ok .Hb (a.set n (.lst (b++zs)))else .bad
   |none=>.bad)
  |none=>.bad)
 |_,_=>.bad
section
variable{T:Tb}
theorem DZ:qA T sN Kz:=by
 intro E t H u x xs v c Q r p q h;cases x with
 |ref n=>
  match xs with
  |[]=>exact h.elim
  |[y]=>
   rw[Ra]at q;obtain⟨w,z,rfl,B,l⟩:=q;rw[Ra]at l;subst l;unfold Kz at h;cases d:Hi u n with
   |none=>simp only[d]at h;exact h.elim
   |some s=>
    simp only[d]at h;cases e:Dh u y with
    |none=>simp only[e]at h;exact h.elim
    |some zs=>
     simp only[e]at h;by_cases f:s.length+zs.length<=Ch
     ·rw[da f]at h;obtain⟨a,c,rfl,hn,i,j⟩:=r.lst p d;obtain⟨b,g,rfl,A,k⟩:=r.ls B e;have m:=r.write (o:=.lst (c++g)) (ob:=.lst (s++zs)) hn ⟨_,fg,by
       have ex:Ext t H t (upd H a (.lst (c++g))):=Pr (Ga hn) i (λ_ z=>by cases z) (λ_ _ z=>by cases z);exact Ra.append (Ra.mono ex _ _ j) (Ra.mono ex _ _ k)⟩
      exact⟨a,b,c,g,rfl,rfl,i,A,by rw[<-j.length,<-k.length];exact Vw f,h _ _ _ m.1 m.2 (by rw[Rep])⟩
     ·rw[ga f]at h;exact h.elim
  |_::_::_=>exact h.elim
 |_=>exact h.elim
end
section
variable{T:Tb}{X:Cx}
end
section
variable{X:Cx}{pins:List (Addr × Obj)}{st:St}{H:Hp}{s:Shared}{x z0 z1:qa}{M':List qa}{ix:List Nat}{scope:Scope}{fp:List Addr}
end
section
variable{T:Tb}{X:Cx}
end
section
variable{T:Tb}{X:Cx}{pins:List (Addr × Obj)}{st:St}{H:Hp}{s:Shared}{μ:List Addr}{σ:db}
end
section
variable{T:Tb}{X:Cx}
end
section
variable{T:Tb}{X:Cx}{x y:qa}{p pos:se}{ss:List qa}
theorem V3(d:Gl X x)(b:hD T.K X.mg x ss)(hd:(x == ("__debug__" : qa))=false:=by decide):FE T X (.Name x p) (eC (.gt ss)):=by
 obtain⟨a,hm,c⟩:=b;exact Xx (OO d hm (v:=.ref a) rfl hd) λ_ _=>by rw[Rep];exact⟨a,rfl,c⟩
end
section
variable{T:Tb}{μ μ':List Addr}{H H':Hp}{σ:db}{a:Addr}
mutual
theorem Rep.chg(g:∀ b,b≠a->H' b=H b)(k:a∈μ)(m:∀ xs,H a≠some (.tup xs))(r:∀ o xs,H a≠some (.rb o (.lst xs))):∀ (d:D) (v:V),Rep T μ H d v->Rep T μ H' d v
 | .Hb,v,h=>by simpa [Rep]using h
 | .bl b,v,h=>by simpa [Rep]using h
 | .int i,v,h=>by simpa [Rep]using h
 | .str x,v,h=>by simpa [Rep]using h
 | .tup ds,v,h=>by
  rw[Rep]at h ⊢;obtain⟨p,l,e1,e,j⟩:=h;exact⟨p,l,e1,by rw[g p (λz=>m _ (by rw[<-z];exact e))];exact e,Ra.chg g k m r ds l j⟩
 | .Pi ns,v,h=>by
  rw[Rep]at h ⊢;obtain⟨p,e1,e⟩:=h;refine⟨p,e1,?_⟩;rcases e with⟨o,e⟩|e
  ·exact .inl ⟨o,by rw[g p (λz=>r _ _ (by rw[<-z];exact e))];exact e⟩
  ·exact .inr e
 | .ref n,v,h=>by rw[Rep]at h ⊢;exact h
 | .lst ds,v,h=>by
  rw[Rep]at h ⊢;obtain⟨p,l,e1,f,e,j⟩:=h;exact⟨p,l,e1,f,by rw[g p (λz=>f (by rw[z];exact k))];exact e,Ra.chg g k m r ds l j⟩
 | .va C ds,v,h=>by
  rw[Rep]at h ⊢;obtain⟨p,l,e1,f,e,s,j⟩:=h;exact⟨p,l,e1,f,by unfold Rd at e ⊢;rw[g p (λz=>f (by rw[z];exact k))];exact e,s,Ra.chg g k m r ds _ j⟩
 | .obj c ns ds,v,h=>by
  rw[Rep]at h ⊢;obtain⟨p,y,l,e1,f,e,s,j⟩:=h;exact⟨p,y,l,e1,f,by rw[g p (λz=>f (by rw[z];exact k))];exact e,s,Ra.chg g k m r ds _ j⟩
 | .Vt c,v,h=>by
  rw[Rep]at h ⊢;obtain⟨p,w,e1,f,e,j⟩:=h;refine⟨p,w,e1,f,by rw[g p (λz=>f (by rw[z];exact k))];exact e,λn q=>?_⟩;obtain⟨t,A,u,B⟩:=j n q;exact⟨t,A,u,by rw[g t (λz=>u (by rw[z];exact k))];exact B⟩
 | .gt ss,v,h=>by rw[Rep]at h ⊢;exact h
theorem Ra.chg(g:∀ b,b≠a->H' b=H b)(f:a∈μ)(c:∀ xs,H a≠some (.tup xs))(e:∀ o xs,H a≠some (.rb o (.lst xs))):∀ (ds:List D) (vs:List V),Ra T μ H ds vs->Ra T μ H' ds vs
 |[],vs,h=>by simpa [Ra]using h
 |d::ds,vs,h=>by
  rw[Ra]at h ⊢;obtain⟨v,r,e1,i,j⟩:=h;exact⟨v,r,e1,Rep.chg g f c e d v i,Ra.chg g f c e ds r j⟩
end
theorem yC{c:Type}(g:∀ b,b≠a->H' b=H b)(f:a∈μ)(d:∀ xs,H a≠some (.tup xs))(e:∀ o xs,H a≠some (.rb o (.lst xs))){xs:List (c × D)}{ys:List (c × V)}(h:Paired (λ(p:c × D) (q:c × V)=>p.1=q.1/\Rep T μ H p.2 q.2) xs ys) :
  Paired (λ(p:c × D) (q:c × V)=>p.1=q.1/\Rep T μ H' p.2 q.2) xs ys:=L2.Paired.nq h λp q z=>⟨z.1,Rep.chg g f d e _ _ z.2⟩
theorem Dn.chg(d:∀ b,b≠a->H' b=H b)(i:a∈μ)(f:∀ xs,H a≠Option.some (.tup xs))(g:∀ o xs,H a≠Option.some (.rb o (.lst xs))){b:Addr}(hb:b≠a):∀ {o:Ob},Dn T μ H b o->Dn T μ H' b o
 | .lst ds,⟨e,h,r⟩=>⟨e,(d b hb).trans h,Ra.chg d i f g _ _ r⟩
 | .va j,⟨e,h,r⟩=>⟨e,(d b hb).trans h,yC d i f g r⟩
 | .ins c fs,⟨k,e,h,r⟩=>⟨k,e,(d b hb).trans h,yC d i f g r⟩
 | .lb j,⟨l,e,h,r⟩=>⟨l,e,(d b hb).trans h,yC d i f g r⟩
 | .og m,⟨e,h,r⟩=>⟨e,(d b hb).trans h,r⟩
theorem Rel.chg(r:Rel T μ H σ)(e:∀ b,b≠a->H' b=H b){n:Nat}(hn:μ[n]?=some a)(f:∀ xs,H a≠some (.tup xs))(g:∀ o xs,H a≠some (.rb o (.lst xs))){ob:Ob}(j:Dn T μ H' a ob):Rel T μ H' (σ.set n ob):=by
 have d:=Ga hn;refine⟨by simp[r.len],r.nd,λm x h=>?_,r.tb.out e (.inl d)⟩;rw[Xc]at h;by_cases hm:n=m
 ·subst hm;rw[da rfl]at h;split at h
  ·cases h;exact⟨a,hn,j⟩
  ·cases h
 ·rw[ga hm]at h;obtain⟨b,c,i⟩:=r.obs m x h;exact⟨b,c,i.chg e d f g (λz=>hm (by subst z;exact ZB r.nd hn c))⟩
end
theorem _root_.L2.Inv.Iu{X:Cx}{d:List (Addr × Obj)}{g:St}{H:Hp}{s:Shared}{a:Addr}{od:Obj}{kvs:List (Key × V)}(I:Inv X d g H s)(hd:H a=some (.rb od (.dK kvs)))(h0:∀ o u,X.H₀ a≠some (.rb o u)):Inv X d g (upd H a (.dK kvs)) s:=by
 have ne:∀ b u,H b=some u->(∀ o w,u≠.rb o w)->b≠a:=λb u q n z=>by rw[z,hd]at q;exact n _ _ (qb q).symm
 refine⟨I.ok,I.os,I.bare,⟨I.base.keep,I.base.slot,λb o e n i=>?_,I.base.there,λb xs e=>?_,λb o u e=>?_,λb j e=>?_⟩,I.loc,I.cell,?_,λx c e=>?_,λp h=>?_,λb u e=>?_,I.len⟩
 ·have:=I.base.free b o e n i;rw[we (λz=>by rw[z,hd]at this;cases this)];exact this
 ·have:=I.base.ai b xs e;rw[we (ne b _ this (λ_ _ z=>by cases z))];exact this
 ·have:=I.base.vh b o u e;rw[we (λz=>h0 o u (by rw[<-z];exact e))];exact this
 ·obtain⟨more,this⟩:=I.base.Yh b j e;exact⟨more,by rw[we (ne b _ this (λ_ _ z=>by cases z))];exact this⟩
 ·rw[we (λz=>by have:=I.free;rw[z,hd]at this;cases this)];exact I.free
 ·have:=I.zh x c e;rw[we (λz=>by rw[z,hd]at this;cases this)];exact this
 ·obtain⟨k,f,l⟩:=I.pin p h;exact⟨k,by rw[we (λz=>by rw[z,hd]at f;cases f)];exact f,l⟩
 ·by_cases hb:b=a
  ·subst hb;rw[fg]at e;cases e;exact(I.Pb b _ hd).2
  ·rw[we hb]at e;refine(I.Pb b u e).Ql (λc v _ z=>z) (λc z=>?_) λc xs z=>?_
   ·rw[we (ne c _ z (λ_ _ y=>by cases y))];exact z
   ·rw[we (ne c _ z (λ_ _ y=>by cases y))];exact z
section
variable{T:Tb}{X:Cx}{elts:List Ea}{kk:Nat}{p0:se}
theorem iH{μ:List Addr}{H:Hp}{a:Addr}{od:Obj}{kvs:List (Key × V)}{f:List (Key × D)}(o:H a=some (.rb od (.dK kvs)))(s:yf T μ H f kvs):uo T μ H (Fn f) (Itm a od kvs):=by
 intro h j u i ex t;have k:j a=some (.rb od (.dK kvs)):=ex.rb _ _ _ o;have e:yf T h j f kvs:=yf.mono ex s;unfold Fn;cases n:f[i]? with
 |none=>
  dsimp only;by_cases g:i=f.length
  ·rw[da g];exact⟨k,by rw[g];exact Paired.length e⟩
  ·rw[ga g];trivial
 |some p=>
  obtain⟨q,l,d,m⟩:=oz e i n;refine⟨⟨k,q,l⟩,λz v y=>?_⟩;obtain⟨r,w,x,b,rfl,c,rfl⟩:=y;rw[l]at c;cases c;dsimp only at d m;refine⟨Lj b,t.fresh b,?_⟩;rw[Rep,d];exact⟨r,_,rfl,fg,Ra.cons (GF _) (Ra.cons (Rep.mono (Lj b) _ _ m) Ra.nil)⟩
noncomputable def zC(d:D):M NX:=λb=>match d with
 | .va c xs=>if c.length=xs.length then .ok (Fn (c.zip xs)) b else .bad
 | .ref n=>(match b[n]? with
  |some (.va a)=>.ok (Fn a) (b.set n (.lb a))
  |some (.lb a)=>.ok (Fn a) b
  |_=>.bad)
 |_=>.bad
noncomputable def qz(f:Ev->M D):Ev->M NX:=λa=>Fc (f a) zC
theorem oH{e:Ea}{f:Ev->M D}{u w:se}(h:FE T X e f)(C:Yc e "items" X.env (Gb e X.env)=Gb e X.env:=by rfl)(E:(u.endLine == w.line)=true:=by rfl) :
  Bu T X (.Tuple elts kk p0) (.Call (.Attribute e "items" u) [] [] w) (qz f):=by
 intro N s st H R I hw;refine cM (RF pf kh ln OK h C E) N s st H R I ?_;obtain⟨μ,ρ,σ,hE,hr,hp⟩:=hw;refine⟨μ,ρ,σ,hE,hr,hp.bind λd σ1 c v j _ e1 P V p=>?_⟩;unfold zC at p;cases d with
 |va ks xs=>
  dsimp only at p;by_cases Y:ks.length=xs.length
  ·rw[da Y]at p;rw[Rep]at V;obtain⟨a,i,rfl,hn,q,S,U⟩:=V;refine⟨⟨a,i,rfl,q⟩,a,i,rfl,rfl,q,λl g=>?_⟩;have t:a≠l:=by rcases q with q|⟨_,q⟩<;>exact bn q g
   have Q:Rd (upd j l (.ext (Tk l a))) a (.dK i):=by unfold Rd;rw[we t];exact q
   refine⟨l,a,i,rfl,fg,Q,λod m=>?_⟩;have A:Ext c j c (upd j l (.ext (Tk l a))):=Lj g;have k:Rel T c (upd j l (.ext (Tk l a))) σ1:=P.fresh g;obtain⟨Z,W⟩:Ext c j c (upd (upd j l (.ext (Tk l a))) a (.rb od (.dK i)))/\Rel T c (upd (upd j l (.ext (Tk l a))) a (.rb od (.dK i))) σ1:=by
    rcases m with m|m
    ·have y:=zF (μ:=c) (od:=od) m;exact⟨A.trans y,k.keep y (λb hb=>we (λz=>hn (by rw[<-z];exact hb))) (k.tb.out (λb hb=>we hb) (.inr ⟨_,m⟩))⟩
    ·rw[Qu m];exact⟨A,k⟩
   exact Cb.here (R:=uo T) (Cb.mono Z p) W (iH fg (yf.mono Z (OA S U)))
  ·rw[ga Y]at p;exact p.elim
 |ref n=>
  dsimp only at p;cases O:σ1[n]? with
  |none=>rw[O]at p;exact p.elim
  |some o=>
   rw[O]at p;obtain⟨a,rfl,hn,L⟩:=P.at V O;cases o with
   |va i=>
    obtain⟨vs,B,G⟩:=L;have q:Rd j a (.dK vs):=.inl B;refine⟨⟨a,vs,rfl,q⟩,a,vs,rfl,rfl,q,λl g=>?_⟩;have t:a≠l:=bn B g;have r:upd j l (.ext (Tk l a)) a=some (.dK vs):=by rw[we t];exact B
    refine⟨l,a,vs,rfl,fg,.inl r,λod _=>?_⟩;have A:Ext c j c (upd j l (.ext (Tk l a))):=Lj g;have k:Rel T c (upd j l (.ext (Tk l a))) σ1:=P.fresh g;have K:Ext c (upd j l (.ext (Tk l a))) c (upd (upd j l (.ext (Tk l a))) a (.rb od (.dK vs))):=Pr (Ga hn) r (λ_ z=>by cases z) (λ_ _ z=>by cases z);have x:yf T c (upd (upd j l (.ext (Tk l a))) a (.rb od (.dK vs))) i vs:=yf.mono (A.trans K) G;have wr:=k.write (o:=.rb od (.dK vs)) (ob:=.lb i) hn ⟨od,vs,fg,x⟩ (λkv z=>by rw[O]at z;cases z);exact Cb.here (R:=uo T) (Cb.mono (A.trans K) p) wr.2 (iH fg x)
   |lb i=>
    obtain⟨J,vs,B,G⟩:=L;have q:Rd j a (.dK vs):=.inr ⟨J,B⟩;refine⟨⟨a,vs,rfl,q⟩,a,vs,rfl,rfl,q,λl g=>?_⟩;have t:a≠l:=bn B g;have r:upd j l (.ext (Tk l a)) a=some (.rb J (.dK vs)):=by rw[we t];exact B
    refine⟨l,a,vs,rfl,fg,.inr ⟨J,r⟩,λod m=>?_⟩;have A:Ext c j c (upd j l (.ext (Tk l a))):=Lj g;have k:Rel T c (upd j l (.ext (Tk l a))) σ1:=P.fresh g;rcases m with m|m
    ·rw[r]at m;cases m
    ·rw[Qu m];exact Cb.here (R:=uo T) (Cb.mono A p) k (iH m (yf.mono A G))
   |_=>exact p.elim
 |_=>exact p.elim
noncomputable def Ou{c:Type}(ok:c->Bool)(n:Nat):Out c->Out c
 | .ok a σ=>if ok a=true then (match σ[n]? with
  |some (.lb b)=>.ok a (σ.set n (.va b))
  |_=>.bad)else .bad
 |_=>.bad
noncomputable def Qv{α:Type}(ok:α->Bool)(m:M D)(g:M α):M α:=λa=>match m a with
 | .ok (.ref n) _=>(match a[n]? with
  |some (.va _)=>Ou ok n (g a)
  |_=>g a)
 |_=>g a
noncomputable def su:Fl->Bool
 | .xc _ _=>false
 |_=>true
noncomputable def ms(f:Ev->M D)(g:Ev->M Fl):Ev->M Fl:=λa=>Qv su (f a) (g a)
theorem aX{μ μ':List Addr}{H b:Hp}{a:Addr}{d vs:List (Key × V)}{od:Obj}(ex:Ext μ H μ' b)(c:a∈μ)(e:H a=some (.dK d))(hz:b a=some (.rb od (.dK vs))):Ext μ H μ' (upd b a (.dK vs)):=by
 refine⟨ex.pre,λp xs h=>?_,λp o u h=>?_,λp o h n=>?_⟩
 ·rw[we (λz=>by rw[z,e]at h;cases h)];exact ex.tup p xs h
 ·rw[we (λz=>by rw[z,e]at h;cases h)];exact ex.rb p o u h
 ·rw[we (λz=>n (by rw[z];exact c))];exact ex.keep p o h n
theorem lT{l s:Type}{E:XK}{R:List Addr->Hp->l->s->Prop}{ok:l->Bool}{μ:List Addr}{H:Hp}{n:Nat}{a:Addr}{q:List (Key × V)}{o:Out l}{Q:s->Hp->Prop}(hn:μ[n]?=some a)(y:H a=some (.dK q))
  (w:∀ (μ':List Addr) (c:Hp) (d:l) (g:s) (od:Obj) (vs:List (Key × V)),a∈μ'->c a=some (.rb od (.dK vs))->ok d=true->R μ' c d g->R μ' (upd c a (.dK vs)) d g) (h:Cb T E R μ H (Ou ok n o) Q) :
  Cb T E R μ H o (λg c=>∃ od vs,c a=some (.rb od (.dK vs))/\Q g (upd c a (.dK vs))/\∃ μ' d,ok d=true/\R μ' c d g):=by
 cases o with
 |bad=>exact h
 |ex x k=>exact h.elim
 |ok d k=>
  unfold Ou at h;dsimp only at h;by_cases Pb:ok d=true
  ·rw[da Pb]at h;cases m:k[n]? with
   |none=>rw[m]at h;exact h.elim
   |some B=>
    rw[m]at h;cases B with
    |lb A=>
     intro μ' g c ex r v;obtain⟨C,i,od,vs,j,p⟩:=r.obs n _ m;have e:=ex.get hn;rw[e]at i;cases i;have f:a∈μ':=Ga e;have u:∀ b,b≠a->upd c a (.dK vs) b=c b:=λb hb=>we hb;have t:∀ xs,c a≠some (.tup xs):=λxs z=>by rw[j]at z;cases z
     have g2:∀ o xs,c a≠some (.rb o (.lst xs)):=λo xs z=>by rw[j]at z;cases z
     exact⟨od,vs,j,h μ' g _ (aX ex (Ga hn) y j) (r.chg u e t g2 ⟨vs,fg,yC u f t g2 p⟩) (w μ' c d g od vs f j Pb v),μ',d,Pb,v⟩
    |_=>exact h.elim
  ·rw[ga Pb]at h;exact h.elim
theorem KB{μ':List Addr}{c:Hp}{a:Addr}{od:Obj}{vs:List (Key × V)}(e:a∈μ')(hz:c a=some (.rb od (.dK vs)))(d:D)(v:V)(h:Rep T μ' c d v):Rep T μ' (upd c a (.dK vs)) d v:=
 Rep.chg (λb hb=>we hb) e (λxs z=>by rw[hz]at z;cases z) (λo xs z=>by rw[hz]at z;cases z) d v h
theorem yw{s:Stmt}{f:Ev->M D}{g:Ev->M Fl}(h:FS T X s g):FS T X s (ms f g):=by
 intro p sh O H D I l;obtain⟨F,J,K,L,E,x⟩:=l;have plain:Cb T EN (Vm T) F H (g J K) (Nl X D)->wpAny (model X.prog X.w) X.A (exec s X.env) (SP X p D) X.xe sh:=λq=>h p sh O H D I ⟨F,J,K,L,E,q⟩;unfold ms Qv at x;split at x
 ·rename_i n _ _
  split at x
  ·rename_i R P
   obtain⟨a,hn,U,N,_⟩:=E.obs n _ P;have h0:∀ o u,X.H₀ a≠some (.rb o u):=λo u z=>by have:=I.base.vh a o u z;rw[N]at this;cases this
   have q:=lT hn N (λG e d gl k c r j Pb m=>by
    cases d with
    |xc _ _=>cases Pb
    |nx C=>cases gl<;>first|exact m.elim|exact⟨m.1,λi d q=>let ⟨v,y,B⟩:=m.2 i d q;⟨v,y,KB r j _ _ B⟩⟩
    |bk C=>cases gl<;>first|exact m.elim|exact⟨m.1,λi d q=>let ⟨v,y,B⟩:=m.2 i d q;⟨v,y,KB r j _ _ B⟩⟩
    |ct C=>cases gl<;>first|exact m.elim|exact⟨m.1,λi d q=>let ⟨v,y,B⟩:=m.2 i d q;⟨v,y,KB r j _ _ B⟩⟩
    |rt V=>cases gl<;>first|exact m.elim|exact KB r j _ _ m) x
   refine Uc (h p sh O H ⟨λb e=>∃ k c,e a=some (.rb k (.dK c))/\D.nx b (upd e a (.dK c)),λv e=>∃ k c,e a=some (.rb k (.dK c))/\D.rt v (upd e a (.dK c)),λb e=>∃ k c,e a=some (.rb k (.dK c))/\D.bk b (upd e a (.dK c)),λb e=>∃ k c,e a=some (.rb k (.dK c))/\D.ct b (upd e a (.dK c))⟩ I ⟨F,J,K,L,E,q.imp λgl e z=>?_⟩) (λQ W z=>?_) λ_ _ z=>z
   ·obtain⟨k,c,j,l,G,d,Pb,m⟩:=z;cases gl with
    |nx b=>exact⟨k,c,j,l⟩
    |rt v=>exact⟨k,c,j,l⟩
    |bk b=>exact⟨k,c,j,l⟩
    |ct b=>exact⟨k,c,j,l⟩
    |xc b cls fd=>cases d<;>first|exact m.elim|cases Pb
   ·cases Q with
    |next=>obtain⟨b,e,t,k,c,j,l⟩:=z;exact⟨b,_,t.Iu j h0,l⟩
    |brk=>obtain⟨b,e,t,k,c,j,l⟩:=z;exact⟨b,_,t.Iu j h0,l⟩
    |cont=>obtain⟨b,e,t,k,c,j,l⟩:=z;exact⟨b,_,t.Iu j h0,l⟩
    |ret u=>obtain⟨v,b,e,t,S,k,c,j,l⟩:=z;exact⟨v,b,_,t.Iu j h0,S,l⟩
  ·exact plain x
 ·exact plain x
end
end L4
namespace L4
open PySem PySem.Spec PyProof.Rows L2
noncomputable def lD(d:Addr)(od:Obj)(kvs:List (Key × V)):It:=
 ⟨λi H=>H d=some (.rb od (.dK kvs))/\∃ x,kvs[i]?=some x,λi H v a=>a=H/\∃ k x,v=kV k/\kvs[i]?=some (k,x),λi H=>H d=some (.rb od (.dK kvs))/\i=kvs.length⟩
theorem eU{P:ra}{w:Ia}{K:W.Frag}{tg:Ea}(d it:Addr)(od:Obj)(kvs:List (Key × V))(Z:d≠it){es:Array Hs}{ep:Nat}(l:od.data=.dict es ep) :
  Turn P w K tg (lD d od kvs) [it] it (λi h=>h.IsKeyIter it d i kvs.length ep) where
 mem:=by simp
 obj:=λi h a b hb=>by
  obtain rfl:b=it:=by simpa using hb
  obtain⟨o,e,c,q⟩:=a;exact⟨o,e,λv z=>by rw[q]at z;cases z⟩
 keep:=λi h n a k=>a.at λo e=>k it (by simp) o e
 item:=by
  intro X G M F O i f s S H E I p a J;subst G M F;obtain⟨hd,⟨k,x⟩,R⟩:=J;obtain⟨vs,t,r,rel,g,hm⟩:=Zu I hd;rw[l]at g;cases g;obtain⟨u,hu,ru⟩:=FB rel i R;rw[rel.length]at a;obtain⟨y,A,Y,B,C,D⟩:=p it (by simp);refine wpAny_pyNext_dict_item a hm hu λN n j m L=>?_;have T:Inv X f S H { s with heap:=n }:=I.turned (t':=s.toks) (λb o hb e=>L.extBut b o hb e) y A B C D;obtain⟨o,e,c,q⟩:=id m;exact⟨N,rfl,Iz (s:={ s with heap:=n }) e c q (by decide) ⟨kV k,H,T,xK j,⟨rfl,k,x,rfl,R⟩,by rw[rel.length];exact m,λb hb=>(p b hb).1⟩⟩
 done:=by
  intro X G M F O i f s S H E I p a J;subst G M F;obtain⟨hd,Q⟩:=J;obtain⟨vs,t,r,rel,g,hm⟩:=Zu I hd;rw[l]at g;cases g;rw[rel.length]at a Q;obtain⟨y,A,Y,B,C,D⟩:=p it (by simp);exact wpAny_pyNext_dict_end (I.ok.hd O) a hm (by rw[Q];simp) λn U=>⟨rfl,I.turned (t':=s.toks) (λb o hb e=>U b o hb e) y A B C D⟩
 self:=λ_ _ _ _ _ a h=>wpAny_pyIter_keyiter a h
noncomputable def Aq(a:List (Key × D)):NX:=λi _=>match a[i]? with
 |some p=>some (some (Yp p.1))
 |none=>if i=a.length then some none else none
noncomputable def Cy(d:D):M NX:=λb=>match d with
 | .ref n=>(match b[n]? with
  |some (.va a)=>.ok (Aq a) (b.set n (.lb a))
  |some (.lb a)=>.ok (Aq a) b
  |_=>.bad)
 |_=>.bad
noncomputable def vv(f:Ev->M D):Ev->M NX:=λa=>Fc (f a) Cy
section
variable{T:Tb}{X:Cx}{tg:Ea}
theorem CN{μ:List Addr}{H:Hp}{a:Addr}{od:Obj}{kvs:List (Key × V)}{e:List (Key × D)}(m:H a=some (.rb od (.dK kvs)))(n:yf T μ H e kvs):uo T μ H (Aq e) (lD a od kvs):=by
 intro g h r i ex o;have j:h a=some (.rb od (.dK kvs)):=ex.rb _ _ _ m;have d:yf T g h e kvs:=yf.mono ex n;unfold Aq;cases l:e[i]? with
 |none=>
  dsimp only;by_cases f:i=e.length
  ·rw[da f];exact⟨j,by rw[f];exact Paired.length d⟩
  ·rw[ga f];trivial
 |some p=>
  obtain⟨q,k,c,u⟩:=oz d i l;refine⟨⟨j,q,k⟩,λz s y=>?_⟩;obtain⟨rfl,t,v,rfl,b⟩:=y;rw[k]at b;cases b;dsimp only at c;exact⟨Ext.refl _ _,o,by rw[c];exact GF _⟩
noncomputable def lV(e:TE):TI:=λf H R=>e f H λv c=>∃ a b,v=.ref a/\Rd c a (.dK b)/\∀ d,c a=some (.dK b)\/c a=some (.rb d (.dK b))->R (lD a d b) (upd c a (.rb d (.dK b)))
theorem lR{f:Ea}{n:TE}(w:PE X f n):PI X tg f (lV n):=by
 intro i s p H R I h;refine Ad (w i s p H _ I h) λv s1 ⟨x,H1,j,B,A⟩=>?_;obtain⟨a,c,rfl,d,q⟩:=A;cases B;obtain⟨_,y,_⟩:=gr j.Pb d;obtain⟨g,m,k⟩:∃ g,(H1 a=some (.dK c)\/H1 a=some (.rb g (.dK c)))/\Inv X i p (upd H1 a (.rb g (.dK c))) s1:=by
  rcases d with d|⟨g,d⟩
  ·obtain⟨_,_,C,rel,o,u,t,e,_⟩:=j.Pb a _ d;exact⟨o,.inl d,j.freeze d e⟩
  ·exact⟨g,.inr d,by rw[Qu d];exact j⟩
 obtain⟨C,u,t,rel,r,hm⟩:=Zu k fg;have l:a≠s1.heap.objs.size:=ua hm.lt_size;refine wpAny_pyIter_dict y hm ?_;refine⟨s1.heap.objs.size,[s1.heap.objs.size],_,lD a g c,_,rfl,k.kept (t':=s1.toks) (λb o e=>ba _ e),eU a _ g c l r,by rw[rel.length];exact⟨_,Dw _ _ (λz=>by cases z),rfl,rfl⟩,λb hb=>?_,q g m⟩;obtain rfl:b=s1.heap.objs.size:=by simpa using hb
 exact k.Xp (ja _) (k.Pb.fresh (ja _))
theorem EG{e:Ea}{f:Ev->M D}(h:FE T X e f):Bu T X tg e (vv f):=by
 intro r s G H R I E;refine lR h r s G H R I ?_;obtain⟨K,L,N,A,C,B⟩:=E;refine⟨K,L,N,A,C,B.bind λd y k v u _ e1 x F b=>?_⟩;unfold Cy at b;cases d with
 |ref n=>
  dsimp only at b;cases t:y[n]? with
  |none=>rw[t]at b;exact b.elim
  |some o=>
   rw[t]at b;obtain⟨a,rfl,hn,p⟩:=x.at F t;cases o with
   |va j=>
    obtain⟨vs,m,i⟩:=p;refine⟨a,vs,rfl,.inl m,λq _=>?_⟩;have l:Ext k u k (upd u a (.rb q (.dK vs))):=Pr (Ga hn) m (λ_ z=>by cases z) (λ_ _ z=>by cases z);have c:yf T k (upd u a (.rb q (.dK vs))) j vs:=yf.mono l i;have J:=x.write (o:=.rb q (.dK vs)) (ob:=.lb j) hn ⟨q,vs,fg,c⟩ (λO z=>by rw[t]at z;cases z);exact Cb.here (R:=uo T) (Cb.mono l b) J.2 (CN fg c)
   |lb j=>
    obtain⟨w,vs,m,i⟩:=p;refine⟨a,vs,rfl,.inr ⟨w,m⟩,λq g=>?_⟩;rcases g with g|g
    ·rw[m]at g;cases g
    ·rw[Qu g];exact Cb.here (R:=uo T) b x (CN g i)
   |_=>exact b.elim
 |_=>exact b.elim
end
section
variable{T:Tb}{X:Cx}
theorem Ox{es:List Stmt}:Qo T X es Sr:=λpins s st H D I ⟨b,c,σ,_,_,a⟩=>a.elim
end
open Classical in
noncomputable def CK(μ μ' b:List Addr):Prop:=(∃ r,μ'=μ++r)/\(∀ (n:Nat) (a:Addr),μ[n]?=some a->b[n]?=some a)/\∀ a∈b,a∈μ'
section
variable{T:Tb}{μ μ' μ2:List Addr}{H H':Hp}{σ σ':db}
mutual
theorem nG.down(e:CK μ μ' μ2):∀ (d:D) (v0 v:V),Rep T μ H d v0->Rep T μ' H' d v->Rep T μ2 H' d v
 | .Hb,v0,v,_,h=>by simpa [Rep]using h
 | .bl b,v0,v,_,h=>by simpa [Rep]using h
 | .int i,v0,v,_,h=>by simpa [Rep]using h
 | .str x,v0,v,_,h=>by simpa [Rep]using h
 | .tup ds,v0,v,c,h=>by
  rw[Rep]at h c ⊢;obtain⟨p,m,g,f,j⟩:=h;obtain⟨I,l,_,_,w⟩:=c;exact⟨p,m,g,f,Uo.down e ds l m w j⟩
 | .Pi ns,v0,v,_,h=>by rw[Rep]at h ⊢;exact h
 | .ref n,v0,v,c,h=>by
  rw[Rep]at h c ⊢;obtain⟨a,g,f⟩:=h;obtain⟨b,_,t⟩:=c;refine⟨a,g,?_⟩;have j:=e.2.1 _ _ t;obtain⟨⟨r,rfl⟩,_⟩:=e;rw[Ua (ka.mp t).1]at f;rw[t]at f;cases f;exact j
 | .lst ds,v0,v,c,h=>by
  rw[Rep]at h c ⊢;obtain⟨a,m,g,f,j,o⟩:=h;obtain⟨_,l,_,_,_,s⟩:=c;exact⟨a,m,g,λz=>f (e.2.2 _ z),j,Uo.down e ds l m s o⟩
 | .va G ds,v0,v,c,h=>by
  rw[Rep]at h c ⊢;obtain⟨a,m,g,f,j,u,o⟩:=h;obtain⟨_,l,_,_,_,_,s⟩:=c;exact⟨a,m,g,λz=>f (e.2.2 _ z),j,u,Uo.down e ds _ _ s o⟩
 | .obj k ns ds,v0,v,c,h=>by
  rw[Rep]at h c ⊢;obtain⟨a,B,m,g,f,j,u,o⟩:=h;obtain⟨_,_,l,_,_,_,_,s⟩:=c;exact⟨a,B,m,g,λz=>f (e.2.2 _ z),j,u,Uo.down e ds _ _ s o⟩
 | .Vt k,v0,v,_,h=>by
  rw[Rep]at h ⊢;obtain⟨a,A,g,f,j,o⟩:=h;exact⟨a,A,g,λz=>f (e.2.2 _ z),j,λn q=>let ⟨y,C,E,F⟩:=o n q;⟨y,C,λz=>E (e.2.2 _ z),F⟩⟩
 | .gt ss,v0,v,_,h=>by rw[Rep]at h ⊢;exact h
theorem Uo.down(e:CK μ μ' μ2):∀ (ds:List D) (a vs:List V),Ra T μ H ds a->Ra T μ' H' ds vs->Ra T μ2 H' ds vs
 |[],a,vs,_,h=>by simpa [Ra]using h
 |d::ds,a,vs,c,h=>by
  rw[Ra]at h c ⊢;obtain⟨v,r,g,i,j⟩:=h;obtain⟨l,k,_,b,f⟩:=c;exact⟨v,r,g,nG.down e d l v b i,Uo.down e ds k r f j⟩
end
end
end L4
namespace L4
open PySem PySem.Spec PyProof.Rows L2
section
variable{P:ra}{w:Ia}{K:W.Frag}{mg:qa->Option Value}{base:Heap}{T:Tb}
end
section
variable{T:Tb}{X:Cx}
end
noncomputable def gp(l a:Addr):Heap->Prop:=λh=>h.IsValuesView l a
noncomputable def lY:V->List V->Hp->VK->Prop:=λx xs H Q=>∃ a b,x=.ref a/\xs=[]/\Rd H a (.dK b)/\∀ l,H l=none->Q (.ref l) (upd H l (.ext (gp l a)))
noncomputable def SC(d:Addr)(od:Obj)(kvs:List (Key × V)):It:=
 ⟨λi H=>H d=some (.rb od (.dK kvs))/\∃ x,kvs[i]?=some x,λi H v a=>a=H/\∃ k,kvs[i]?=some (k,v),λi H=>H d=some (.rb od (.dK kvs))/\i=kvs.length⟩
theorem BV{P:ra}{w:Ia}{K:W.Frag}{tg:Ea}(d it:Addr)(od:Obj)(kvs:List (Key × V))(U:d≠it){es:Array Hs}{ep:Nat}(j:od.data=.dict es ep) :
  Turn P w K tg (SC d od kvs) [it] it (λi h=>h.IsValIter it d i kvs.length ep) where
 mem:=by simp
 obj:=λi h a b hb=>by
  obtain rfl:b=it:=by simpa using hb
  obtain⟨o,e,c,p⟩:=a;exact⟨o,e,λv z=>by rw[p]at z;cases z⟩
 keep:=λi h m a k=>a.at λo e=>k it (by simp) o e
 item:=by
  intro X F L D M i f s Q H E I n a G;subst F L D;obtain⟨hd,⟨k,x⟩,O⟩:=G;obtain⟨vs,r,q,rel,g,hm⟩:=Zu I hd;rw[j]at g;cases g;obtain⟨u,Y,Z⟩:=FB rel i O;rw[rel.length]at a;obtain⟨t,y,T,A,B,C⟩:=n it (by simp);refine wpAny_pyNext_values_item a hm Y λm l J=>?_;have R:Inv X f Q H { s with heap:=m }:=I.turned (t':=s.toks) (λb o hb e=>J.extBut b o hb e) t y A B C;obtain⟨o,e,c,p⟩:=id l;exact⟨u,rfl,Iz (s:={ s with heap:=m }) e c p (by decide) ⟨x,H,R,Z,⟨rfl,k,O⟩,by rw[rel.length];exact l,λb hb=>(n b hb).1⟩⟩
 done:=by
  intro X F L D M i f s Q H E I n a G;subst F L D;obtain⟨hd,N⟩:=G;obtain⟨vs,r,q,rel,g,hm⟩:=Zu I hd;rw[j]at g;cases g;rw[rel.length]at a N;obtain⟨t,y,T,A,B,C⟩:=n it (by simp);exact wpAny_pyNext_values_end (I.ok.hd M) a hm (by rw[N];simp) λm S=>⟨rfl,I.turned (t':=s.toks) (λb o hb e=>S b o hb e) t y A B C⟩
 self:=λ_ _ _ _ _ a h=>wpAny_pyIter_valiter a h
noncomputable def Xr(a:List (Key × D)):NX:=λi _=>match a[i]? with
 |some p=>some (some p.2)
 |none=>if i=a.length then some none else none
noncomputable def yD(d:D):M NX:=λb=>match d with
 | .va c xs=>if c.length=xs.length then .ok (Xr (c.zip xs)) b else .bad
 | .ref n=>(match b[n]? with
  |some (.va a)=>.ok (Xr a) (b.set n (.lb a))
  |some (.lb a)=>.ok (Xr a) b
  |_=>.bad)
 |_=>.bad
noncomputable def CD(f:Ev->M D):Ev->M NX:=λa=>Fc (f a) yD
section
variable{T:Tb}{X:Cx}{tg:Ea}
theorem LS:Tr X "dict.values" lY:=by
 intro f s r H x u v t Q I j i h;obtain⟨a,g,rfl,rfl,hH,q⟩:=h;cases j;cases i;obtain⟨z,hd,l,rel,d⟩:=gr I.Pb hH;refine Nt Lm d.typeIs PySem.F.entry_dict_values (PySem.F.args_dict_values_1 _) (meets_dict_values (Ik X.prog X.w) a hd) ⟨⟨l,d⟩,?_⟩;refine⟨.ref s.heap.objs.size,_,I.laid (t':=s.toks) (o:=.ext (gp s.heap.objs.size a)) (λb o e=>ba _ e) (ja _) ?_,rfl,q _ (I.Pb.fresh (ja _))⟩;refine⟨⟨_,Dw _ _ (λz=>by cases z),rfl,rfl⟩,⟨_,Dw _ _ (λz=>by cases z)⟩,λm n p k=>?_⟩;obtain⟨o,e,c⟩:=p;exact⟨o,k o e,c⟩
theorem dG{μ:List Addr}{H:Hp}{a:Addr}{od:Obj}{kvs:List (Key × V)}{d:List (Key × D)}(l:H a=some (.rb od (.dK kvs)))(n:yf T μ H d kvs):uo T μ H (Xr d) (SC a od kvs):=by
 intro f g s i ex o;have h:g a=some (.rb od (.dK kvs)):=ex.rb _ _ _ l;have c:yf T f g d kvs:=yf.mono ex n;unfold Xr;cases k:d[i]? with
 |none=>
  dsimp only;by_cases e:i=d.length
  ·rw[da e];exact⟨h,by rw[e];exact Paired.length c⟩
  ·rw[ga e];trivial
 |some p=>
  obtain⟨q,j,m,r⟩:=oz c i k;refine⟨⟨h,q,j⟩,λz t y=>?_⟩;obtain⟨rfl,u,b⟩:=y;rw[j]at b;cases b;exact⟨Ext.refl _ _,o,r⟩
noncomputable def fW(e:TE):TI:=λf H R=>e f H λv c=>∃ l a b,v=.ref l/\c l=some (.ext (gp l a))/\Rd c a (.dK b)/\∀ d,c a=some (.dK b)\/c a=some (.rb d (.dK b))->R (SC a d b) (upd c a (.rb d (.dK b)))
theorem VQ{f:Ea}{p:TE}(y:PE X f p):PI X tg f (fW p):=by
 intro i s r H R I h;refine Ad (y i s r H _ I h) λv s1 ⟨x,H1,j,D,C⟩=>?_;obtain⟨l,a,c,rfl,A,d,q⟩:=C;cases D;obtain⟨g,n,k⟩:∃ g,(H1 a=some (.dK c)\/H1 a=some (.rb g (.dK c)))/\Inv X i r (upd H1 a (.rb g (.dK c))) s1:=by
  rcases d with d|⟨g,d⟩
  ·obtain⟨_,_,E,rel,o,w,u,e,_⟩:=j.Pb a _ d;exact⟨o,.inl d,j.freeze d e⟩
  ·exact⟨g,.inr d,by rw[Qu d];exact j⟩
 obtain⟨E,w,u,rel,t,hm⟩:=Zu k fg;have B:s1.heap.IsValuesView l a:=(j.Pb l _ A).1;have m:a≠s1.heap.objs.size:=ua hm.lt_size;refine wpAny_pyIter_values B hm ?_;refine⟨s1.heap.objs.size,[s1.heap.objs.size],_,SC a g c,_,rfl,k.kept (t':=s1.toks) (λb o e=>ba _ e),BV a _ g c m t,by rw[rel.length];exact⟨_,Dw _ _ (λz=>by cases z),rfl,rfl⟩,λb hb=>?_,q g n⟩;obtain rfl:b=s1.heap.objs.size:=by simpa using hb
 exact k.Xp (ja _) (k.Pb.fresh (ja _))
theorem qT{e:Ea}{f:Ev->M D}{u w:se}(h:FE T X e f)(C:Yc e "values" X.env (Gb e X.env)=Gb e X.env:=by rfl)(E:(u.endLine == w.line)=true:=by rfl) :
  Bu T X tg (.Call (.Attribute e "values" u) [] [] w) (CD f):=by
 intro N s st H R I hw;refine VQ (RF pf Lm PySem.F.type_dict_values LS h C E) N s st H R I ?_;obtain⟨μ,ρ,σ,hE,hr,hp⟩:=hw;refine⟨μ,ρ,σ,hE,hr,hp.bind λd σ1 c v j _ e1 P V p=>?_⟩;unfold yD at p;cases d with
 |va ks xs=>
  dsimp only at p;by_cases Y:ks.length=xs.length
  ·rw[da Y]at p;rw[Rep]at V;obtain⟨a,i,rfl,hn,q,S,U⟩:=V;refine⟨⟨a,i,rfl,q⟩,a,i,rfl,rfl,q,λl g=>?_⟩;have t:a≠l:=by rcases q with q|⟨_,q⟩<;>exact bn q g
   have Q:Rd (upd j l (.ext (gp l a))) a (.dK i):=by unfold Rd;rw[we t];exact q
   refine⟨l,a,i,rfl,fg,Q,λod m=>?_⟩;have A:Ext c j c (upd j l (.ext (gp l a))):=Lj g;have k:Rel T c (upd j l (.ext (gp l a))) σ1:=P.fresh g;obtain⟨Z,W⟩:Ext c j c (upd (upd j l (.ext (gp l a))) a (.rb od (.dK i)))/\Rel T c (upd (upd j l (.ext (gp l a))) a (.rb od (.dK i))) σ1:=by
    rcases m with m|m
    ·have y:=zF (μ:=c) (od:=od) m;exact⟨A.trans y,k.keep y (λb hb=>we (λz=>hn (by rw[<-z];exact hb))) (k.tb.out (λb hb=>we hb) (.inr ⟨_,m⟩))⟩
    ·rw[Qu m];exact⟨A,k⟩
   exact Cb.here (R:=uo T) (Cb.mono Z p) W (dG fg (yf.mono Z (OA S U)))
  ·rw[ga Y]at p;exact p.elim
 |ref n=>
  dsimp only at p;cases O:σ1[n]? with
  |none=>rw[O]at p;exact p.elim
  |some o=>
   rw[O]at p;obtain⟨a,rfl,hn,L⟩:=P.at V O;cases o with
   |va i=>
    obtain⟨vs,B,G⟩:=L;have q:Rd j a (.dK vs):=.inl B;refine⟨⟨a,vs,rfl,q⟩,a,vs,rfl,rfl,q,λl g=>?_⟩;have t:a≠l:=bn B g;have r:upd j l (.ext (gp l a)) a=some (.dK vs):=by rw[we t];exact B
    refine⟨l,a,vs,rfl,fg,.inl r,λod _=>?_⟩;have A:Ext c j c (upd j l (.ext (gp l a))):=Lj g;have k:Rel T c (upd j l (.ext (gp l a))) σ1:=P.fresh g;have K:Ext c (upd j l (.ext (gp l a))) c (upd (upd j l (.ext (gp l a))) a (.rb od (.dK vs))):=Pr (Ga hn) r (λ_ z=>by cases z) (λ_ _ z=>by cases z);have x:yf T c (upd (upd j l (.ext (gp l a))) a (.rb od (.dK vs))) i vs:=yf.mono (A.trans K) G;have wr:=k.write (o:=.rb od (.dK vs)) (ob:=.lb i) hn ⟨od,vs,fg,x⟩ (λkv z=>by rw[O]at z;cases z);exact Cb.here (R:=uo T) (Cb.mono (A.trans K) p) wr.2 (dG fg x)
   |lb i=>
    obtain⟨J,vs,B,G⟩:=L;have q:Rd j a (.dK vs):=.inr ⟨J,B⟩;refine⟨⟨a,vs,rfl,q⟩,a,vs,rfl,rfl,q,λl g=>?_⟩;have t:a≠l:=bn B g;have r:upd j l (.ext (gp l a)) a=some (.rb J (.dK vs)):=by rw[we t];exact B
    refine⟨l,a,vs,rfl,fg,.inr ⟨J,r⟩,λod m=>?_⟩;have A:Ext c j c (upd j l (.ext (gp l a))):=Lj g;have k:Rel T c (upd j l (.ext (gp l a))) σ1:=P.fresh g;rcases m with m|m
    ·rw[r]at m;cases m
    ·rw[Qu m];exact Cb.here (R:=uo T) (Cb.mono A p) k (dG m (yf.mono A G))
   |_=>exact p.elim
 |_=>exact p.elim
end
section
variable{T:Tb}{X:Cx}
end
noncomputable def CB(dds ds:List D):M (List D):=ret (ds++dds)
noncomputable def mx(dds:List D)(fs:Ev->M (List D)):Ev->M (List D):=λa=>Fc (fs a) (CB dds)
section
variable{T:Tb}{X:Cx}
theorem rV{k c:Nat}{ps:List qa}{a:List Value}{dvs:List V}{dds:List D}{fn:List D->M D}{x:qa}{p pos:se}{e:Ea}{es:List Ea}{fs:Ev->M (List D)}{f:Addr}{z:Ud}(hm:X.mg x=some (.ref (T.ca c)))(i:Mk T.K (T.ca c) f)(hb:Up T.K z ps a)
  (B:Og X.prog X.w T.K X.mg X.base (Qk X.prog X.w) k f z ps (Bo T ps.length fn)) (R:zd dvs a) (l:∀ μ H,Ra T μ H dds dvs) (F:T.K=X.K) (P:ke (k+1) X.A) (L:Gl X x)
  (G:FA T X (e::es) fs) (j:(x == ("__debug__" : qa))=false:=by decide) (J:na (e::es) X.env=(false,Gb e X.env)::na es X.env:=by rfl) (n:(vc pos (na es X.env)).any (·.1)=false:=by rfl) :
  FE T X (.Call (.Name x p) (e::es) [] pos) (jr c ps.length fn (mx dds fs)):=by
 rw[F]at i B hb;intro d s t H Q I O;obtain⟨μ,g,σ,E,o,N⟩:=O;have m:Cb T (XE X t) (Rep T) μ H (Fc (fs g) (λds=>Fp c ps.length fn (ds++dds)) σ) Q:=by
  have:jr c ps.length fn (mx dds fs) g σ=Fc (fs g) (λds=>Fp c ps.length fn (ds++dds)) σ:=by
   unfold jr mx CB Fc;cases fs g σ<;>rfl
  rw[<-this];exact N
 refine Sf (Yz I L hm ?_ j);refine Wl (h₀:=X.base) I.ok.mod.vw i.kp (Ad (G pos d s t H (λu b=>∀ x h,b x=none->b h=none->h≠x->Bo T ps.length fn (.ref x::(u++dvs)) (upd (upd b h (.own x)) x (.ins (T.ca c) h [])) (λv C=>v=.Hb/\Q (.ref x) C) (XE X t)) I ⟨μ,g,σ,E,o,m.bind λds a0 Z u b _ e1 Y S U=>?_⟩) λus s1 ⟨u,b,y,r,q⟩=>⟨y.Kj,?_⟩) J n
 ·have:=pL Y (Ra.append S (l _ _)) U;rw[Qd]at this;exact this
 ·exact QN (ds:=a) (dvs:=dvs) i B P hb R y r q
theorem qN{k c:Nat}{ps:List qa}{i a:List Value}{dvs:List V}{dds:List D}{fn:List D->M D}{x:qa}{p pos:se}{e:Ea}{es:List Ea}{fs:Ev->M (List D)}{f:Addr}(hm:X.mg x=some (.ref (T.ca c)))(m:Mk T.K (T.ca c) f)(h:Qr T X.prog X.w X.mg X.base k f ps i fn)(hd:a=[]\/a=i)(t:zd dvs a)(d:∀ μ H,Ra T μ H dds dvs)(l:T.K=X.K)(s:ke (k+1) X.A)(r:Gl X x)
  (n:FA T X (e::es) fs) (b:(x == ("__debug__" : qa))=false:=by decide) (q:na (e::es) X.env=(false,Gb e X.env)::na es X.env:=by rfl) (g:(vc pos (na es X.env)).any (·.1)=false:=by rfl) :
  FE T X (.Call (.Name x p) (e::es) [] pos) (jr c ps.length fn (mx dds fs)):=by
 obtain⟨u,hb,o,j⟩:=h;exact rV hm m (by rcases hd with rfl|rfl<;>assumption) j t d l s r n b q g
end
structure iz(P:ra)(w:Ia)(K:W.Frag)(mg:qa->Option Value)(base:Heap)(k:Nat)(f:Addr)(fd:Ud)(ps:List qa)(sp:Sp):Prop where
 len:∀ vs H Q E,sp vs H Q E->vs.length=ps.length
 run:∀ (A:Ja) (outer:List Cg) (s:Shared) (H:Hp) (args:Args) (us:List Value) (vs:List V) (Q:VK) (E:XK),ke k { A with handled:=none }->xl P w K mg base A outer s H->Xe s fd args (ps.zip us)->zd vs us->sp vs H Q E->
  codeAny (model P w) A (.call (.ref f) args) (CR (Qk P w) outer P w H s Q E) s
section
variable{P:ra}{w:Ia}{K:W.Frag}{mg:qa->Option Value}{base:Heap}{ca:Nat->Addr}{tx:Tx}{T:Tb}{k:Nat}{f:Addr}{ps:List qa}
noncomputable def uH(T:Tb)(P:ra)(w:Ia)(mg:qa->Option Value)(base:Heap)(k:Nat)(x:qa)(ps:List qa)(fn:List D->M D):Prop:=
 ∃ f b,mg x=some (.ref f)/\W.keepIn T.K (.ref f)=true/\(∀ a:List Value,a.length=ps.length->bindArgs b ⟨a,[]⟩=pure (ps.zip a))/\iz P w T.K mg base k f b ps (Bo T ps.length fn)
theorem uH.hide{k:Nat}{x:qa}{ps:List qa}{fn:List D->M D}(h:uH T P w mg base k x ps fn):uH T P w mg base k x ps (L4.hide fn):=by rw[Jk];exact h
end
section
variable{T:Tb}{X:Cx}
noncomputable def Wt:List D->Option (List Key)
 |[]=>some []
 |d::ds=>match qm d,Wt ds with
  |some k,some a=>some (k::a)
  |_,_=>none
theorem qH{μ:List Addr}{H:Hp}:∀ {ds:List D} {vs:List V} {ks:List Key},Ra T μ H ds vs->Wt ds=some ks->vs=ks.map kV
 |[],vs,ks,h,e=>by rw[Ra]at h;cases e;exact h
 |d::ds,vs,ks,h,e=>by
  rw[Ra]at h;obtain⟨v,r,rfl,b,c⟩:=h;unfold Wt at e;cases e1:qm d with
  |none=>rw[e1]at e;cases e
  |some k=>
   cases a:Wt ds with
   |none=>rw[e1,a]at e;cases e
   |some f=>
    rw[e1,a]at e;cases e;rw[Gz b e1,qH c a];rfl
noncomputable def ZN:Ev->M D:=λ_ a=>.ok (.ref a.length) (a++[.og []])
theorem o0{pos:se}:FE T X (.Dict [] [] pos) ZN:=by
 intro a s d H Q I h;obtain⟨e,g,i,f,b,c⟩:=h;refine mR a s d H Q I λp hn=>?_;exact c (e++[p]) (.ref p) _ (Lu hn) (b.push hn ⟨[],fg,rfl⟩) (MA b)
open Classical in
noncomputable def eD(ks:List (List Key))(k:List Key):List (List Key):=if k∈ks then ks else ks++[k]
open Classical in
theorem zX(kvs:List (List Key × V))(k:List Key)(v:V):(wj kvs k v).map (·.1)=if k∈kvs.map (·.1)then kvs.map (·.1)else kvs.map (·.1)++[k]:=by
 unfold wj;by_cases h:k∈kvs.map (·.1)
 ·have:(kvs.any λb=>decide (b.1=k))=true:=by
   obtain⟨p,a,e⟩:=Dc.mp h;exact kg.mpr ⟨p,a,by simpa using e⟩
  rw[da this,da h,Mg];refine Ir λp a=>?_;show (if p.1=k then (p.1,v)else p).1=p.1;split<;>rfl
 ·have:¬ (kvs.any λb=>decide (b.1=k))=true:=λz=>by
   obtain⟨p,a,e⟩:=kg.mp z;exact h (Dc.mpr ⟨p,a,by simpa using e⟩)
  rw[ga this,ga h,im];rfl
noncomputable def aB(ρ:Ev)(x y:D):M Fl:=λb=>match x,y with
 | .ref n,.tup c=>(match Wt c,b[n]? with
  |some k,some (.og a)=>if a.length<Ch then .ok (.nx ρ) (b.set n (.og (eD a k)))else .bad
  |_,_=>.bad)
 |_,_=>.bad
noncomputable def AG(ρ:Ev)(fi:Ev->M D)(x:D):M Fl:=xs ρ (fi ρ) (aB ρ x)
noncomputable def hG(ρ:Ev)(a fi:Ev->M D)(_:D):M Fl:=xs ρ (a ρ) (AG ρ fi)
noncomputable def xF(f b fi:Ev->M D):Ev->M Fl:=λa=>xs a (f a) (hG a b fi)
theorem sW{e o i:Ea}{f S fi:Ev->M D}{pos c:se}(hu:X.A.units+9<cLine)(he:FE T X e f)(ho:FE T X o S)(hi:FE T X i fi)
  (ha:∀ v,ah (.Subscript o i c) X.env v=(do
   let r <-Ce [v] (Gb o X.env);let F <-Ce [v,r] (Gb i X.env)
   ak c
   Ce [v,r,F] (Qp r F v)
   bz [v,r,F] []):=by intro _;rfl)
  (hs:Zk [.Subscript o i c] e pos.line X.env=pure false:=by rfl) (hw:al [.Subscript o i c] e X.env=pure none:=by rfl)
  (h1:(Td [.Subscript o i c] X.env).map (·.2)=[ah (.Subscript o i c) X.env]:=by rfl):FS T X (.Assign [.Subscript o i c] e pos) (xF f S fi):=by
 intro l s W H D I hq;refine KG he (dH ho hi (PK hu) ha) hs hw h1 l s W H D I ?_;obtain⟨μ,N,σ,h,hr,hp⟩:=hq;refine⟨μ,N,σ,h,hr,hp.xs h λd O K v H1 _ e1 r1 q1 p1=>?_⟩;refine⟨K,N,O,h.mono e1,r1,p1.xs (h.mono e1) λx P L vo H2 _ p r2 q2 p2=>?_⟩;refine⟨L,N,P,(h.mono e1).mono p,r2,p2.xs ((h.mono e1).mono p) λy Q m vi R _ u V U g=>?_⟩;have hd:Rep T m R d v:=Rep.mono u _ _ (Rep.mono p _ _ q1);have hx:Rep T m R x vo:=Rep.mono u _ _ q2;unfold aB at g;cases x with
 |ref n=>
  cases y with
  |tup ys=>
   dsimp only at g;cases w:Wt ys with
   |none=>rw[w]at g;exact g.elim
   |some k=>
    rw[w]at g;cases q:Q[n]? with
    |none=>rw[q]at g;exact g.elim
    |some ob=>
     rw[q]at g;cases ob with
     |og G=>
      dsimp only at g;by_cases C:G.length<Ch
      ·rw[da C]at g;obtain⟨a,rfl,hn,Y,Z,g2⟩:=V.at hx q;rw[Rep]at U;obtain⟨b,ws,rfl,hb,E⟩:=U;have B:=qH E w;subst B;have J:=V.write (o:=.dT (wj Y k v)) (ob:=.og (eD G k)) hn ⟨_,fg,by
        subst g2;rw[zX];rfl⟩ (λkv z=>by rw[q]at z;cases z)
       have j:Y.length=G.length:=by rw[<-g2,Ta]
       exact⟨a,_,rfl,Zv.t Z hb (by rw[j];exact Da C (by decide)),g _ (.nx W) _ J.1 J.2 (((h.mono e1).mono p).mono u |>.mono J.1)⟩
      ·rw[ga C]at g;exact g.elim
     |_=>exact g.elim
  |_=>exact g.elim
 |_=>exact g.elim
end
section
variable{T:Tb}{X:Cx}
theorem LN(k:List Key):∀ vs:List (List Key × V),(Zm vs k).isSome=true ↔ k∈vs.map (·.1)
 |[]=>by rw[pY];simp
 |p::vs=>by
  by_cases e:p.1=k
  ·rw[Dz e];simp[e]
  ·rw[zA e,LN k vs,za,Ca];exact⟨.inr,λz=>z.elim (λy=>absurd y.symm e) id⟩
open Classical in
noncomputable def xz(y x:D):M D:=λa=>match y,x with
 | .tup c,.ref n=>(match Wt c,a[n]? with
  |some k,some (.og b)=>.ok (.bl (decide (k∈b))) a
  |_,_=>.bad)
 |_,_=>.bad
theorem vU:gk T kE xz:=by
 intro E w H m y x u v Q r q p h;unfold xz at h;cases y with
 |tup l=>
  cases x with
  |ref n=>
   dsimp only at h;cases c:Wt l with
   |none=>rw[c]at h;exact h.elim
   |some k=>
    rw[c]at h;cases e:m[n]? with
    |none=>rw[e]at h;exact h.elim
    |some i=>
     rw[e]at h;cases i with
     |og o=>
      dsimp only at h;obtain⟨a,rfl,hn,j,g,g2⟩:=r.at p e;rw[Rep]at q;obtain⟨b,s,rfl,hb,f⟩:=q;have d:=qH f c;subst d;refine⟨a,Zm j k,rfl,Zh.t g hb,Cb.here h r ?_⟩;rw[Rep];congr 1;rw[Bool.eq_iff_iff,LN,g2];simp
     |_=>exact h.elim
  |_=>exact h.elim
 |_=>exact h.elim
theorem KW{c:List Addr}{f:Hp}{src:Src}{J:It}(h:Ju T c f src J):uo T c f src.nx J:=λk H g i ex r=>by
 have q:=h k H g i ex r;cases e:src.nx i g with
 |none=>trivial
 |some o=>
  rw[e]at q;cases o with
  |none=>exact q
  |some d=>exact⟨q.1,λx j y=>let ⟨a,b⟩:=q.2 x j y;by subst a;exact⟨Ext.refl _ _,r,b⟩⟩
noncomputable def gE(s:Src):M NX:=ret s.nx
noncomputable def toN(f:Ev->M Src):Ev->M NX:=λa=>Fc (f a) gE
theorem Ky{tg a:Ea}{f:Ev->M Src}(h:FI T X tg a f):Bu T X tg a (toN f):=by
 intro b s m H R I g;obtain⟨n,p,q,c,e,d⟩:=g;exact h b s m H R I ⟨n,p,q,c,e,d.bind λl r o J t _ e1 k j i=>Cb.here i k (KW j)⟩
theorem l3{B j u:Ea}{G:List Ea}{scope:Scope}{pos K py:se}{x y z0:qa}{i:Nat}{M':List qa}{ix:List Nat}{src:Ev->M NX}{tg:D->Ev->Option Ev}{fi:Ev->M Bool}{fe:Ev->M D}
  (hN:X.N.Nodup) (hi:X.N[i]?=some y) (hx:Loc X.env.scope y)
  (hc:X.calm=true) (L:cq X x M' ix scope) (Y:Bu T X u j src)
  (b5:∀ cl C s₀ H₀ ex,FG T (Rr X (x::z0::M') scope cl C s₀ H₀ ex) u tg)
  (a8:∀ cl C s₀ H₀ ex,Tz T (Rr X (x::z0::M') scope cl C s₀ H₀ ex) G fi)
  (V:∀ cl C s₀ H₀ ex,FE T (Rr X (x::z0::M') scope cl C s₀ H₀ ex) B fe)
  (hs:∀ y,vg j X.env y=pure y:=by intro _;rfl)
  (b3:Di (.ListComp B [⟨u,j,G,0⟩] scope pos) (some (.Name y py)) K.line X.env=pure true:=by rfl)
  (hf:X.fn y=true\/X.env.scope.names.lookup y=some .local:=by first|exact .inl rfl|exact .inr rfl|assumption) :
  FS T X (.Assign [.Name y py] (.ListComp B [⟨u,j,G,0⟩] scope pos) K) (aj i (mo src ix tg fi fe)):=by
 intro t s P H D I h;obtain⟨μ,ρ,σ,hE,hr,b1⟩:=h;have hp:Cb T (XE X P) (Rep T) μ H (mo src ix tg fi fe ρ σ) (λv S=>D.nx (P.set i (some v)) S):=b1.xs hE λd a4 a3 v S _ e1 r1 q1 p1=>Cb.here (g:=ul.nx (P.set i (some v))) p1 r1 ((hE.mono e1).set i q1);rw[exec_Assign_Name_used _ _ _ _ b3];refine aa (Dr (aa ?_));show wpAny _ X.A (do let _ <-comprehension (.ListComp B [⟨u,j,G,0⟩] scope pos) scope X.env _ (M4 []) false (Gb j X.env) (some (ah (.Name y py) X.env))) _ _ s;refine aa (Uc (Hr (use:=some (ah (.Name y py) X.env)) (Q:=λ_ s'=>SP X t D .next s') rfl hs (QK X.env scope (zD I L)) L.kind (λy hy e=>?_)
  ?_) (λ_ s' hq=>ia (ia hq)) λ_ _ e=>e)
 ·have q:=jg.mp L.names y hy;rw[e]at q;simp only[Pp,sj,qg]at q;exact eq_of_beq q
 have h1:=Y t s P H (λJ w=>∃ nx k l,Ext μ H k w/\Rel T k w l/\uo T k w nx J/\Cb T (XE X P) (Rep T) k w (Fc (bi nx l.length tg fi fe 1001 0 (Ks ix ρ)) (λ_=>ret (.ref l.length)) (l++[Ob.lst []])) (λv S=>D.nx (P.set i (some v)) S)) I
  ⟨μ,ρ,σ,hE,hr,hp.bind λnx a4 a3 J S _ e1 r1 q1 p1=>⟨nx,a3,a4,e1,r1,q1,p1⟩⟩
 refine Ad h1 λv s1 h2=>Ad h2 λb8 f h3=>?_;obtain⟨it,fp,tn,J,w,rfl,I2,TT,a2,f2,nx,k,l,a5,r2,so,p2⟩:=h3;refine Ib (lv (qF L) (by intro y hy;simp at hy) (λZ E F=>?_) L.kind);have R:=I2.Mw (ys:=[]) (its:=[]) (t':=f.toks) .nil (by simp);have U:w f.heap.objs.size=none:=I2.Pb.fresh (ja _);have r3:=r2.push (p:=f.heap.objs.size) (o:=.lst []) (ob:=.lst []) U ⟨[],fg,Ra.nil⟩;have O:Ext k w (k++[f.heap.objs.size]) (upd w f.heap.objs.size (.lst [])):=Lu U;have b4:f.heap.objs.size<(f.heap.push { cls:=.type "list",data:=.seq ([]:List Value).toArray }).objs.size:=by rw[dc];exact yb _
 have kp:∀ b o,(f.heap.push { cls:=.type "list",data:=.seq ([]:List Value).toArray }).get? b=some o->Z.get? b=some o:=λb o e=>F.extBut b o (ua (pa e)) (ba _ e);have m:∀ b∈fp,dr X t (upd w f.heap.objs.size (.lst [])) b/\b<(f.heap.push { cls:=.type "list",data:=.seq ([]:List Value).toArray }).objs.size:=λb hb=>by
  obtain⟨o,e,_⟩:=TT.obj 0 _ a2 b hb;have lt:=pa e;exact⟨⟨by rw[we (ua lt)];exact(f2 b hb).1,(f2 b hb).2⟩,Tf lt b4⟩
 refine yO (s3:={ f with heap:=f.heap.push { cls:=.type "list",data:=.seq ([]:List Value).toArray },toks:=f.toks }) (n:=l.length) (D0:=f.heap.objs.size) hc L b5 a8 V R m E kp TT (TT.keep 0 _ _ a2 λb hb o e=>kp b o (ba _ e))
  (λμ H σ i ex r=>so μ H σ i (O.trans ex) r) ((hE.mono a5).mono O) r3 (by rw[<-r2.len];simp) (p2.mono O) (λs6 H' m6 a9 a6 b6 b0 W a7 hq=>?_)
 have I6:=L2.Inv.Ps (s':=s6) (ch:=fp) R b0 b6 W a7 (λb hb=>⟨(m b hb).1.2.2.2.1,(m b hb).1.2.1,(m b hb).1.2.2.2.2.1,(m b hb).1.2.2.2.2.2⟩);have a1:X.env.locals<(f.heap.push { cls:=.type "list",data:=.seq ([]:List Value).toArray }).objs.size:=R.lt;have a0:∀ z c,X.env.cells.lookup z=some c->c<(f.heap.push { cls:=.type "list",data:=.seq ([]:List Value).toArray }).objs.size:=λz c e=>by
  obtain⟨v,q⟩:=R.cell z c e;exact q.lt
 show wpAny _ X.A (ah (.Name y py) X.env (.ref f.heap.objs.size)) _ _ s6;refine My (oN (v:=.ref f.heap.objs.size) I6 hN hi hx rfl (λs7 I7 ⟨a,sb,ha⟩=>?_) hf);have b7:a≠(f.heap.push { cls:=.type "list",data:=.seq ([]:List Value).toArray }).objs.size:=by
  rcases ha with rfl|ha
  ·exact ua a1
  ·exact ua (a0 _ _ ha)
 refine⟨m6,a9.sameBut sb (Fe b7),λh8 b2=>?_⟩;refine⟨P.set i (some (.ref f.heap.objs.size)),H',?_,hq⟩;exact I7.turned (t':=s7.toks) (it:=(f.heap.push { cls:=.type "list",data:=.seq ([]:List Value).toArray }).objs.size) (λb o hb e=>(b2.2 b hb).trans e) a6 (De a1) (.inr (Qa R.sz (ja _))) (λz c e=>ua (a0 z c e)) (λp hp=>ua (pa (R.pin p hp).1))
end
noncomputable def rA:Ev->M Bool:=λ_ _=>.bad
theorem nP{T:Tb}{X:Cx}{e:Ea}:FT T X e rA:=by
 intro a s f H Q I h;obtain⟨g,i,j,c,d,b⟩:=h;exact b.elim
end L4
set_option maxHeartbeats 0
namespace K53
open PySem PySem.Spec PyProof.Rows L2 L4
noncomputable def top(i:Nat):Stmt:=PySem.Challenge.pw_sidebook_k53_days_and_looks.main.body.getD i (.Pass ⟨0,0,0,0⟩)
noncomputable def tx(K:W.Frag):Tx:=⟨[],0⟩
structure Txt(K:PySem.W.Frag)(mg:qa->Option Value)(ca:Nat->Addr):Prop where
 ce:ng K mg "_law_cell_at" (top 101) ["_law_script", "_law_k"]
 Kf:ng K mg "is_whole" (top 8) ["thing"]
 Eb:ng K mg "is_between" (top 9) ["thing", "least", "most"]
 Mf:ng K mg "is_hand" (top 11) ["thing"]
 qd:ng K mg "makes_a_pot" (top 49) ["thing"]
 be:ng K mg "checked_pots" (top 50) ["pots"]
 Sn:Jc K (ca 5) "__init__" "Claim.__init__" (Yd (top 42) 0) ["self", "whole"] (ca 17)
 Je:ng K mg "whole_of" (top 51) ["made"]
 Po:Jc K (ca 9) "__init__" "Book.__init__" (Yd (top 54) 0) ["self", "pots"] (ca 30)
 Jb:Jc K (ca 9) "made_of" "Book.made_of" (Yd (top 54) 14) ["self"] (ca 44)
 Se:ng K mg "check_span" (top 92) ["hand", "every", "pots"]
 Qb:Jc K (ca 15) "learn" "Keeper.learn" (Yd (top 96) 2) ["self", "words"] (ca 57)
 sd:Jc K (ca 15) "hold" "Keeper.hold" (Yd (top 96) 1) ["self", "account", "claim", "seen"] (ca 56)
 Lf:ng K mg "are_ties" (top 29) ["thing"]
 Te:ng K mg "are_shares" (top 28) ["thing"]
 gf:ng K mg "is_number" (top 14) ["thing"]
 Hf:ng K mg "is_stand" (top 30) ["thing"]
 ji:nD K mg "stand" (top 31) ["number", "shares", "ties"] [.none]
 li:ng K mg "first" (top 32) ["left", "right"]
 dq:Jc K (ca 10) "__init__" "Account.__init__" (Yd (top 63) 0) ["self", "pot", "side", "mine", "grant", "may", "strikes"] (ca 45)
 Fd:ng K mg "first_account" (top 67) ["pot", "side", "left", "right"]
 jq:Ym K (ca 15) "__init__" "Keeper.__init__" (Yd (top 96) 0) ["self", "hand", "every", "pots", "words"] [.none] (ca 55)
 Qf:ng K mg "words_of" (top 98) ["hand", "words"]
 To:Ym K (ca 16) "__init__" "Hall.__init__" (Yd (top 99) 0) ["self", "pots", "keeps", "every", "words"] [.none] (ca 79)
 ff:ng K mg "_law_pots" (top 102) ["_law_cell"]
 Cc:Jc K (ca 16) "band_can" "Hall.band_can" (Yd (top 99) 8) ["self", "thing"] (ca 87)
 wb:Jc K (ca 9) "check_pot" "Book.check_pot" (Yd (top 54) 1) ["self", "pot"] (ca 31)
 Dg:ng K mg "is_word" (top 12) ["thing"]
 pe:Jc K (ca 9) "show" "Book.show" (Yd (top 54) 4) ["self", "pot", "word"] (ca 34)
 Lc:Jc K (ca 16) "show" "Hall.show" (Yd (top 99) 18) ["self", "P", "W"] (ca 97)
 Db:Jc K (ca 16) "book" "Hall.book" (Yd (top 99) 1) ["self"] (ca 80)
 eb:Jc K (ca 9) "today" "Book.today" (Yd (top 54) 2) ["self"] (ca 32)
 Bb:Jc K (ca 15) "looked" "Keeper.looked" (Yd (top 96) 4) ["self"] (ca 59)
 Gd:Jc K (ca 6) "told" "Held.told" (Yd (top 43) 0) ["self"] (ca 18)
 me:Jc K (ca 9) "told" "Book.told" (Yd (top 54) 8) ["self", "pot"] (ca 38)
 gc:Jc K (ca 9) "shown_for" "Book.shown_for" (Yd (top 54) 9) ["self", "pot"] (ca 39)
 ic:Jc K (ca 9) "all_shown" "Book.all_shown" (Yd (top 54) 13) ["self"] (ca 43)
 Od:ng K mg "is_given_up" (top 95) ["account", "claim"]
 Mb:Jc K (ca 15) "strike_all" "Keeper.strike_all" (Yd (top 96) 20) ["self", "book"] (ca 75)
 ze:ng K mg "stands_told" (top 93) ["account", "claim"]
 Rf:ng K mg "ties_to" (top 94) ["account", "claim"]
 Sb:Jc K (ca 15) "show_all" "Keeper.show_all" (Yd (top 96) 22) ["self", "book"] (ca 77)
 jc:Jc K (ca 15) "lay_all" "Keeper.lay_all" (Yd (top 96) 23) ["self", "book"] (ca 78)
 Yb:Jc K (ca 15) "look" "Keeper.look" (Yd (top 96) 19) ["self", "book"] (ca 74)
 Zb:Jc K (ca 9) "next_day" "Book.next_day" (Yd (top 54) 3) ["self"] (ca 33)
 Kb:Jc K (ca 16) "next_day" "Hall.next_day" (Yd (top 99) 22) ["self"] (ca 101)
 Ie:ng K mg "_law_next" (top 103) ["_law_hall", "_law_looks", "_law_every"]
 gb:Jc K (ca 16) "keeper" "Hall.keeper" (Yd (top 99) 2) ["self", "hand"] (ca 81)
 Kc:Jc K (ca 16) "look" "Hall.look" (Yd (top 99) 21) ["self", "hand"] (ca 100)
 Re:ng K mg "_law_right" (top 104) ["_law_hall", "_law_looks", "_law_every", "_law_shown"]
 Wb:Jc K (ca 15) "words" "Keeper.words" (Yd (top 96) 3) ["self"] (ca 58)
 Gc:ng K mg "_law_words_right" (top 105) ["_law_hall", "_law_knows"]
 cn:ng K mg "law" (top 106) ["_law_script"]
 Ls:mg "all" = none
 kq:mg "bool" = none
 En:mg "dict" = none
 Sg:mg "enumerate" = none
 Us:mg "int" = none
 Ld:mg "isinstance" = none
 Ah:mg "len" = none
 Ni:mg "list" = none
 Ts:mg "min" = none
 yn:mg "range" = none
 Kq:mg "set" = none
 Th:mg "sorted" = none
 oi:mg "tuple" = none
 pq:hD K mg "HELD" ["held"]
 kf:∃ t,mg "MOST_COIN" = some (.int 1000000000000 t)
 Ag:∃ t,mg "MOST_EVERY" = some (.int 50 t)
 Ug:∃ t,mg "MOST_HAND" = some (.int 3 t)
 Yf:∃ t,mg "MOST_NUMBER" = some (.int 1000000 t)
 wh:∃ t,mg "MOST_POT" = some (.int 2 t)
 Qe:∃ t,mg "MOST_SHARE" = some (.int 2000000000000 t)
 Qg:∃ t,mg "MOST_TIES" = some (.int 6 t)
 Tg:∃ t,mg "MOST_WAIT" = some (.int 100 t)
 Vg:∃ t,mg "MOST_WORD" = some (.int 59 t)
 Wq:mg "NoStand" = some (.ref (ca 1))
 pr:PySem.W.excIn K (ca 1) Gy "ValueError.__new__" = true
 Il:mg "NoDeed" = some (.ref (ca 2))
 Ml:PySem.W.excIn K (ca 2) Gy "ValueError.__new__" = true
 Zo:mg "NoSpan" = some (.ref (ca 4))
 Wo:PySem.W.excIn K (ca 4) Gy "ValueError.__new__" = true
 af:L2.Bh K (ca 16)
 xn:L2.rc K (ca 16) "pots"
 Kk:L2.Bh K (ca 14)
 Gn:L2.rc K (ca 14) "pots"
 Ze:L2.Bh K (ca 9)
 Nn:L2.rc K (ca 9) "pots"
 Yo:L2.rc K (ca 9) "day"
 Hn:L2.Bh K (ca 7)
 Ro:L2.rc K (ca 7) "day"
 jp:L2.Bh K (ca 8)
 Pl:L2.rc K (ca 8) "whole"
 xm:L2.rc K (ca 7) "whole"
 Lq:L2.Bh K (ca 6)
 jm:L2.rc K (ca 6) "whole"
 Ms:L2.Bh K (ca 5)
 Al:L2.rc K (ca 5) "whole"
 fx:mg "Held" = some (.ref (ca 6))
 ev:L2.Mk K (ca 6) (ca 17)
 Ub:L2.Bh K (ca 15)
 Aj:L2.rc K (ca 15) "claims"
 Dl:L2.rc K (ca 9) "claims"
 lm:L2.rc K (ca 9) "shown"
 Uw:mg "Book" = some (.ref (ca 9))
 Su:L2.Mk K (ca 9) (ca 30)
 Rl:L2.rc K (ca 16) "public"
 yk:L2.md K (ca 9) "made_of" (ca 44)
 tm:L2.rc K (ca 16) "every"
 Ek:L2.rc K (ca 15) "every"
 om:L2.rc K (ca 14) "every"
 jk:L2.rc K (ca 16) "keepers"
 gj:L2.rc K (ca 16) "under_way"
 ol:L2.rc K (ca 16) "things"
 rl:L2.rc K (ca 15) "hand"
 ri:L2.rc K (ca 15) "last_look"
 fj:L2.rc K (ca 14) "last_look"
 Jl:L2.rc K (ca 15) "gave"
 Dk:L2.rc K (ca 15) "known"
 Gm:L2.rc K (ca 14) "known"
 Ji:L2.rc K (ca 15) "accounts"
 Tl:L2.rc K (ca 15) "seen"
 pk:L2.rc K (ca 15) "asked"
 xi:L2.rc K (ca 15) "finishing"
 rk:L2.md K (ca 15) "learn" (ca 57)
 Jf:L2.Bh K (ca 13)
 vl:L2.rc K (ca 13) "pot"
 Nf:L2.Bh K (ca 12)
 Hl:L2.rc K (ca 12) "pot"
 mi:L2.Bh K (ca 11)
 ip:L2.rc K (ca 11) "pot"
 Of:L2.Bh K (ca 10)
 ll:L2.rc K (ca 10) "pot"
 yl:L2.md K (ca 15) "hold" (ca 56)
 zk:L2.rc K (ca 13) "side"
 vk:L2.rc K (ca 12) "side"
 Qn:L2.rc K (ca 11) "side"
 sk:L2.rc K (ca 10) "side"
 Cm:L2.rc K (ca 8) "side"
 vn:L2.rc K (ca 7) "side"
 wk:L2.rc K (ca 13) "mine"
 fk:L2.rc K (ca 12) "mine"
 Bn:L2.rc K (ca 11) "mine"
 ik:L2.rc K (ca 10) "mine"
 Hj:L2.rc K (ca 13) "grant"
 Ij:L2.rc K (ca 12) "grant"
 Em:L2.rc K (ca 11) "grant"
 Fj:L2.rc K (ca 10) "grant"
 Ul:L2.rc K (ca 13) "may"
 zl:L2.rc K (ca 12) "may"
 No:L2.rc K (ca 11) "may"
 Ol:L2.rc K (ca 10) "may"
 Ki:L2.rc K (ca 13) "strikes"
 Li:L2.rc K (ca 12) "strikes"
 qk:L2.rc K (ca 11) "strikes"
 Qi:L2.rc K (ca 10) "strikes"
 Fw:mg "Calm" = some (.ref (ca 11))
 Ru:L2.Mk K (ca 11) (ca 45)
 yt:mg "Keeper" = some (.ref (ca 15))
 yr:L2.Mk K (ca 15) (ca 55)
 uw:mg "Hall" = some (.ref (ca 16))
 Xu:L2.Mk K (ca 16) (ca 79)
 Oj:L2.md K (ca 16) "band_can" (ca 87)
 jj:L2.md K (ca 9) "check_pot" (ca 31)
 Mn:L2.md K (ca 9) "show" (ca 34)
 On:L2.md K (ca 16) "show" (ca 97)
 zn:L2.md K (ca 16) "book" (ca 80)
 ym:L2.md K (ca 9) "today" (ca 32)
 Bj:L2.md K (ca 15) "looked" (ca 59)
 Ln:L2.md K (ca 6) "told" (ca 18)
 wn:L2.md K (ca 9) "told" (ca 38)
 ej:L2.md K (ca 9) "shown_for" (ca 39)
 lj:L2.md K (ca 9) "all_shown" (ca 43)
 Vh:L2.md K (ca 15) "strike_all" (ca 75)
 Ri:L2.md K (ca 15) "show_all" (ca 77)
 mj:L2.md K (ca 15) "lay_all" (ca 78)
 El:L2.md K (ca 15) "look" (ca 74)
 Mj:L2.md K (ca 9) "next_day" (ca 33)
 Cj:L2.md K (ca 16) "next_day" (ca 101)
 Sl:L2.md K (ca 16) "keeper" (ca 81)
 Jn:L2.md K (ca 16) "look" (ca 100)
 xk:L2.md K (ca 15) "words" (ca 58)
seal L2.PE L2.PS L2.Nq L2.PT L2.PW L2.PA L2.PI L2.PG
section
variable{P:ra}{w:Ia}{K:W.Frag}{mg:qa->Option Value}{base:Heap}{ca:Nat->Addr}
theorem bg{N P:List qa}{sc:Scope}(a:sc.kind=.function)(b:sc.isCoroutine=false)(c:sc.isGenerator=false)(h:N.Nodup/\N.take P.length=P/\(∀ x∈P,sc.names.lookup x=some .local\/sc.names.lookup x=some .cell)/\∀ y∈sc.names,y.2≠.free):Ka N P sc:=⟨a,b,c,h.1,h.2.1,h.2.2.1,h.2.2.2⟩
noncomputable abbrev BD(x q:qa)(s:Stmt)(ps:List qa):Prop:=∀ (kV b c:Value) (an:Option Addr) (a ct:Value) (us:List Value),us.length=ps.length->bindArgs (W.fnOf x q (ml s) (Ei s) (pd s) .none kV b c an a ct) ⟨us,[]⟩=pure (ps.zip us)
noncomputable abbrev gK:Stmt:=top 101
noncomputable def UJ:Ev->M Fl:=
 (wc (Ih (eT (Xb oLt (ya 1) (Tj Ao (ib (ya 0) Ab)))) (cg (Xb Oe (ya 0) (ya 1))) ti) (cg (eC (.int 0))))
noncomputable def ce:List D->M D:=hide λa=>rb (run 2 UJ a)
theorem FR:Ka ["_law_script", "_law_k"] ["_law_script", "_law_k"] (pd gK):=bg rfl rfl rfl (by decide +kernel)
theorem DX:BD "_law_cell_at" "_law_cell_at" gK ["_law_script", "_law_k"]:=
 λ_ _ _ _ _ _ b a=>match b,a with|[_,_],_=>rfl
theorem dS(a:Txt K mg ca):Ae ⟨K,ca,tx K⟩ P w mg base 1 "_law_cell_at" ["_law_script", "_law_k"] ce:=
 Ae.hide (Ae.rb (nl a.ce FR λ_ _ _ _ _ _ _ b=>
  (Jd (Ii (Oi fE pH (Fa 1) (Xq Yu (Eu rfl) rfl a.Ah Rc (ub (Fa 0) Bc)) (Mh _)) (Vc (Bg (qi ki (pi rfl) (Fa 0) (Fa 1) (λ_ _=>rfl)))) oj)
  (Vc (Bg Mc)))))
noncomputable abbrev DJ:Stmt:=top 8
noncomputable def yI:Ev->M Fl:=
 (cg (km (Xd (ar .int) (ya 0)) (DG (Xd (ar .bool) (ya 0)))))
noncomputable def Kf:List D->M D:=hide λa=>rb (run 1 yI a)
theorem wY:Ka ["thing"] ["thing"] (pd DJ):=bg rfl rfl rfl (by decide +kernel)
theorem eW:BD "is_whole" "is_whole" DJ ["thing"]:=
 λ_ _ _ _ _ _ b a=>match b,a with|[_],_=>rfl
theorem y1(a:Txt K mg ca):Ae ⟨K,ca,tx K⟩ P w mg base 1 "is_whole" ["thing"] Kf:=
 Ae.hide (Ae.rb (nl a.Kf wY λ_ _ _ _ _ _ _ b=>
  (Vc (Bg (Pn (Lx .int (Fa 0) rfl a.Ld rfl a.Us boot_int) (Hu (wZ (Lx .bool (Fa 0) rfl a.Ld rfl a.kq boot_bool))))))))
noncomputable abbrev zO:Stmt:=top 9
noncomputable def hL:Ev->M Fl:=
 (cg (km (bh 1 Kf [] (ib (ya 0) Ab)) (DE oLe oLe (ya 1) (ya 0) (ya 2))))
noncomputable def Eb:List D->M D:=hide λa=>rb (run 3 hL a)
theorem zev:Ka ["thing", "least", "most"] ["thing", "least", "most"] (pd zO):=bg rfl rfl rfl (by decide +kernel)
theorem E3:BD "is_between" "is_between" zO ["thing", "least", "most"]:=
 λ_ _ _ _ _ _ b a=>match b,a with|[_,_,_],_=>rfl
theorem qu(a:Txt K mg ca):Ae ⟨K,ca,tx K⟩ P w mg base 2 "is_between" ["thing", "least", "most"] Eb:=
 Ae.hide (Ae.rb (nl a.Eb zev λ_ _ _ _ _ _ _ b=>
  (Vc (Bg (Pn (si (y1 a) rfl (b.mono (by decide)) rfl (ub (Fa 0) Bc)) (Hu (nR cP ZJ cP ZJ (Fa 1) (Fa 0) (Fa 2))))))))
noncomputable abbrev aO:Stmt:=top 11
noncomputable def fP:Ev->M Fl:=
 (cg (bh 3 Eb [] (ib (ya 0) (ib (eC (.int 0)) (ib (eC (.int 3)) Ab)))))
noncomputable def Mf:List D->M D:=hide λa=>rb (run 1 fP a)
theorem oU:Ka ["thing"] ["thing"] (pd aO):=bg rfl rfl rfl (by decide +kernel)
theorem Y2:BD "is_hand" "is_hand" aO ["thing"]:=
 λ_ _ _ _ _ _ b a=>match b,a with|[_],_=>rfl
theorem QI(a:Txt K mg ca):Ae ⟨K,ca,tx K⟩ P w mg base 3 "is_hand" ["thing"] Mf:=
 Ae.hide (Ae.rb (nl a.Mf oU λ_ _ _ _ _ _ _ b=>
  (Vc (Bg (si (qu a) rfl (b.mono (by decide)) rfl (ub (Fa 0) (ub Mc (ub (Ss (u:=.int 3 (a.Ug).choose) rfl (a.Ug).choose_spec ⟨_,rfl⟩) Bc))))))))
noncomputable abbrev WN:Stmt:=top 49
noncomputable def cK:Ev->M Fl:=
 (cg (km (Xd (ar .tuple) (ya 0)) (km (Xb oEq (Tj Ao (ib (ya 0) Ab)) (eC (.int 5))) (km (bh 1 Mf [] (ib (Xb Oe (ya 0) (eC (.int 0))) Ab)) (km (bh 1 Mf [] (ib (Xb Oe (ya 0) (eC (.int 1))) Ab)) (km (Xb iq (Xb Oe (ya 0) (eC (.int 0))) (Xb Oe (ya 0) (eC (.int 1)))) (km (bh 3 Eb [] (ib (Xb Oe (ya 0) (eC (.int 2))) (ib (eC (.int 0)) (ib (eC (.int 1000000000000)) Ab)))) (km (bh 3 Eb [] (ib (Xb Oe (ya 0) (eC (.int 3))) (ib (eC (.int 0)) (ib (eC (.int 1000000000000)) Ab)))) (bh 3 Eb [] (ib (Xb Oe (ya 0) (eC (.int 4))) (ib (eC (.int 1)) (ib (eC (.int 100)) Ab))))))))))))
noncomputable def qd:List D->M D:=hide λa=>rb (run 1 cK a)
theorem oW:Ka ["thing"] ["thing"] (pd WN):=bg rfl rfl rfl (by decide +kernel)
theorem jT:BD "makes_a_pot" "makes_a_pot" WN ["thing"]:=
 λ_ _ _ _ _ _ b a=>match b,a with|[_],_=>rfl
theorem T3(a:Txt K mg ca):Ae ⟨K,ca,tx K⟩ P w mg base 4 "makes_a_pot" ["thing"] qd:=
 Ae.hide (Ae.rb (nl a.qd oW λ_ _ _ _ _ _ _ b=>
  (Vc (Bg (Pn (Lx .tuple (Fa 0) rfl a.Ld rfl a.oi xq) (Pn (Wr (js (Eg b)) Sk (Xq Yu (Eu rfl) rfl a.Ah Rc (ub (Fa 0) Bc)) Mc (Mh _)) (Pn (si (QI a) rfl (b.mono (by decide)) rfl (ub (qi ki (pi rfl) (Fa 0) Mc (λ_ _=>rfl)) Bc)) (Pn (si (QI a) rfl (b.mono (by decide)) rfl (ub (qi ki (pi rfl) (Fa 0) Mc (λ_ _=>rfl)) Bc)) (Pn (Wr (ky (Eg b)) Sk (qi ki (pi rfl) (Fa 0) Mc (λ_ _=>rfl)) (qi ki (pi rfl) (Fa 0) Mc (λ_ _=>rfl)) (Mh _)) (Pn (si (qu a) rfl (b.mono (by decide)) rfl (ub (qi ki (pi rfl) (Fa 0) Mc (λ_ _=>rfl)) (ub Mc (ub (Ss (u:=.int 1000000000000 (a.kf).choose) rfl (a.kf).choose_spec ⟨_,rfl⟩) Bc)))) (Pn (si (qu a) rfl (b.mono (by decide)) rfl (ub (qi ki (pi rfl) (Fa 0) Mc (λ_ _=>rfl)) (ub Mc (ub (Ss (u:=.int 1000000000000 (a.kf).choose) rfl (a.kf).choose_spec ⟨_,rfl⟩) Bc)))) (Hu (si (qu a) rfl (b.mono (by decide)) rfl (ub (qi ki (pi rfl) (Fa 0) Mc (λ_ _=>rfl)) (ub Mc (ub (Ss (u:=.int 100 (a.Tg).choose) rfl (a.Tg).choose_spec ⟨_,rfl⟩) Bc))))))))))))))))
noncomputable abbrev GM:Stmt:=top 50
noncomputable abbrev LB:Ev->M Fl:=(Ih (Qx (eT (Xb xC (ya 1) (eC (.int 2)))) (br (eT (bh 1 qd [] (ib (ya 2) Ab))))) Sr ti)
noncomputable def BN:Ev->M Fl:=
 (wc (io (iD (ya 0)) (zo 2 (Bi (Ed 1) (Bi (Ed 2) bp))) LB) (cg (Zi (Tj Vr (ib (ya 0) Ab)))))
noncomputable def be:List D->M D:=hide λa=>rb (run 3 BN a)
theorem AF:Ka ["pots", "number", "made"] ["pots"] (pd GM):=bg rfl rfl rfl (by decide +kernel)
theorem JR:BD "checked_pots" "checked_pots" GM ["pots"]:=
 λ_ _ _ _ _ _ b a=>match b,a with|[_],_=>rfl
theorem wT(a:Txt K mg ca):Ae ⟨K,ca,tx K⟩ P w mg base 5 "checked_pots" ["pots"] be:=
 Ae.hide (Ae.rb (nl a.be AF λ_ _ _ _ _ _ _ b=>
  (Jd (gu sm rfl (pM rfl a.Sg (Fa 0)) (nw rfl (Iq (Uh (i:=1) AF.nd rfl (Or.inl rfl)) (Iq (Uh (i:=2) AF.nd rfl (Or.inl rfl)) Gw))) (Vc (Ii (L2.PW.pt (MB (Oi jE YE (Fa 1) (Ss (u:=.int 2 (a.wh).choose) rfl (a.wh).choose_spec ⟨_,rfl⟩) (Mh _)) (XC (tt (Ur (si (T3 a) rfl (b.mono (by decide)) rfl (ub (Fa 2) Bc))))))) (Vc IZ) oj)))
  (Vc (Bg (Ap (pw qC (TC rfl) rfl a.Ni Zn (ub (Fa 0) Bc))))))))
theorem Aw(a:Txt K mg ca):Xi ⟨K,ca,tx K⟩ [9,14,16] "pots":=(Pf (T:=⟨K,ca,tx K⟩) (c:=9) a.Ze a.Nn (Pf (T:=⟨K,ca,tx K⟩) (c:=14) a.Kk a.Gn (Pf (T:=⟨K,ca,tx K⟩) (c:=16) a.af a.xn Rk)))
theorem WC(a:Txt K mg ca):Xi ⟨K,ca,tx K⟩ [7,9] "day":=(Pf (T:=⟨K,ca,tx K⟩) (c:=7) a.Hn a.Ro (Pf (T:=⟨K,ca,tx K⟩) (c:=9) a.Ze a.Yo Rk))
theorem dU(a:Txt K mg ca):Xi ⟨K,ca,tx K⟩ [5,6,7,8] "whole":=(Pf (T:=⟨K,ca,tx K⟩) (c:=5) a.Ms a.Al (Pf (T:=⟨K,ca,tx K⟩) (c:=6) a.Lq a.jm (Pf (T:=⟨K,ca,tx K⟩) (c:=7) a.Hn a.xm (Pf (T:=⟨K,ca,tx K⟩) (c:=8) a.jp a.Pl Rk))))
noncomputable abbrev NM:Stmt:=Yd (top 42) 0
noncomputable def BO:Ev->M Fl:=
 (zi [5,6,7,8] "whole" (ya 1) (ya 0))
noncomputable def Sn:List D->M D:=hide (run 2 BO)
theorem BW:Ka ["self", "whole"] ["self", "whole"] (pd NM):=bg rfl rfl rfl (by decide +kernel)
theorem tR:BD "__init__" "Claim.__init__" NM ["self", "whole"]:=
 λ_ _ _ _ _ _ b a=>match b,a with|[_,_],_=>rfl
theorem yS(a:Txt K mg ca):ye ⟨K,ca,tx K⟩ P w mg base 1 (ca 17) ["self", "whole"] Sn:=
 ye.hide (Vj a.Sn BW λ_ _ _ _ _ _ b=>
  (Vc (vj rfl (dU a) (Fa 0) (Fa 1))))
noncomputable abbrev YJ:Stmt:=top 51
noncomputable def CI:Ev->M Fl:=
 (cg (Xb Yq (Xb Oe (ya 0) (eC (.int 2))) (Xb Oe (ya 0) (eC (.int 3)))))
noncomputable def Je:List D->M D:=hide λa=>rb (run 1 CI a)
theorem US:Ka ["made"] ["made"] (pd YJ):=bg rfl rfl rfl (by decide +kernel)
theorem S1:BD "whole_of" "whole_of" YJ ["made"]:=
 λ_ _ _ _ _ _ b a=>match b,a with|[_],_=>rfl
theorem t0(a:Txt K mg ca):Ae ⟨K,ca,tx K⟩ P w mg base 1 "whole_of" ["made"] Je:=
 Ae.hide (Ae.rb (nl a.Je US λ_ _ _ _ _ _ _ b=>
  (Vc (Bg (jl (sy rfl) Sk (qi ki (pi rfl) (Fa 0) Mc (λ_ _=>rfl)) (qi ki (pi rfl) (Fa 0) Mc (λ_ _=>rfl)))))))
theorem lx(a:Txt K mg ca):Xi ⟨K,ca,tx K⟩ [9,15] "claims":=(Pf (T:=⟨K,ca,tx K⟩) (c:=9) a.Ze a.Dl (Pf (T:=⟨K,ca,tx K⟩) (c:=15) a.Ub a.Aj Rk))
theorem Az(a:Txt K mg ca):Xi ⟨K,ca,tx K⟩ [9] "shown":=(Pf (T:=⟨K,ca,tx K⟩) (c:=9) a.Ze a.lm Rk)
noncomputable abbrev EL:Stmt:=Yd (top 54) 0
noncomputable def WJ:Ev->M Fl:=
 (wc (zi [9,14,16] "pots" (bh 1 be [] (ib (ya 1) Ab)) (ya 0)) (wc (zi [7,9] "day" (eC (.int 0)) (ya 0)) (wc (zi [9,15] "claims" (Zi (mo (toN (Gi (Xd (Tc [9,14,16] "pots") (ya 0)))) [] (Ed 0) wo (Zi (jr 6 2 Sn (ib (bh 1 Je [] (ib (ya 0) Ab)) Ab))))) (ya 0)) (zi [9] "shown" (mo (toN (Gi (Xd (Tc [9,14,16] "pots") (ya 0)))) [] (Ed 0) wo Xo) (ya 0)))))
noncomputable def Po:List D->M D:=hide (run 2 WJ)
theorem zT:Ka ["self", "pots"] ["self", "pots"] (pd EL):=bg rfl rfl rfl (by decide +kernel)
theorem mU:BD "__init__" "Book.__init__" EL ["self", "pots"]:=
 λ_ _ _ _ _ _ b a=>match b,a with|[_,_],_=>rfl
theorem QY(a:Txt K mg ca):ye ⟨K,ca,tx K⟩ P w mg base 6 (ca 30) ["self", "pots"] Po:=
 ye.hide (Vj a.Po zT λ_ _ _ _ _ _ b=>
  (Jd (vj rfl (Aw a) (Fa 0) (si (wT a) rfl (b.mono (by decide)) rfl (ub (Fa 1) Bc)))
  (Jd (vj rfl (WC a) (Fa 0) Mc)
  (Jd (vj rfl (lx a) (Fa 0) (Ap (Hy (x:="made") (z0:="0") (M':=[]) (ix:=[]) rfl ⟨rfl,rfl,rfl,rfl,rfl,rfl⟩ (Ky (Jp rfl (Jg rfl (Aw a) (Fa 0)))) (λ_ _ _ _ _=>Uh (i:=0) (by show List.Nodup (("made"::"0"::[]):List qa);decide +kernel) rfl (Or.inl rfl)) (λ_ _ _ _ _=>bA) (λ_ _ _ _ _=>(Ap (pF (c:=6) (ps:=["self", "whole"]) ⟨_,a.fx,a.ev,yS a⟩ rfl (b.mono (by decide)) rfl (ub (si (t0 a) rfl (b.mono (by decide)) rfl (ub (Fa 0) Bc)) Bc)))))))
  (Vc (vj rfl (Az a) (Fa 0) (Hy (x:="made") (z0:="0") (M':=[]) (ix:=[]) rfl ⟨rfl,rfl,rfl,rfl,rfl,rfl⟩ (Ky (Jp rfl (Jg rfl (Aw a) (Fa 0)))) (λ_ _ _ _ _=>Uh (i:=0) (by show List.Nodup (("made"::"0"::[]):List qa);decide +kernel) rfl (Or.inl rfl)) (λ_ _ _ _ _=>bA) (λ_ _ _ _ _=>Zs))))))))
theorem uv(a:Txt K mg ca):Xi ⟨K,ca,tx K⟩ [16] "public":=(Pf (T:=⟨K,ca,tx K⟩) (c:=16) a.af a.Rl Rk)
noncomputable abbrev DO:Stmt:=Yd (top 54) 14
noncomputable def HL:Ev->M Fl:=
 (cg (Zi (Tj Vr (ib (Xd (Tc [9,14,16] "pots") (ya 0)) Ab))))
noncomputable def Jb:List D->M D:=hide λa=>rb (run 1 HL a)
theorem CZ:Ka ["self"] ["self"] (pd DO):=bg rfl rfl rfl (by decide +kernel)
theorem XT:BD "made_of" "Book.made_of" DO ["self"]:=
 λ_ _ _ _ _ _ b a=>match b,a with|[_],_=>rfl
theorem O3(a:Txt K mg ca):ye ⟨K,ca,tx K⟩ P w mg base 1 (ca 44) ["self"] Jb:=
 ye.hide (ye.rb (Vj a.Jb CZ λ_ _ _ _ _ _ b=>
  (Vc (Bg (Ap (pw qC (TC rfl) rfl a.Ni Zn (ub (Jg rfl (Aw a) (Fa 0)) Bc)))))))
theorem AI(a:Txt K mg ca):Wj ⟨K,ca,tx K⟩ P w mg base 1 "made_of" ["self"] [(9,Jb)]:=(il (T:=⟨K,ca,tx K⟩) (c:=9) a.Ze a.yk (O3 a) (by decide) ql)
theorem gG(a:Txt K mg ca):Xi ⟨K,ca,tx K⟩ [14,15,16] "every":=(Pf (T:=⟨K,ca,tx K⟩) (c:=14) a.Kk a.om (Pf (T:=⟨K,ca,tx K⟩) (c:=15) a.Ub a.Ek (Pf (T:=⟨K,ca,tx K⟩) (c:=16) a.af a.tm Rk)))
theorem Ey(a:Txt K mg ca):Xi ⟨K,ca,tx K⟩ [16] "keepers":=(Pf (T:=⟨K,ca,tx K⟩) (c:=16) a.af a.jk Rk)
theorem fU(a:Txt K mg ca):Xi ⟨K,ca,tx K⟩ [16] "under_way":=(Pf (T:=⟨K,ca,tx K⟩) (c:=16) a.af a.gj Rk)
theorem cH(a:Txt K mg ca):Xi ⟨K,ca,tx K⟩ [16] "things":=(Pf (T:=⟨K,ca,tx K⟩) (c:=16) a.af a.ol Rk)
noncomputable abbrev MI:Stmt:=top 92
noncomputable abbrev rG:Ev->M Fl:=(Ih (Wu (eT (Xb (bx false) (ya 0) (AH (ya 3) none (some (eC (.int 2)))))) (eT (Xb oLt (Xb Oe (ya 3) (eC (.int 4))) (Xb Yq (ya 1) (eC (.int 1)))))) (Iw 4 (ib (eC (.str "a pot waits too short for this hand")) Ab)) ti)
noncomputable def qI:Ev->M Fl:=
 (wc (Ih (br (eT (bh 3 Eb [] (ib (ya 1) (ib (eC (.int 1)) (ib (eC (.int 50)) Ab)))))) (Iw 4 (ib (eC (.str "no hand looks each so many days")) Ab)) ti) (Cp (Gi (ya 2)) (Ed 3) rG))
noncomputable def Se:List D->M D:=hide λa=>rb (run 4 qI a)
theorem pN:Ka ["hand", "every", "pots", "made"] ["hand", "every", "pots"] (pd MI):=bg rfl rfl rfl (by decide +kernel)
theorem UZ:BD "check_span" "check_span" MI ["hand", "every", "pots"]:=
 λ_ _ _ _ _ _ b a=>match b,a with|[_,_,_],_=>rfl
theorem mQ(a:Txt K mg ca):Ae ⟨K,ca,tx K⟩ P w mg base 3 "check_span" ["hand", "every", "pots"] Se:=
 Ae.hide (Ae.rb (nl a.Se pN λ_ _ _ _ _ _ _ b=>
  (Jd (Ii (tt (Ur (si (qu a) rfl (b.mono (by decide)) rfl (ub (Fa 1) (ub Mc (ub (Ss (u:=.int 50 (a.Ag).choose) rfl (a.Ag).choose_spec ⟨_,rfl⟩) Bc)))))) (Vc (dy 4 uc rfl a.Wo a.Zo rfl rfl (ub Rs Bc))) oj)
  (Vc (Ys sm rfl (Jp rfl (Fa 2)) (Uh (i:=3) pN.nd rfl (Or.inl rfl)) (Vc (Ii (L2.PW.pt (uz (Oi nK (AO rfl false) (Fa 0) (AX rfl (Fa 3) I1 (lZ Mc)) rfl) (nz (Oi fE pH (qi ki (pi rfl) (Fa 3) Mc (λ_ _=>rfl)) (jl (sy rfl) Sk (Fa 1) Mc) (Mh _))))) (Vc (dy 4 uc rfl a.Wo a.Zo rfl rfl (ub Rs Bc))) oj)))))))
theorem gW(a:Txt K mg ca):Xi ⟨K,ca,tx K⟩ [15] "hand":=(Pf (T:=⟨K,ca,tx K⟩) (c:=15) a.Ub a.rl Rk)
theorem wF(a:Txt K mg ca):Xi ⟨K,ca,tx K⟩ [14,15] "last_look":=(Pf (T:=⟨K,ca,tx K⟩) (c:=14) a.Kk a.fj (Pf (T:=⟨K,ca,tx K⟩) (c:=15) a.Ub a.ri Rk))
theorem cX(a:Txt K mg ca):Xi ⟨K,ca,tx K⟩ [15] "gave":=(Pf (T:=⟨K,ca,tx K⟩) (c:=15) a.Ub a.Jl Rk)
theorem eF(a:Txt K mg ca):Xi ⟨K,ca,tx K⟩ [14,15] "known":=(Pf (T:=⟨K,ca,tx K⟩) (c:=14) a.Kk a.Gm (Pf (T:=⟨K,ca,tx K⟩) (c:=15) a.Ub a.Dk Rk))
theorem By(a:Txt K mg ca):Xi ⟨K,ca,tx K⟩ [15] "accounts":=(Pf (T:=⟨K,ca,tx K⟩) (c:=15) a.Ub a.Ji Rk)
theorem UG(a:Txt K mg ca):Xi ⟨K,ca,tx K⟩ [15] "seen":=(Pf (T:=⟨K,ca,tx K⟩) (c:=15) a.Ub a.Tl Rk)
theorem vT(a:Txt K mg ca):Xi ⟨K,ca,tx K⟩ [15] "asked":=(Pf (T:=⟨K,ca,tx K⟩) (c:=15) a.Ub a.pk Rk)
theorem HI(a:Txt K mg ca):Xi ⟨K,ca,tx K⟩ [15] "finishing":=(Pf (T:=⟨K,ca,tx K⟩) (c:=15) a.Ub a.xi Rk)
noncomputable abbrev EO:Stmt:=Yd (top 96) 2
noncomputable abbrev DD:Ev->M Fl:=(Gp (eC (.bl true)) (Xd (Tc [14,15] "known") (ya 0)) (ya 2))
noncomputable def hJ:Ev->M Fl:=
 (Cp (Gi (ya 1)) (Ed 2) DD)
noncomputable def Qb:List D->M D:=hide (run 3 hJ)
theorem bO:Ka ["self", "words", "word"] ["self", "words"] (pd EO):=bg rfl rfl rfl (by decide +kernel)
theorem SR:BD "learn" "Keeper.learn" EO ["self", "words"]:=
 λ_ _ _ _ _ _ b a=>match b,a with|[_,_],_=>rfl
theorem FX(a:Txt K mg ca):ye ⟨K,ca,tx K⟩ P w mg base 1 (ca 57) ["self", "words"] Qb:=
 ye.hide (Vj a.Qb bO λ_ _ _ _ _ _ b=>
  (Vc (Ys sm rfl (Jp rfl (Fa 1)) (Uh (i:=2) bO.nd rfl (Or.inl rfl)) (Vc (Mq (Eg b) mq (Jg rfl (eF a) (Fa 0)) (Fa 2))))))
theorem JJ(a:Txt K mg ca):Wj ⟨K,ca,tx K⟩ P w mg base 1 "learn" ["self", "words"] [(15,Qb)]:=(il (T:=⟨K,ca,tx K⟩) (c:=15) a.Ub a.rk (FX a) (by decide) ql)
theorem uD(a:Txt K mg ca):Xi ⟨K,ca,tx K⟩ [10,11,12,13] "pot":=(Pf (T:=⟨K,ca,tx K⟩) (c:=10) a.Of a.ll (Pf (T:=⟨K,ca,tx K⟩) (c:=11) a.mi a.ip (Pf (T:=⟨K,ca,tx K⟩) (c:=12) a.Nf a.Hl (Pf (T:=⟨K,ca,tx K⟩) (c:=13) a.Jf a.vl Rk))))
noncomputable abbrev DL:Stmt:=Yd (top 96) 1
noncomputable def iL:Ev->M Fl:=
 (wc (Gp (ya 1) (Xd (Tc [15] "accounts") (ya 0)) (Xd (Tc [10,11,12,13] "pot") (ya 1))) (wc (Gp (ya 2) (Xd (Tc [9,15] "claims") (ya 0)) (Xd (Tc [10,11,12,13] "pot") (ya 1))) (Gp (ya 3) (Xd (Tc [15] "seen") (ya 0)) (Xd (Tc [10,11,12,13] "pot") (ya 1)))))
noncomputable def sd:List D->M D:=hide (run 4 iL)
theorem mS:Ka ["self", "account", "claim", "seen"] ["self", "account", "claim", "seen"] (pd DL):=bg rfl rfl rfl (by decide +kernel)
theorem TZ:BD "hold" "Keeper.hold" DL ["self", "account", "claim", "seen"]:=
 λ_ _ _ _ _ _ b a=>match b,a with|[_,_,_,_],_=>rfl
theorem BS(a:Txt K mg ca):ye ⟨K,ca,tx K⟩ P w mg base 1 (ca 56) ["self", "account", "claim", "seen"] sd:=
 ye.hide (Vj a.sd mS λ_ _ _ _ _ _ b=>
  (Jd (Mq (Eg b) (Fa 1) (Jg rfl (By a) (Fa 0)) (Jg rfl (uD a) (Fa 1)))
  (Jd (Mq (Eg b) (Fa 2) (Jg rfl (lx a) (Fa 0)) (Jg rfl (uD a) (Fa 1)))
  (Vc (Mq (Eg b) (Fa 3) (Jg rfl (UG a) (Fa 0)) (Jg rfl (uD a) (Fa 1)))))))
theorem rT(a:Txt K mg ca):Wj ⟨K,ca,tx K⟩ P w mg base 1 "hold" ["self", "account", "claim", "seen"] [(15,sd)]:=(il (T:=⟨K,ca,tx K⟩) (c:=15) a.Ub a.yl (BS a) (by decide) ql)
noncomputable abbrev BJ:Stmt:=top 29
noncomputable def GJ:Ev->M Fl:=
 (wc (Ih (Qx (br (eT (Xd (ar .tuple) (ya 0)))) (eT (Xb xC (Tj Ao (ib (ya 0) Ab)) (eC (.int 6))))) (cg (eC (.bl false))) ti) (wc (Ih (br (eT (Tj sC (ib (Zi (mo (toN (Gi (ya 0))) [] (Ed 0) wo Mz)) Ab)))) (cg (eC (.bl false))) ti) (cg (Xb oEq (Xd Dy (Zi (mo (toN (Gi (ya 0))) [] (Ed 0) wo Mz))) (Tj Ao (ib (ya 0) Ab))))))
noncomputable def Lf:List D->M D:=hide λa=>rb (run 1 GJ a)
theorem AU:Ka ["thing"] ["thing"] (pd BJ):=bg rfl rfl rfl (by decide +kernel)
theorem uY:BD "are_ties" "are_ties" BJ ["thing"]:=
 λ_ _ _ _ _ _ b a=>match b,a with|[_],_=>rfl
theorem E1(a:Txt K mg ca):Ae ⟨K,ca,tx K⟩ P w mg base 1 "are_ties" ["thing"] Lf:=
 Ae.hide (Ae.rb (nl a.Lf AU λ_ _ _ _ _ _ _ b=>
  (Jd (Ii (L2.PW.pt (MB (tt (Ur (Lx .tuple (Fa 0) rfl a.Ld rfl a.oi xq))) (XC (Oi jE YE (Xq Yu (Eu rfl) rfl a.Ah Rc (ub (Fa 0) Bc)) (Ss (u:=.int 6 (a.Qg).choose) rfl (a.Qg).choose_spec ⟨_,rfl⟩) (Mh _))))) (Vc (Bg mq)) oj)
  (Jd (Ii (tt (Ur (Xq (WR rfl) (TU rfl) rfl a.Ls boot_all (ub (Ap (Hy (x:="tie") (z0:="0") (M':=[]) (ix:=[]) rfl ⟨rfl,rfl,rfl,rfl,rfl,rfl⟩ (Ky (Jp rfl (Fa 0))) (λ_ _ _ _ _=>Uh (i:=0) (by show List.Nodup (("tie"::"0"::[]):List qa);decide +kernel) rfl (Or.inl rfl)) (λ_ _ _ _ _=>bA) (λ_ _ _ _ _=>HD))) Bc)))) (Vc (Bg mq)) oj)
  (Vc (Bg (Wr (js (Eg b)) Sk (j2 rfl rfl rfl a.Ah rfl a.Kq (Ap (Hy (x:="tie") (z0:="0") (M':=[]) (ix:=[]) rfl ⟨rfl,rfl,rfl,rfl,rfl,rfl⟩ (Ky (Jp rfl (Fa 0))) (λ_ _ _ _ _=>Uh (i:=0) (by show List.Nodup (("tie"::"0"::[]):List qa);decide +kernel) rfl (Or.inl rfl)) (λ_ _ _ _ _=>bA) (λ_ _ _ _ _=>HD)))) (Xq Yu (Eu rfl) rfl a.Ah Rc (ub (Fa 0) Bc)) (Mh _))))))))
noncomputable abbrev cI:Stmt:=top 28
noncomputable def kO:Ev->M Fl:=
 (cg (km (Xd (ar .tuple) (ya 0)) (km (Xb oEq (Tj Ao (ib (ya 0) Ab)) (eC (.int 2))) (km (bh 3 Eb [] (ib (Xb Oe (ya 0) (eC (.int 0))) (ib (eC (.int 0)) (ib (eC (.int 2000000000000)) Ab)))) (bh 3 Eb [] (ib (Xb Oe (ya 0) (eC (.int 1))) (ib (eC (.int 0)) (ib (eC (.int 2000000000000)) Ab))))))))
noncomputable def Te:List D->M D:=hide λa=>rb (run 1 kO a)
theorem qR:Ka ["thing"] ["thing"] (pd cI):=bg rfl rfl rfl (by decide +kernel)
theorem WW:BD "are_shares" "are_shares" cI ["thing"]:=
 λ_ _ _ _ _ _ b a=>match b,a with|[_],_=>rfl
theorem oT(a:Txt K mg ca):Ae ⟨K,ca,tx K⟩ P w mg base 3 "are_shares" ["thing"] Te:=
 Ae.hide (Ae.rb (nl a.Te qR λ_ _ _ _ _ _ _ b=>
  (Vc (Bg (Pn (Lx .tuple (Fa 0) rfl a.Ld rfl a.oi xq) (Pn (Wr (js (Eg b)) Sk (Xq Yu (Eu rfl) rfl a.Ah Rc (ub (Fa 0) Bc)) Mc (Mh _)) (Pn (si (qu a) rfl (b.mono (by decide)) rfl (ub (qi ki (pi rfl) (Fa 0) Mc (λ_ _=>rfl)) (ub Mc (ub (Ss (u:=.int 2000000000000 (a.Qe).choose) rfl (a.Qe).choose_spec ⟨_,rfl⟩) Bc)))) (Hu (si (qu a) rfl (b.mono (by decide)) rfl (ub (qi ki (pi rfl) (Fa 0) Mc (λ_ _=>rfl)) (ub Mc (ub (Ss (u:=.int 2000000000000 (a.Qe).choose) rfl (a.Qe).choose_spec ⟨_,rfl⟩) Bc))))))))))))
noncomputable abbrev aM:Stmt:=top 14
noncomputable def AN:Ev->M Fl:=
 (cg (bh 3 Eb [] (ib (ya 0) (ib (eC (.int 0)) (ib (eC (.int 1000000)) Ab)))))
noncomputable def gf:List D->M D:=hide λa=>rb (run 1 AN a)
theorem YT:Ka ["thing"] ["thing"] (pd aM):=bg rfl rfl rfl (by decide +kernel)
theorem aV:BD "is_number" "is_number" aM ["thing"]:=
 λ_ _ _ _ _ _ b a=>match b,a with|[_],_=>rfl
theorem LX(a:Txt K mg ca):Ae ⟨K,ca,tx K⟩ P w mg base 3 "is_number" ["thing"] gf:=
 Ae.hide (Ae.rb (nl a.gf YT λ_ _ _ _ _ _ _ b=>
  (Vc (Bg (si (qu a) rfl (b.mono (by decide)) rfl (ub (Fa 0) (ub Mc (ub (Ss (u:=.int 1000000 (a.Yf).choose) rfl (a.Yf).choose_spec ⟨_,rfl⟩) Bc))))))))
noncomputable abbrev mL:Stmt:=top 30
noncomputable def UO:Ev->M Fl:=
 (cg (km (Xd (ar .tuple) (ya 0)) (km (Xb oEq (Tj Ao (ib (ya 0) Ab)) (eC (.int 3))) (km (bh 1 gf [] (ib (Xb Oe (ya 0) (eC (.int 0))) Ab)) (km (bh 1 Te [] (ib (Xb Oe (ya 0) (eC (.int 1))) Ab)) (bh 1 Lf [] (ib (Xb Oe (ya 0) (eC (.int 2))) Ab)))))))
noncomputable def Hf:List D->M D:=hide λa=>rb (run 1 UO a)
theorem SZ:Ka ["thing"] ["thing"] (pd mL):=bg rfl rfl rfl (by decide +kernel)
theorem m4:BD "is_stand" "is_stand" mL ["thing"]:=
 λ_ _ _ _ _ _ b a=>match b,a with|[_],_=>rfl
theorem DT(a:Txt K mg ca):Ae ⟨K,ca,tx K⟩ P w mg base 4 "is_stand" ["thing"] Hf:=
 Ae.hide (Ae.rb (nl a.Hf SZ λ_ _ _ _ _ _ _ b=>
  (Vc (Bg (Pn (Lx .tuple (Fa 0) rfl a.Ld rfl a.oi xq) (Pn (Wr (js (Eg b)) Sk (Xq Yu (Eu rfl) rfl a.Ah Rc (ub (Fa 0) Bc)) Mc (Mh _)) (Pn (si (LX a) rfl (b.mono (by decide)) rfl (ub (qi ki (pi rfl) (Fa 0) Mc (λ_ _=>rfl)) Bc)) (Pn (si (oT a) rfl (b.mono (by decide)) rfl (ub (qi ki (pi rfl) (Fa 0) Mc (λ_ _=>rfl)) Bc)) (Hu (si (E1 a) rfl (b.mono (by decide)) rfl (ub (qi ki (pi rfl) (Fa 0) Mc (λ_ _=>rfl)) Bc)))))))))))
noncomputable abbrev lw:Stmt:=top 31
noncomputable def iM:Ev->M Fl:=
 (wc (aj 3 (qr (ib (ya 0) (ib (ya 1) (ib (wy (eT (Xb Zr (ya 2) (eC .Hb))) (qr Ab) (ya 2)) Ab))))) (wc (Ih (br (eT (bh 1 Hf [] (ib (ya 3) Ab)))) (Iw 1 (ib (eC (.str "number, shares and ties make no stand")) Ab)) ti) (cg (ya 3))))
noncomputable def ji:List D->M D:=hide λa=>rb (run 4 iM a)
theorem JO:Ka ["number", "shares", "ties", "made"] ["number", "shares", "ties"] (pd lw):=bg rfl rfl rfl (by decide +kernel)
theorem vR(t:Addr)(kV b g:Value)(d:Option Addr)(a ct:Value)(s:Shared)(o:Obj)(n:Nat)(us:List Value)(e:s.heap.get? t=some o)(f:o.data=.seq ([Sa]:List Value).toArray n) :
  ((us++[]).length=(["number", "shares", "ties"]:List qa).length->Xe s (W.fnOf "stand" "stand" (ml lw) (Ei lw) (pd lw) (.ref t) kV b g d a ct) ⟨us,[]⟩ ((["number", "shares", "ties"]:List qa).zip (us++[])))/\
  ((us++[Sa]).length=(["number", "shares", "ties"]:List qa).length->Xe s (W.fnOf "stand" "stand" (ml lw) (Ei lw) (pd lw) (.ref t) kV b g d a ct) ⟨us,[]⟩ ((["number", "shares", "ties"]:List qa).zip (us++[Sa]))):=
 ⟨λc=>match us,(show us.length=3 by simpa using c)with|[_,_,_],_=>Zd rfl e f rfl rfl,λc=>match us,(show us.length=2 by simpa using c)with|[_,_],_=>Zd rfl e f rfl rfl⟩
theorem TY(a:Txt K mg ca):qt ⟨K,ca,tx K⟩ P w mg base 5 "stand" ["number", "shares", "ties"] [Sa] ji:=
 qt.hide (qt.rb (OZ a.ji JO λ_ _ _ _ _ _ _ b=>
  (Jd (Kl (i:=3) JO.nd rfl (Or.inl rfl) (ot (ub (Fa 0) (ub (Fa 1) (ub (NE (Oi Ay Fy (Fa 2) dt (Mh _)) (ot Bc) (Fa 2)) Bc)))))
  (Jd (Ii (tt (Ur (si (DT a) rfl (b.mono (by decide)) rfl (ub (Fa 3) Bc)))) (Vc (dy 1 uc rfl a.pr a.Wq rfl rfl (ub Rs Bc))) oj)
  (Vc (Bg (Fa 3)))))))
noncomputable abbrev ON:Stmt:=top 32
noncomputable def KO:Ev->M Fl:=
 (cg (bh 3 ji [.Hb] (ib (eC (.int 0)) (ib (qr (ib (ya 0) (ib (ya 1) Ab))) Ab))))
noncomputable def li:List D->M D:=hide λa=>rb (run 2 KO a)
theorem NW:Ka ["left", "right"] ["left", "right"] (pd ON):=bg rfl rfl rfl (by decide +kernel)
theorem GR:BD "first" "first" ON ["left", "right"]:=
 λ_ _ _ _ _ _ b a=>match b,a with|[_,_],_=>rfl
theorem qY(a:Txt K mg ca):Ae ⟨K,ca,tx K⟩ P w mg base 6 "first" ["left", "right"] li:=
 Ae.hide (Ae.rb (nl a.li NW λ_ _ _ _ _ _ _ b=>
  (Vc (Bg (jQ (TY a) rfl (b.mono (by decide)) rfl wU j1 (ub Mc (ub (ot (ub (Fa 0) (ub (Fa 1) Bc))) Bc)))))))
theorem jM(a:Txt K mg ca):Xi ⟨K,ca,tx K⟩ [7,8,10,11,12,13] "side":=(Pf (T:=⟨K,ca,tx K⟩) (c:=7) a.Hn a.vn (Pf (T:=⟨K,ca,tx K⟩) (c:=8) a.jp a.Cm (Pf (T:=⟨K,ca,tx K⟩) (c:=10) a.Of a.sk (Pf (T:=⟨K,ca,tx K⟩) (c:=11) a.mi a.Qn (Pf (T:=⟨K,ca,tx K⟩) (c:=12) a.Nf a.vk (Pf (T:=⟨K,ca,tx K⟩) (c:=13) a.Jf a.zk Rk))))))
theorem ZX(a:Txt K mg ca):Xi ⟨K,ca,tx K⟩ [10,11,12,13] "mine":=(Pf (T:=⟨K,ca,tx K⟩) (c:=10) a.Of a.ik (Pf (T:=⟨K,ca,tx K⟩) (c:=11) a.mi a.Bn (Pf (T:=⟨K,ca,tx K⟩) (c:=12) a.Nf a.fk (Pf (T:=⟨K,ca,tx K⟩) (c:=13) a.Jf a.wk Rk))))
theorem bU(a:Txt K mg ca):Xi ⟨K,ca,tx K⟩ [10,11,12,13] "grant":=(Pf (T:=⟨K,ca,tx K⟩) (c:=10) a.Of a.Fj (Pf (T:=⟨K,ca,tx K⟩) (c:=11) a.mi a.Em (Pf (T:=⟨K,ca,tx K⟩) (c:=12) a.Nf a.Ij (Pf (T:=⟨K,ca,tx K⟩) (c:=13) a.Jf a.Hj Rk))))
theorem GI(a:Txt K mg ca):Xi ⟨K,ca,tx K⟩ [10,11,12,13] "may":=(Pf (T:=⟨K,ca,tx K⟩) (c:=10) a.Of a.Ol (Pf (T:=⟨K,ca,tx K⟩) (c:=11) a.mi a.No (Pf (T:=⟨K,ca,tx K⟩) (c:=12) a.Nf a.zl (Pf (T:=⟨K,ca,tx K⟩) (c:=13) a.Jf a.Ul Rk))))
theorem dX(a:Txt K mg ca):Xi ⟨K,ca,tx K⟩ [10,11,12,13] "strikes":=(Pf (T:=⟨K,ca,tx K⟩) (c:=10) a.Of a.Qi (Pf (T:=⟨K,ca,tx K⟩) (c:=11) a.mi a.qk (Pf (T:=⟨K,ca,tx K⟩) (c:=12) a.Nf a.Li (Pf (T:=⟨K,ca,tx K⟩) (c:=13) a.Jf a.Ki Rk))))
noncomputable abbrev EI:Stmt:=Yd (top 63) 0
noncomputable def QM:Ev->M Fl:=
 (wc (zi [10,11,12,13] "pot" (ya 1) (ya 0)) (wc (zi [7,8,10,11,12,13] "side" (ya 2) (ya 0)) (wc (zi [10,11,12,13] "mine" (ya 3) (ya 0)) (wc (zi [10,11,12,13] "grant" (ya 4) (ya 0)) (wc (zi [10,11,12,13] "may" (Zi (Tj Vr (ib (ya 5) Ab))) (ya 0)) (zi [10,11,12,13] "strikes" (Zi (Tj Vr (ib (ya 6) Ab))) (ya 0)))))))
noncomputable def dq:List D->M D:=hide (run 7 QM)
theorem FQ:Ka ["self", "pot", "side", "mine", "grant", "may", "strikes"] ["self", "pot", "side", "mine", "grant", "may", "strikes"] (pd EI):=bg rfl rfl rfl (by decide +kernel)
theorem iQ:BD "__init__" "Account.__init__" EI ["self", "pot", "side", "mine", "grant", "may", "strikes"]:=
 λ_ _ _ _ _ _ b a=>match b,a with|[_,_,_,_,_,_,_],_=>rfl
theorem wX(a:Txt K mg ca):ye ⟨K,ca,tx K⟩ P w mg base 1 (ca 45) ["self", "pot", "side", "mine", "grant", "may", "strikes"] dq:=
 ye.hide (Vj a.dq FQ λ_ _ _ _ _ _ b=>
  (Jd (vj rfl (uD a) (Fa 0) (Fa 1))
  (Jd (vj rfl (jM a) (Fa 0) (Fa 2))
  (Jd (vj rfl (ZX a) (Fa 0) (Fa 3))
  (Jd (vj rfl (bU a) (Fa 0) (Fa 4))
  (Jd (vj rfl (GI a) (Fa 0) (Ap (pw qC (TC rfl) rfl a.Ni Zn (ub (Fa 5) Bc))))
  (Vc (vj rfl (dX a) (Fa 0) (Ap (pw qC (TC rfl) rfl a.Ni Zn (ub (Fa 6) Bc)))))))))))
noncomputable abbrev JM:Stmt:=top 67
noncomputable def FM:Ev->M Fl:=
 (wc (aj 4 (bh 2 li [] (ib (ya 2) (ib (ya 3) Ab)))) (cg (Zi (jr 11 7 dq (ib (ya 0) (ib (ya 1) (ib (ya 4) (ib (eC .Hb) (ib (fq (ib (ya 4) Ab)) (ib (fq Ab) Ab))))))))))
noncomputable def Fd:List D->M D:=hide λa=>rb (run 5 FM a)
theorem XN:Ka ["pot", "side", "left", "right", "mine"] ["pot", "side", "left", "right"] (pd JM):=bg rfl rfl rfl (by decide +kernel)
theorem QW:BD "first_account" "first_account" JM ["pot", "side", "left", "right"]:=
 λ_ _ _ _ _ _ b a=>match b,a with|[_,_,_,_],_=>rfl
theorem aT(a:Txt K mg ca):Ae ⟨K,ca,tx K⟩ P w mg base 7 "first_account" ["pot", "side", "left", "right"] Fd:=
 Ae.hide (Ae.rb (nl a.Fd XN λ_ _ _ _ _ _ _ b=>
  (Jd (Kl (i:=4) XN.nd rfl (Or.inl rfl) (si (qY a) rfl (b.mono (by decide)) rfl (ub (Fa 2) (ub (Fa 3) Bc))))
  (Vc (Bg (Ap (pF (c:=11) (ps:=["self", "pot", "side", "mine", "grant", "may", "strikes"]) ⟨_,a.Fw,a.Ru,wX a⟩ rfl (b.mono (by decide)) rfl (ub (Fa 0) (ub (Fa 1) (ub (Fa 4) (ub dt (ub (Ar (ub (Fa 4) Bc)) (ub (Ar Bc) Bc)))))))))))))
noncomputable abbrev qx:Stmt:=Yd (top 96) 0
noncomputable abbrev vF:Ev->M Fl:=(Ih (eT (Xb oEq (Xb Oe (ya 6) (ya 7)) (ya 1))) (pp (Df [(15,sd)] 4 "hold" (ya 0) (ib (bh 4 Fd [] (ib (ya 5) (ib (ya 7) (ib (Xb Oe (ya 6) (eC (.int 2))) (ib (Xb Oe (ya 6) (eC (.int 3))) Ab))))) (ib (eC (.gt ["held"])) (ib (eC (.va [] [])) Ab))))) ti)
noncomputable abbrev JC:Ev->M Fl:=(Cp (Gi (qr (ib (eC (.int 0)) (ib (eC (.int 1)) Ab)))) (Ed 7) vF)
noncomputable def fN:Ev->M Fl:=
 (wc (pp (bh 3 Se [] (ib (ya 1) (ib (ya 2) (ib (ya 3) Ab))))) (wc (zi [15] "hand" (ya 1) (ya 0)) (wc (zi [14,15,16] "every" (ya 2) (ya 0)) (wc (zi [14,15] "last_look" (eC (.int 0)) (ya 0)) (wc (zi [15] "gave" (eC (.int 0)) (ya 0)) (wc (zi [14,15] "known" Xo (ya 0)) (wc (zi [15] "accounts" Xo (ya 0)) (wc (zi [9,15] "claims" Xo (ya 0)) (wc (zi [15] "seen" Xo (ya 0)) (wc (zi [15] "asked" Xo (ya 0)) (wc (zi [15] "finishing" Xo (ya 0)) (wc (pp (Df [(15,Qb)] 2 "learn" (ya 0) (ib (wy (eT (Xb Zr (ya 4) (eC .Hb))) (fq Ab) (ya 4)) Ab))) (io (iD (ya 3)) (zo 2 (Bi (Ed 5) (Bi (Ed 6) bp))) JC)))))))))))))
noncomputable def jq:List D->M D:=hide (run 8 fN)
theorem uC:Ka ["self", "hand", "every", "pots", "words", "pot", "made", "side"] ["self", "hand", "every", "pots", "words"] (pd qx):=bg rfl rfl rfl (by decide +kernel)
theorem kU(t:Addr)(kV b g:Value)(d:Option Addr)(a ct:Value)(s:Shared)(o:Obj)(n:Nat)(us:List Value)(e:s.heap.get? t=some o)(f:o.data=.seq ([Sa]:List Value).toArray n) :
  ((us++[]).length=(["self", "hand", "every", "pots", "words"]:List qa).length->Xe s (W.fnOf "__init__" "Keeper.__init__" (ml qx) (Ei qx) (pd qx) (.ref t) kV b g d a ct) ⟨us,[]⟩ ((["self", "hand", "every", "pots", "words"]:List qa).zip (us++[])))/\
  ((us++[Sa]).length=(["self", "hand", "every", "pots", "words"]:List qa).length->Xe s (W.fnOf "__init__" "Keeper.__init__" (ml qx) (Ei qx) (pd qx) (.ref t) kV b g d a ct) ⟨us,[]⟩ ((["self", "hand", "every", "pots", "words"]:List qa).zip (us++[Sa]))):=
 ⟨λc=>match us,(show us.length=5 by simpa using c)with|[_,_,_,_,_],_=>Zd rfl e f rfl rfl,λc=>match us,(show us.length=4 by simpa using c)with|[_,_,_,_],_=>Zd rfl e f rfl rfl⟩
theorem TV(a:Txt K mg ca):Qr ⟨K,ca,tx K⟩ P w mg base 8 (ca 55) ["self", "hand", "every", "pots", "words"] [Sa] jq:=
 Qr.hide (AL a.jq uC λ_ _ _ _ _ _ b=>
  (Jd (qs (si (mQ a) rfl (b.mono (by decide)) rfl (ub (Fa 1) (ub (Fa 2) (ub (Fa 3) Bc)))))
  (Jd (vj rfl (gW a) (Fa 0) (Fa 1))
  (Jd (vj rfl (gG a) (Fa 0) (Fa 2))
  (Jd (vj rfl (wF a) (Fa 0) Mc)
  (Jd (vj rfl (cX a) (Fa 0) Mc)
  (Jd (vj rfl (eF a) (Fa 0) Zs)
  (Jd (vj rfl (By a) (Fa 0) Zs)
  (Jd (vj rfl (lx a) (Fa 0) Zs)
  (Jd (vj rfl (UG a) (Fa 0) Zs)
  (Jd (vj rfl (vT a) (Fa 0) Zs)
  (Jd (vj rfl (HI a) (Fa 0) Zs)
  (Jd (qs (Xm (k:=1) (ps:=["self", "words"]) rfl (Fa 0) (JJ a) (b.mono (by decide)) (ub (NE (Oi Ay Fy (Fa 4) dt (Mh _)) (Ar Bc) (Fa 4)) Bc)))
  (Vc (gu sm rfl (pM rfl a.Sg (Fa 3)) (nw rfl (Iq (Uh (i:=5) uC.nd rfl (Or.inl rfl)) (Iq (Uh (i:=6) uC.nd rfl (Or.inl rfl)) Gw))) (Vc (Ys sm rfl (Jp rfl (ot (ub Mc (ub Mc Bc)))) (Uh (i:=7) uC.nd rfl (Or.inl rfl)) (Vc (Ii (Oi (js (Eg b)) Sk (qi ki (pi rfl) (Fa 6) (Fa 7) (λ_ _=>rfl)) (Fa 1) (Mh _)) (Vc (qs (Xm (k:=1) (ps:=["self", "account", "claim", "seen"]) rfl (Fa 0) (rT a) (b.mono (by decide)) (ub (si (aT a) rfl (b.mono (by decide)) rfl (ub (Fa 5) (ub (Fa 7) (ub (qi ki (pi rfl) (Fa 6) Mc (λ_ _=>rfl)) (ub (qi ki (pi rfl) (Fa 6) Mc (λ_ _=>rfl)) Bc))))) (ub (V3 (ss:=["held"]) rfl a.pq) (ub KI Bc)))))) oj)))))))))))))))))))
noncomputable abbrev UL:Stmt:=top 98
noncomputable def VO:Ev->M Fl:=
 (cg (Zi (mo (qw (ya 1)) [0] (zo 2 (Bi (Ed 0) (Bi (Ed 1) bp))) (eT (Xb oEq (ya 1) (ya 2))) (ya 0))))
noncomputable def Qf:List D->M D:=hide λa=>rb (run 2 VO a)
theorem NQ:Ka ["hand", "words"] ["hand", "words"] (pd UL):=bg rfl rfl rfl (by decide +kernel)
theorem GV:BD "words_of" "words_of" UL ["hand", "words"]:=
 λ_ _ _ _ _ _ b a=>match b,a with|[_,_],_=>rfl
theorem WQ(a:Txt K mg ca):Ae ⟨K,ca,tx K⟩ P w mg base 1 "words_of" ["hand", "words"] Qf:=
 Ae.hide (Ae.rb (nl a.Qf NQ λ_ _ _ _ _ _ _ b=>
  (Vc (Bg (Ap (Hy (x:="word") (z0:="owner") (M':=["hand"]) (ix:=[0]) rfl ⟨rfl,rfl,rfl,rfl,rfl,rfl⟩ (nJ (Fa 1)) (λ_ _ _ _ _=>nw rfl (Iq (Uh (i:=0) (by show List.Nodup (("word"::"owner"::["hand"]):List qa);decide +kernel) rfl (Or.inl rfl)) (Iq (Uh (i:=1) (by show List.Nodup (("word"::"owner"::["hand"]):List qa);decide +kernel) rfl (Or.inl rfl)) Gw))) (λ_ _ _ _ _=>vL (Oi (js (Eg b)) Sk (Fa 1) (Fa 2) (Mh _))) (λ_ _ _ _ _=>(Fa 0))))))))
noncomputable abbrev zw:Stmt:=Yd (top 99) 0
noncomputable abbrev aD:Ev->M Fl:=(Gp (jr 15 5 jq (mx [] (ib (ya 6) (ib (ya 3) (ib (Xd (Tc [9,14,16] "pots") (ya 0)) (ib (bh 2 Qf [] (ib (ya 6) (ib (ya 5) Ab))) Ab)))))) (Xd (Tc [16] "keepers") (ya 0)) (ya 6))
noncomputable abbrev RB:Ev->M Fl:=(Ih (eT (Xb jt (ya 8) (Xd (Tc [16] "keepers") (ya 0)))) (xF (eC (.bl true)) (Xd (Tc [16] "things") (ya 0)) (qr (ib (eC (.str "word")) (ib (ya 7) Ab)))) ti)
noncomputable def RI:Ev->M Fl:=
 (wc (zi [16] "public" (jr 9 2 Po (ib (ya 1) Ab)) (ya 0)) (wc (zi [9,14,16] "pots" (Df [(9,Jb)] 1 "made_of" (Xd (Tc [16] "public") (ya 0)) Ab) (ya 0)) (wc (zi [14,15,16] "every" (ya 3) (ya 0)) (wc (zi [16] "keepers" Xo (ya 0)) (wc (zi [16] "under_way" (fq Ab) (ya 0)) (wc (zi [16] "things" ZN (ya 0)) (wc (aj 5 (wy (eT (Xb Zr (ya 4) (eC .Hb))) (eC (.va [] [])) (ya 4))) (wc (Cp (Gi (Zi (Xd Cw (ya 2)))) (Ed 6) aD) (io (qw (ya 5)) (zo 2 (Bi (Ed 7) (Bi (Ed 8) bp))) RB)))))))))
noncomputable def To:List D->M D:=hide (run 9 RI)
theorem Jz:Ka ["self", "pots", "keeps", "every", "words", "owners", "hand", "word", "owner"] ["self", "pots", "keeps", "every", "words"] (pd zw):=bg rfl rfl rfl (by decide +kernel)
theorem A0(t:Addr)(kV b g:Value)(d:Option Addr)(a ct:Value)(s:Shared)(o:Obj)(n:Nat)(us:List Value)(e:s.heap.get? t=some o)(f:o.data=.seq ([Sa]:List Value).toArray n) :
  ((us++[]).length=(["self", "pots", "keeps", "every", "words"]:List qa).length->Xe s (W.fnOf "__init__" "Hall.__init__" (ml zw) (Ei zw) (pd zw) (.ref t) kV b g d a ct) ⟨us,[]⟩ ((["self", "pots", "keeps", "every", "words"]:List qa).zip (us++[])))/\
  ((us++[Sa]).length=(["self", "pots", "keeps", "every", "words"]:List qa).length->Xe s (W.fnOf "__init__" "Hall.__init__" (ml zw) (Ei zw) (pd zw) (.ref t) kV b g d a ct) ⟨us,[]⟩ ((["self", "pots", "keeps", "every", "words"]:List qa).zip (us++[Sa]))):=
 ⟨λc=>match us,(show us.length=5 by simpa using c)with|[_,_,_,_,_],_=>Zd rfl e f rfl rfl,λc=>match us,(show us.length=4 by simpa using c)with|[_,_,_,_],_=>Zd rfl e f rfl rfl⟩
theorem oS(a:Txt K mg ca):Qr ⟨K,ca,tx K⟩ P w mg base 10 (ca 79) ["self", "pots", "keeps", "every", "words"] [Sa] To:=
 Qr.hide (AL a.To Jz λ_ _ _ _ _ _ b=>
  (Jd (vj rfl (uv a) (Fa 0) (pF (c:=9) (ps:=["self", "pots"]) ⟨_,a.Uw,a.Su,QY a⟩ rfl (b.mono (by decide)) rfl (ub (Fa 1) Bc)))
  (Jd (vj rfl (Aw a) (Fa 0) (zm (k:=1) (ps:=["self"]) rfl (Jg rfl (uv a) (Fa 0)) (AI a) (b.mono (by decide))))
  (Jd (vj rfl (gG a) (Fa 0) (Fa 3))
  (Jd (vj rfl (Ey a) (Fa 0) Zs)
  (Jd (vj rfl (fU a) (Fa 0) (Ar Bc))
  (Jd (vj rfl (cH a) (Fa 0) o0)
  (Jd (Kl (i:=5) Jz.nd rfl (Or.inl rfl) (NE (Oi Ay Fy (Fa 4) dt (Mh _)) KI (Fa 4)))
  (Jd (Ys sm rfl (Jp rfl (Ap (EW rfl rfl rfl a.Th rfl a.Kq (Fa 2)))) (Uh (i:=6) Jz.nd rfl (Or.inl rfl)) (Vc (Mq (Eg b) (qN (c:=15) (ps:=["self", "hand", "every", "pots", "words"]) a.yt a.yr (TV a) (.inl rfl) .nil (λ_ _=>Ra.nil) rfl (b.mono (by decide)) rfl (ub (Fa 6) (ub (Fa 3) (ub (Jg rfl (Aw a) (Fa 0)) (ub (si (WQ a) rfl (b.mono (by decide)) rfl (ub (Fa 6) (ub (Fa 5) Bc))) Bc))))) (Jg rfl (Ey a) (Fa 0)) (Fa 6))))
  (Vc (gu sm rfl (nJ (Fa 5)) (nw rfl (Iq (Uh (i:=7) Jz.nd rfl (Or.inl rfl)) (Iq (Uh (i:=8) Jz.nd rfl (Or.inl rfl)) Gw))) (Vc (Ii (Oi (RG (Eg b)) EF (Fa 8) (Jg rfl (Ey a) (Fa 0)) rfl) (Vc (sW (Eg b) mq (Jg rfl (cH a) (Fa 0)) (ot (ub Rs (ub (Fa 7) Bc))))) oj)))))))))))))
noncomputable abbrev FK:Stmt:=top 102
noncomputable def tK:Ev->M Fl:=
 (wc (aj 1 (tw (ib (qr (ib (eC (.int 0)) (ib (eC (.int 1)) (ib (eC (.int 50)) (ib (eC (.int 60)) (ib (eC (.int 13)) Ab)))))) (ib (qr (ib (eC (.int 1)) (ib (eC (.int 2)) (ib (eC (.int 70)) (ib (eC (.int 80)) (ib (eC (.int 20)) Ab)))))) Ab)))) (wc (Ih (eT (Xb oEq (Xb Rt (ya 0) (eC (.int 2))) (eC (.int 1)))) (kC (qr (ib (eC (.int 1)) (ib (eC (.int 0)) (ib (eC (.int 60)) (ib (eC (.int 50)) (ib (eC (.int 13)) Ab)))))) (ya 1) (eC (.int 0))) ti) (wc (Ih (eT (Xb oEq (Xb Rt (Xb gx (ya 0) (eC (.int 2))) (eC (.int 2))) (eC (.int 1)))) (kC (qr (ib (eC (.int 2)) (ib (eC (.int 1)) (ib (eC (.int 80)) (ib (eC (.int 70)) (ib (eC (.int 20)) Ab)))))) (ya 1) (eC (.int 1))) ti) (cg (ya 1)))))
noncomputable def ff:List D->M D:=hide λa=>rb (run 2 tK a)
theorem uJ:Ka ["_law_cell", "_law_pots_here"] ["_law_cell"] (pd FK):=bg rfl rfl rfl (by decide +kernel)
theorem WU:BD "_law_pots" "_law_pots" FK ["_law_cell"]:=
 λ_ _ _ _ _ _ b a=>match b,a with|[_],_=>rfl
theorem NS(b:Txt K mg ca):Ae ⟨K,ca,tx K⟩ P w mg base 1 "_law_pots" ["_law_cell"] ff:=
 Ae.hide (Ae.rb (nl b.ff uJ λ_ _ _ _ _ _ _ a=>
  (Jd (Kl (i:=1) uJ.nd rfl (Or.inl rfl) (GA (ub (ot (ub Mc (ub Mc (ub Mc (ub Mc (ub Mc Bc)))))) (ub (ot (ub Mc (ub Mc (ub Mc (ub Mc (ub Mc Bc)))))) Bc))))
  (Jd (Ii (Oi (js (Eg a)) Sk (jl aw bw (Fa 0) Mc) Mc (Mh _)) (Vc (BL (ot (ub Mc (ub Mc (ub Mc (ub Mc (ub Mc Bc)))))) (Fa 1) Mc)) oj)
  (Jd (Ii (Oi (js (Eg a)) Sk (jl aw bw (jl UA jz (Fa 0) Mc) Mc) Mc (Mh _)) (Vc (BL (ot (ub Mc (ub Mc (ub Mc (ub Mc (ub Mc Bc)))))) (Fa 1) Mc)) oj)
  (Vc (Bg (Fa 1))))))))
noncomputable abbrev SK:Stmt:=Yd (top 99) 8
noncomputable def hO:Ev->M Fl:=
 (wc (Ih (eT (Xb xz (ya 1) (Xd (Tc [16] "things") (ya 0)))) (cg (eC (.bl true))) ti) Sr)
noncomputable def Cc:List D->M D:=hide λa=>rb (run 2 hO a)
theorem MR:Ka ["self", "thing"] ["self", "thing"] (pd SK):=bg rfl rfl rfl (by decide +kernel)
theorem sT:BD "band_can" "Hall.band_can" SK ["self", "thing"]:=
 λ_ _ _ _ _ _ b a=>match b,a with|[_,_],_=>rfl
theorem jR(a:Txt K mg ca):ye ⟨K,ca,tx K⟩ P w mg base 1 (ca 87) ["self", "thing"] Cc:=
 ye.hide (ye.rb (Vj a.Cc MR λ_ _ _ _ _ _ b=>
  (Jd (Ii (Oi (vN (Eg b)) vU (Fa 1) (Jg rfl (cH a) (Fa 0)) rfl) (Vc (Bg mq)) oj)
  Ox)))
theorem C3(a:Txt K mg ca):Wj ⟨K,ca,tx K⟩ P w mg base 1 "band_can" ["self", "thing"] [(16,Cc)]:=(il (T:=⟨K,ca,tx K⟩) (c:=16) a.af a.Oj (jR a) (by decide) ql)
noncomputable abbrev XH:Stmt:=Yd (top 54) 1
noncomputable def mO:Ev->M Fl:=
 (Ih (br (eT (bh 3 Eb [] (ib (ya 1) (ib (eC (.int 0)) (ib (Xb LA (Tj Ao (ib (Xd (Tc [9,14,16] "pots") (ya 0)) Ab)) (eC (.int 1))) Ab)))))) (Iw 2 (ib (eC (.str "the book hasn't this pot")) Ab)) ti)
noncomputable def wb:List D->M D:=hide λa=>rb (run 2 mO a)
theorem hX:Ka ["self", "pot"] ["self", "pot"] (pd XH):=bg rfl rfl rfl (by decide +kernel)
theorem M2:BD "check_pot" "Book.check_pot" XH ["self", "pot"]:=
 λ_ _ _ _ _ _ b a=>match b,a with|[_,_],_=>rfl
theorem jY(a:Txt K mg ca):ye ⟨K,ca,tx K⟩ P w mg base 3 (ca 31) ["self", "pot"] wb:=
 ye.hide (ye.rb (Vj a.wb hX λ_ _ _ _ _ _ b=>
  (Vc (Ii (tt (Ur (si (qu a) rfl (b.mono (by decide)) rfl (ub (Fa 1) (ub Mc (ub (jl CC cC (Xq Yu (Eu rfl) rfl a.Ah Rc (ub (Jg rfl (Aw a) (Fa 0)) Bc)) Mc) Bc)))))) (Vc (dy 2 uc rfl a.Ml a.Il rfl rfl (ub Rs Bc))) oj))))
theorem eG(a:Txt K mg ca):Wj ⟨K,ca,tx K⟩ P w mg base 3 "check_pot" ["self", "pot"] [(9,wb)]:=(il (T:=⟨K,ca,tx K⟩) (c:=9) a.Ze a.jj (jY a) (by decide) ql)
noncomputable abbrev LM:Stmt:=top 12
noncomputable def uM:Ev->M Fl:=
 (cg (bh 3 Eb [] (ib (ya 0) (ib (eC (.int 0)) (ib (eC (.int 59)) Ab)))))
noncomputable def Dg:List D->M D:=hide λa=>rb (run 1 uM a)
theorem u3:Ka ["thing"] ["thing"] (pd LM):=bg rfl rfl rfl (by decide +kernel)
theorem ZY:BD "is_word" "is_word" LM ["thing"]:=
 λ_ _ _ _ _ _ b a=>match b,a with|[_],_=>rfl
theorem XS(a:Txt K mg ca):Ae ⟨K,ca,tx K⟩ P w mg base 3 "is_word" ["thing"] Dg:=
 Ae.hide (Ae.rb (nl a.Dg u3 λ_ _ _ _ _ _ _ b=>
  (Vc (Bg (si (qu a) rfl (b.mono (by decide)) rfl (ub (Fa 0) (ub Mc (ub (Ss (u:=.int 59 (a.Vg).choose) rfl (a.Vg).choose_spec ⟨_,rfl⟩) Bc))))))))
noncomputable abbrev pP:Stmt:=Yd (top 54) 4
noncomputable def xP:Ev->M Fl:=
 (wc (pp (Df [(9,wb)] 2 "check_pot" (ya 0) (ib (ya 1) Ab))) (wc (Ih (br (eT (bh 1 Dg [] (ib (ya 2) Ab)))) (Iw 2 (ib (eC (.str "there is no such word")) Ab)) ti) (Ih (eT (Xb jt (ya 2) (Xb Oe (Xd (Tc [9] "shown") (ya 0)) (ya 1)))) (Gp (Xd (Tc [7,9] "day") (ya 0)) (Xb Oe (Xd (Tc [9] "shown") (ya 0)) (ya 1)) (ya 2)) ti)))
noncomputable def pe:List D->M D:=hide (run 3 xP)
theorem VT:Ka ["self", "pot", "word"] ["self", "pot", "word"] (pd pP):=bg rfl rfl rfl (by decide +kernel)
theorem UY:BD "show" "Book.show" pP ["self", "pot", "word"]:=
 λ_ _ _ _ _ _ b a=>match b,a with|[_,_,_],_=>rfl
theorem AV(a:Txt K mg ca):ye ⟨K,ca,tx K⟩ P w mg base 4 (ca 34) ["self", "pot", "word"] pe:=
 ye.hide (Vj a.pe VT λ_ _ _ _ _ _ b=>
  (Jd (qs (Xm (k:=3) (ps:=["self", "pot"]) rfl (Fa 0) (eG a) (b.mono (by decide)) (ub (Fa 1) Bc)))
  (Jd (Ii (tt (Ur (si (XS a) rfl (b.mono (by decide)) rfl (ub (Fa 2) Bc)))) (Vc (dy 2 uc rfl a.Ml a.Il rfl rfl (ub Rs Bc))) oj)
  (Vc (Ii (Oi (RG (Eg b)) EF (Fa 2) (qi ki (pi rfl) (Jg rfl (Az a) (Fa 0)) (Fa 1) (λ_ _=>rfl)) rfl) (Vc (Mq (Eg b) (Jg rfl (WC a) (Fa 0)) (qi ki (pi rfl) (Jg rfl (Az a) (Fa 0)) (Fa 1) (λ_ _=>rfl)) (Fa 2))) oj)))))
theorem RT(a:Txt K mg ca):Wj ⟨K,ca,tx K⟩ P w mg base 4 "show" ["self", "pot", "word"] [(9,pe)]:=(il (T:=⟨K,ca,tx K⟩) (c:=9) a.Ze a.Mn (AV a) (by decide) ql)
noncomputable abbrev eP:Stmt:=Yd (top 99) 18
noncomputable def uN:Ev->M Fl:=
 (wc (Ih (br (eT (Df [(16,Cc)] 2 "band_can" (ya 0) (ib (qr (ib (eC (.str "word")) (ib (ya 2) Ab))) Ab)))) Sr ti) (pp (Df [(9,pe)] 3 "show" (Xd (Tc [16] "public") (ya 0)) (ib (ya 1) (ib (ya 2) Ab)))))
noncomputable def Lc:List D->M D:=hide (run 3 uN)
theorem SU:Ka ["self", "P", "W"] ["self", "P", "W"] (pd eP):=bg rfl rfl rfl (by decide +kernel)
theorem iT:BD "show" "Hall.show" eP ["self", "P", "W"]:=
 λ_ _ _ _ _ _ b a=>match b,a with|[_,_,_],_=>rfl
theorem fT(a:Txt K mg ca):ye ⟨K,ca,tx K⟩ P w mg base 5 (ca 97) ["self", "P", "W"] Lc:=
 ye.hide (Vj a.Lc SU λ_ _ _ _ _ _ b=>
  (Jd (Ii (tt (Ur (Xm (k:=1) (ps:=["self", "thing"]) rfl (Fa 0) (C3 a) (b.mono (by decide)) (ub (ot (ub Rs (ub (Fa 2) Bc))) Bc)))) Ox oj)
  (Vc (qs (Xm (k:=4) (ps:=["self", "pot", "word"]) rfl (Jg rfl (uv a) (Fa 0)) (RT a) (b.mono (by decide)) (ub (Fa 1) (ub (Fa 2) Bc)))))))
theorem YQ(a:Txt K mg ca):Wj ⟨K,ca,tx K⟩ P w mg base 5 "show" ["self", "P", "W"] [(16,Lc)]:=(il (T:=⟨K,ca,tx K⟩) (c:=16) a.af a.On (fT a) (by decide) ql)
noncomputable abbrev pJ:Stmt:=Yd (top 99) 1
noncomputable def dJ:Ev->M Fl:=
 (cg (Xd (Tc [16] "public") (ya 0)))
noncomputable def Db:List D->M D:=hide λa=>rb (run 1 dJ a)
theorem KQ:Ka ["self"] ["self"] (pd pJ):=bg rfl rfl rfl (by decide +kernel)
theorem iU:BD "book" "Hall.book" pJ ["self"]:=
 λ_ _ _ _ _ _ b a=>match b,a with|[_],_=>rfl
theorem ZQ(a:Txt K mg ca):ye ⟨K,ca,tx K⟩ P w mg base 1 (ca 80) ["self"] Db:=
 ye.hide (ye.rb (Vj a.Db KQ λ_ _ _ _ _ _ b=>
  (Vc (Bg (Jg rfl (uv a) (Fa 0))))))
theorem BA(a:Txt K mg ca):Wj ⟨K,ca,tx K⟩ P w mg base 1 "book" ["self"] [(16,Db)]:=(il (T:=⟨K,ca,tx K⟩) (c:=16) a.af a.zn (ZQ a) (by decide) ql)
noncomputable abbrev iN:Stmt:=Yd (top 54) 2
noncomputable def JN:Ev->M Fl:=
 (cg (Xd (Tc [7,9] "day") (ya 0)))
noncomputable def eb:List D->M D:=hide λa=>rb (run 1 JN a)
theorem S3:Ka ["self"] ["self"] (pd iN):=bg rfl rfl rfl (by decide +kernel)
theorem yX:BD "today" "Book.today" iN ["self"]:=
 λ_ _ _ _ _ _ b a=>match b,a with|[_],_=>rfl
theorem mV(a:Txt K mg ca):ye ⟨K,ca,tx K⟩ P w mg base 1 (ca 32) ["self"] eb:=
 ye.hide (ye.rb (Vj a.eb S3 λ_ _ _ _ _ _ b=>
  (Vc (Bg (Jg rfl (WC a) (Fa 0))))))
theorem vx(a:Txt K mg ca):Wj ⟨K,ca,tx K⟩ P w mg base 1 "today" ["self"] [(9,eb)]:=(il (T:=⟨K,ca,tx K⟩) (c:=9) a.Ze a.ym (mV a) (by decide) ql)
noncomputable abbrev HJ:Stmt:=Yd (top 96) 4
noncomputable def lN:Ev->M Fl:=
 (cg (Xd (Tc [14,15] "last_look") (ya 0)))
noncomputable def Bb:List D->M D:=hide λa=>rb (run 1 lN a)
theorem NT:Ka ["self"] ["self"] (pd HJ):=bg rfl rfl rfl (by decide +kernel)
theorem jZ:BD "looked" "Keeper.looked" HJ ["self"]:=
 λ_ _ _ _ _ _ b a=>match b,a with|[_],_=>rfl
theorem xX(a:Txt K mg ca):ye ⟨K,ca,tx K⟩ P w mg base 1 (ca 59) ["self"] Bb:=
 ye.hide (ye.rb (Vj a.Bb NT λ_ _ _ _ _ _ b=>
  (Vc (Bg (Jg rfl (wF a) (Fa 0))))))
theorem dO(a:Txt K mg ca):Wj ⟨K,ca,tx K⟩ P w mg base 1 "looked" ["self"] [(15,Bb)]:=(il (T:=⟨K,ca,tx K⟩) (c:=15) a.Ub a.Bj (xX a) (by decide) ql)
noncomputable abbrev jK:Stmt:=Yd (top 43) 0
noncomputable def AK:Ev->M Fl:=
 (cg (qr (ib (eC (.str "held")) Ab)))
noncomputable def Gd:List D->M D:=hide λa=>rb (run 1 AK a)
theorem tQ:Ka ["self"] ["self"] (pd jK):=bg rfl rfl rfl (by decide +kernel)
theorem EV:BD "told" "Held.told" jK ["self"]:=
 λ_ _ _ _ _ _ b a=>match b,a with|[_],_=>rfl
theorem zW(a:Txt K mg ca):ye ⟨K,ca,tx K⟩ P w mg base 1 (ca 18) ["self"] Gd:=
 ye.hide (ye.rb (Vj a.Gd tQ λ_ _ _ _ _ _ b=>
  (Vc (Bg (ot (ub Rs Bc))))))
theorem TR(a:Txt K mg ca):Wj ⟨K,ca,tx K⟩ P w mg base 1 "told" ["self"] [(6,Gd)]:=(il (T:=⟨K,ca,tx K⟩) (c:=6) a.Lq a.Ln (zW a) (by decide) ql)
noncomputable abbrev BM:Stmt:=Yd (top 54) 8
noncomputable def vK:Ev->M Fl:=
 (wc (pp (Df [(9,wb)] 2 "check_pot" (ya 0) (ib (ya 1) Ab))) (cg (Df [(6,Gd)] 1 "told" (Xb Oe (Xd (Tc [9,15] "claims") (ya 0)) (ya 1)) Ab)))
noncomputable def me:List D->M D:=hide λa=>rb (run 2 vK a)
theorem RS:Ka ["self", "pot"] ["self", "pot"] (pd BM):=bg rfl rfl rfl (by decide +kernel)
theorem HQ:BD "told" "Book.told" BM ["self", "pot"]:=
 λ_ _ _ _ _ _ b a=>match b,a with|[_,_],_=>rfl
theorem CY(a:Txt K mg ca):ye ⟨K,ca,tx K⟩ P w mg base 4 (ca 38) ["self", "pot"] me:=
 ye.hide (ye.rb (Vj a.me RS λ_ _ _ _ _ _ b=>
  (Jd (qs (Xm (k:=3) (ps:=["self", "pot"]) rfl (Fa 0) (eG a) (b.mono (by decide)) (ub (Fa 1) Bc)))
  (Vc (Bg (zm (k:=1) (ps:=["self"]) rfl (qi ki (pi rfl) (Jg rfl (lx a) (Fa 0)) (Fa 1) (λ_ _=>rfl)) (TR a) (b.mono (by decide))))))))
theorem iZ(a:Txt K mg ca):Wj ⟨K,ca,tx K⟩ P w mg base 4 "told" ["self", "pot"] [(9,me)]:=(il (T:=⟨K,ca,tx K⟩) (c:=9) a.Ze a.wn (CY a) (by decide) ql)
noncomputable abbrev GN:Stmt:=Yd (top 54) 9
noncomputable def SI:Ev->M Fl:=
 (wc (pp (Df [(9,wb)] 2 "check_pot" (ya 0) (ib (ya 1) Ab))) (cg (Tj Nu (ib (Xb Oe (Xd (Tc [9] "shown") (ya 0)) (ya 1)) Ab))))
noncomputable def gc:List D->M D:=hide λa=>rb (run 2 SI a)
theorem JZ:Ka ["self", "pot"] ["self", "pot"] (pd GN):=bg rfl rfl rfl (by decide +kernel)
theorem rW:BD "shown_for" "Book.shown_for" GN ["self", "pot"]:=
 λ_ _ _ _ _ _ b a=>match b,a with|[_,_],_=>rfl
theorem fQ(a:Txt K mg ca):ye ⟨K,ca,tx K⟩ P w mg base 4 (ca 39) ["self", "pot"] gc:=
 ye.hide (ye.rb (Vj a.gc JZ λ_ _ _ _ _ _ b=>
  (Jd (qs (Xm (k:=3) (ps:=["self", "pot"]) rfl (Fa 0) (eG a) (b.mono (by decide)) (ub (Fa 1) Bc)))
  (Vc (Bg (pw eK bJ rfl a.En boot_dict (ub (qi ki (pi rfl) (Jg rfl (Az a) (Fa 0)) (Fa 1) (λ_ _=>rfl)) Bc)))))))
theorem MZ(a:Txt K mg ca):Wj ⟨K,ca,tx K⟩ P w mg base 4 "shown_for" ["self", "pot"] [(9,gc)]:=(il (T:=⟨K,ca,tx K⟩) (c:=9) a.Ze a.ej (fQ a) (by decide) ql)
noncomputable abbrev VL:Stmt:=Yd (top 54) 13
noncomputable def nN:Ev->M Fl:=
 (wc (aj 1 Xo) (wc (Cp (Gi (Xd (Tc [9] "shown") (ya 0))) (Ed 2) (pp (Px mu (ya 1) (ib (ya 2) Ab)))) (cg (Zi (Tj Av (ib (ya 1) Ab))))))
noncomputable def ic:List D->M D:=hide λa=>rb (run 3 nN a)
theorem uG:Ka ["self", "words", "shown"] ["self"] (pd VL):=bg rfl rfl rfl (by decide +kernel)
theorem wQ:BD "all_shown" "Book.all_shown" VL ["self"]:=
 λ_ _ _ _ _ _ b a=>match b,a with|[_],_=>rfl
theorem zS(a:Txt K mg ca):ye ⟨K,ca,tx K⟩ P w mg base 1 (ca 43) ["self"] ic:=
 ye.hide (ye.rb (Vj a.ic uG λ_ _ _ _ _ _ b=>
  (Jd (Kl (i:=1) uG.nd rfl (Or.inl rfl) Zs)
  (Jd (Ys sm rfl (Jp rfl (Jg rfl (Az a) (Fa 0))) (Uh (i:=2) uG.nd rfl (Or.inl rfl)) (Vc (qs (AS pf Jm PySem.F.type_dict_update VZ rQ (Fa 1) (ub (Fa 2) Bc)))))
  (Vc (Bg (Ap (Xq (gP rfl) (fO rfl) rfl a.Th L4.RE (ub (Fa 1) Bc)))))))))
theorem eS(a:Txt K mg ca):Wj ⟨K,ca,tx K⟩ P w mg base 1 "all_shown" ["self"] [(9,ic)]:=(il (T:=⟨K,ca,tx K⟩) (c:=9) a.Ze a.lj (zS a) (by decide) ql)
noncomputable abbrev EM:Stmt:=top 95
noncomputable def yJ:Ev->M Fl:=
 (cg (km (Xb oEq (Xb Oe (ya 1) (eC (.int 0))) (eC (.str "laid"))) (km Mz Mz)))
noncomputable def Od:List D->M D:=hide λa=>rb (run 2 yJ a)
theorem PU:Ka ["account", "claim"] ["account", "claim"] (pd EM):=bg rfl rfl rfl (by decide +kernel)
theorem G3:BD "is_given_up" "is_given_up" EM ["account", "claim"]:=
 λ_ _ _ _ _ _ b a=>match b,a with|[_,_],_=>rfl
theorem VX(a:Txt K mg ca):Ae ⟨K,ca,tx K⟩ P w mg base 1 "is_given_up" ["account", "claim"] Od:=
 Ae.hide (Ae.rb (nl a.Od PU λ_ _ _ _ _ _ _ b=>
  (Vc (Bg (Pn (Wr (js (Eg b)) Sk (qi ki (pi rfl) (Fa 1) Mc (λ_ _=>rfl)) Rs (Mh _)) (Pn HD (Hu HD)))))))
noncomputable abbrev HK:Stmt:=Yd (top 96) 20
noncomputable def OL:Ev->M Fl:=
 (wc (aj 2 (tw Ab)) (wc (aj 3 (Zi (mo (toN (Gi (Df [(9,Jb)] 1 "made_of" (ya 1) Ab))) [] (Ed 0) wo (Xb Oe (ya 0) (eC (.int 4)))))) (wc (ms (Xd (Tc [15] "accounts") (ya 0)) (io (qz (Xd (Tc [15] "accounts") (ya 0))) (zo 2 (Bi (Ed 4) (Bi (Ed 5) bp))) (wc (aj 6 (Xb Nj (Xd (Tc [9,15] "claims") (ya 0)) (ya 4))) (Ih (Wu (eT (bh 2 Od [] (ib (ya 5) (ib (ya 6) Ab)))) rA) Sr ti)))) (cg (ya 2)))))
noncomputable def Mb:List D->M D:=hide λa=>rb (run 7 OL a)
theorem iy:Ka ["self", "book", "deeds", "waits", "pot", "account", "claim"] ["self", "book"] (pd HK):=bg rfl rfl rfl (by decide +kernel)
theorem DY:BD "strike_all" "Keeper.strike_all" HK ["self", "book"]:=
 λ_ _ _ _ _ _ b a=>match b,a with|[_,_],_=>rfl
theorem ZT(a:Txt K mg ca):ye ⟨K,ca,tx K⟩ P w mg base 2 (ca 75) ["self", "book"] Mb:=
 ye.hide (ye.rb (Vj a.Mb iy λ_ _ _ _ _ _ b=>
  (Jd (Kl (i:=2) iy.nd rfl (Or.inl rfl) (GA Bc))
  (Jd (LR (l3 (i:=3) iy.nd rfl (Or.inl rfl) (x:="made") (z0:="0") (M':=[]) (ix:=[]) rfl ⟨rfl,rfl,rfl,rfl,rfl,rfl⟩ (Ky (Jp rfl (zm (k:=1) (ps:=["self"]) rfl (Fa 1) (AI a) (b.mono (by decide))))) (λ_ _ _ _ _=>Uh (i:=0) (by show List.Nodup (("made"::"0"::[]):List qa);decide +kernel) rfl (Or.inl rfl)) (λ_ _ _ _ _=>bA) (λ_ _ _ _ _=>(qi ki (pi rfl) (Fa 0) Mc (λ_ _=>rfl)))))
  (Jd (yw (gu sm rfl (oH (Jg rfl (By a) (Fa 0))) (nw rfl (Iq (Uh (i:=4) iy.nd rfl (Or.inl rfl)) (Iq (Uh (i:=5) iy.nd rfl (Or.inl rfl)) Gw))) (Jd (Kl (i:=6) iy.nd rfl (Or.inl rfl) (Tt (Eg b) (Jg rfl (lx a) (Fa 0)) (Fa 4) (λ_ _=>rfl)))
  (Vc (Ii (L2.PW.pt (uz (Ur (si (VX a) rfl (b.mono (by decide)) rfl (ub (Fa 5) (ub (Fa 6) Bc)))) (nz nP))) Ox oj)))))
  (Vc (Bg (Fa 2))))))))
theorem S2(a:Txt K mg ca):Wj ⟨K,ca,tx K⟩ P w mg base 2 "strike_all" ["self", "book"] [(15,Mb)]:=(il (T:=⟨K,ca,tx K⟩) (c:=15) a.Ub a.Vh (ZT a) (by decide) ql)
noncomputable abbrev qM:Stmt:=top 93
noncomputable def bK:Ev->M Fl:=
 (wc (Ih (eT (Xb oEq (Xb Oe (ya 1) (eC (.int 0))) (eC (.str "held")))) (cg (Xd (Tc [10,11,12,13] "may") (ya 0))) ti) Sr)
noncomputable def ze:List D->M D:=hide λa=>rb (run 2 bK a)
theorem L3:Ka ["account", "claim"] ["account", "claim"] (pd qM):=bg rfl rfl rfl (by decide +kernel)
theorem rR:BD "stands_told" "stands_told" qM ["account", "claim"]:=
 λ_ _ _ _ _ _ b a=>match b,a with|[_,_],_=>rfl
theorem CU(a:Txt K mg ca):Ae ⟨K,ca,tx K⟩ P w mg base 1 "stands_told" ["account", "claim"] ze:=
 Ae.hide (Ae.rb (nl a.ze L3 λ_ _ _ _ _ _ _ b=>
  (Jd (Ii (Oi (js (Eg b)) Sk (qi ki (pi rfl) (Fa 1) Mc (λ_ _=>rfl)) Rs (Mh _)) (Vc (Bg (Jg rfl (GI a) (Fa 0)))) oj)
  Ox)))
noncomputable abbrev aJ:Stmt:=top 94
noncomputable def YO:Ev->M Fl:=
 (wc (aj 2 (tw Ab)) (wc (Cp (Gi (bh 2 ze [] (ib (ya 0) (ib (ya 1) Ab)))) (Ed 3) (pp (OG Kz (ya 2) (ib (Zi (mo (toN (Gi (Xb Oe (ya 3) (eC (.int 2))))) [0] (Ed 0) (eT (Xb iq (Xb Oe (ya 0) (eC (.int 0))) (Xd (Tc [7,8,10,11,12,13] "side") (ya 2)))) (ya 0))) Ab)))) (cg (ya 2))))
noncomputable def Rf:List D->M D:=hide λa=>rb (run 4 YO a)
theorem pE:Ka ["account", "claim", "ties", "one"] ["account", "claim"] (pd aJ):=bg rfl rfl rfl (by decide +kernel)
theorem eR:BD "ties_to" "ties_to" aJ ["account", "claim"]:=
 λ_ _ _ _ _ _ b a=>match b,a with|[_,_],_=>rfl
theorem gS(a:Txt K mg ca):Ae ⟨K,ca,tx K⟩ P w mg base 2 "ties_to" ["account", "claim"] Rf:=
 Ae.hide (Ae.rb (nl a.Rf pE λ_ _ _ _ _ _ _ b=>
  (Jd (Kl (i:=2) pE.nd rfl (Or.inl rfl) (GA Bc))
  (Jd (Ys sm rfl (Jp rfl (si (CU a) rfl (b.mono (by decide)) rfl (ub (Fa 0) (ub (Fa 1) Bc)))) (Uh (i:=3) pE.nd rfl (Or.inl rfl)) (Vc (qs (YZ PySem.F.plainAttrs_list PySem.F.slot_list_extend PySem.F.type_list_extend MV DZ (Fa 2) (ub (Ap (Hy (x:="tie") (z0:="0") (M':=["account"]) (ix:=[0]) rfl ⟨rfl,rfl,rfl,rfl,rfl,rfl⟩ (Ky (Jp rfl (qi ki (pi rfl) (Fa 3) Mc (λ_ _=>rfl)))) (λ_ _ _ _ _=>Uh (i:=0) (by show List.Nodup (("tie"::"0"::["account"]):List qa);decide +kernel) rfl (Or.inl rfl)) (λ_ _ _ _ _=>vL (Oi (ky (Eg b)) Sk (qi ki (pi rfl) (Fa 0) Mc (λ_ _=>rfl)) (Jg rfl (jM a) (Fa 2)) (Mh _))) (λ_ _ _ _ _=>(Fa 0)))) Bc)))))
  (Vc (Bg (Fa 2)))))))
noncomputable abbrev ZH:Stmt:=Yd (top 96) 22
noncomputable def oJ:Ev->M Fl:=
 (wc (aj 2 (tw Ab)) (wc (ms (Xd (Tc [15] "accounts") (ya 0)) (io (qz (Xd (Tc [15] "accounts") (ya 0))) (zo 2 (Bi (Ed 3) (Bi (Ed 4) bp))) (Cp (Gi (bh 2 Rf [] (ib (ya 4) (ib (Xb Nj (Xd (Tc [9,15] "claims") (ya 0)) (ya 3)) Ab)))) (Ed 5) Sr))) (cg (ya 2))))
noncomputable def Sb:List D->M D:=hide λa=>rb (run 6 oJ a)
theorem JA:Ka ["self", "book", "deeds", "pot", "account", "tie"] ["self", "book"] (pd ZH):=bg rfl rfl rfl (by decide +kernel)
theorem EU:BD "show_all" "Keeper.show_all" ZH ["self", "book"]:=
 λ_ _ _ _ _ _ b a=>match b,a with|[_,_],_=>rfl
theorem uV(a:Txt K mg ca):ye ⟨K,ca,tx K⟩ P w mg base 3 (ca 77) ["self", "book"] Sb:=
 ye.hide (ye.rb (Vj a.Sb JA λ_ _ _ _ _ _ b=>
  (Jd (Kl (i:=2) JA.nd rfl (Or.inl rfl) (GA Bc))
  (Jd (yw (gu sm rfl (oH (Jg rfl (By a) (Fa 0))) (nw rfl (Iq (Uh (i:=3) JA.nd rfl (Or.inl rfl)) (Iq (Uh (i:=4) JA.nd rfl (Or.inl rfl)) Gw))) (Vc (Ys sm rfl (Jp rfl (si (gS a) rfl (b.mono (by decide)) rfl (ub (Fa 4) (ub (Tt (Eg b) (Jg rfl (lx a) (Fa 0)) (Fa 3) (λ_ _=>rfl)) Bc)))) (Uh (i:=5) JA.nd rfl (Or.inl rfl)) Ox))))
  (Vc (Bg (Fa 2)))))))
theorem N2(a:Txt K mg ca):Wj ⟨K,ca,tx K⟩ P w mg base 3 "show_all" ["self", "book"] [(15,Sb)]:=(il (T:=⟨K,ca,tx K⟩) (c:=15) a.Ub a.Ri (uV a) (by decide) ql)
noncomputable abbrev bN:Stmt:=Yd (top 96) 23
noncomputable def gI:Ev->M Fl:=
 (wc (aj 2 (tw Ab)) (wc (ms (Xd (Tc [15] "accounts") (ya 0)) (io (qz (Xd (Tc [15] "accounts") (ya 0))) (zo 2 (Bi (Ed 3) (Bi (Ed 4) bp))) (Ih (Wu (eT (Xb uy (ya 3) (Xd (Tc [15] "finishing") (ya 0)))) rA) Sr ti))) (cg (ya 2))))
noncomputable def jc:List D->M D:=hide λa=>rb (run 5 gI a)
theorem mC:Ka ["self", "book", "deeds", "pot", "account"] ["self", "book"] (pd bN):=bg rfl rfl rfl (by decide +kernel)
theorem WZ:BD "lay_all" "Keeper.lay_all" bN ["self", "book"]:=
 λ_ _ _ _ _ _ b a=>match b,a with|[_,_],_=>rfl
theorem sV(a:Txt K mg ca):ye ⟨K,ca,tx K⟩ P w mg base 1 (ca 78) ["self", "book"] jc:=
 ye.hide (ye.rb (Vj a.jc mC λ_ _ _ _ _ _ b=>
  (Jd (Kl (i:=2) mC.nd rfl (Or.inl rfl) (GA Bc))
  (Jd (yw (gu sm rfl (oH (Jg rfl (By a) (Fa 0))) (nw rfl (Iq (Uh (i:=3) mC.nd rfl (Or.inl rfl)) (Iq (Uh (i:=4) mC.nd rfl (Or.inl rfl)) Gw))) (Vc (Ii (L2.PW.pt (uz (Oi (vN (Eg b)) L1 (Fa 3) (Jg rfl (HI a) (Fa 0)) rfl) (nz nP))) Ox oj))))
  (Vc (Bg (Fa 2)))))))
theorem aY(a:Txt K mg ca):Wj ⟨K,ca,tx K⟩ P w mg base 1 "lay_all" ["self", "book"] [(15,jc)]:=(il (T:=⟨K,ca,tx K⟩) (c:=15) a.Ub a.mj (sV a) (by decide) ql)
noncomputable abbrev lJ:Stmt:=Yd (top 96) 19
noncomputable abbrev gC:Ev->M Fl:=(wc (Gp (Df [(9,me)] 2 "told" (ya 1) (ib (ya 2) Ab)) (Xd (Tc [9,15] "claims") (ya 0)) (ya 2)) (Gp (Df [(9,gc)] 2 "shown_for" (ya 1) (ib (ya 2) Ab)) (Xd (Tc [15] "seen") (ya 0)) (ya 2)))
noncomputable def zK:Ev->M Fl:=
 (wc (zi [14,15] "last_look" (Df [(9,eb)] 1 "today" (ya 1) Ab) (ya 0)) (wc (ms (Xd (Tc [15] "accounts") (ya 0)) (io (vv (Xd (Tc [15] "accounts") (ya 0))) (Ed 2) gC)) (wc (pp (Df [(15,Qb)] 2 "learn" (ya 0) (ib (Df [(9,ic)] 1 "all_shown" (ya 1) Ab) Ab))) (cg (Xb Yq (Xb Yq (Df [(15,Mb)] 2 "strike_all" (ya 0) (ib (ya 1) Ab)) (Df [(15,Sb)] 2 "show_all" (ya 0) (ib (ya 1) Ab))) (Df [(15,jc)] 2 "lay_all" (ya 0) (ib (ya 1) Ab)))))))
noncomputable def Yb:List D->M D:=hide (run 3 zK)
theorem mP:Ka ["self", "book", "pot"] ["self", "book"] (pd lJ):=bg rfl rfl rfl (by decide +kernel)
theorem GX:BD "look" "Keeper.look" lJ ["self", "book"]:=
 λ_ _ _ _ _ _ b a=>match b,a with|[_,_],_=>rfl
theorem CT(a:Txt K mg ca):ye ⟨K,ca,tx K⟩ P w mg base 5 (ca 74) ["self", "book"] Yb:=
 ye.hide (Vj a.Yb mP λ_ _ _ _ _ _ b=>
  (Jd (vj rfl (wF a) (Fa 0) (zm (k:=1) (ps:=["self"]) rfl (Fa 1) (vx a) (b.mono (by decide))))
  (Jd (yw (gu sm rfl (EG (Jg rfl (By a) (Fa 0))) (Uh (i:=2) mP.nd rfl (Or.inl rfl)) (Jd (Mq (Eg b) (Xm (k:=4) (ps:=["self", "pot"]) rfl (Fa 1) (iZ a) (b.mono (by decide)) (ub (Fa 2) Bc)) (Jg rfl (lx a) (Fa 0)) (Fa 2))
  (Vc (Mq (Eg b) (Xm (k:=4) (ps:=["self", "pot"]) rfl (Fa 1) (MZ a) (b.mono (by decide)) (ub (Fa 2) Bc)) (Jg rfl (UG a) (Fa 0)) (Fa 2))))))
  (Jd (qs (Xm (k:=1) (ps:=["self", "words"]) rfl (Fa 0) (JJ a) (b.mono (by decide)) (ub (zm (k:=1) (ps:=["self"]) rfl (Fa 1) (eS a) (b.mono (by decide))) Bc)))
  (Vc (Bg (jl (sy rfl) Sk (jl (sy rfl) Sk (Xm (k:=2) (ps:=["self", "book"]) rfl (Fa 0) (S2 a) (b.mono (by decide)) (ub (Fa 1) Bc)) (Xm (k:=3) (ps:=["self", "book"]) rfl (Fa 0) (N2 a) (b.mono (by decide)) (ub (Fa 1) Bc))) (Xm (k:=1) (ps:=["self", "book"]) rfl (Fa 0) (aY a) (b.mono (by decide)) (ub (Fa 1) Bc)))))))))
theorem YL(a:Txt K mg ca):Wj ⟨K,ca,tx K⟩ P w mg base 5 "look" ["self", "book"] [(15,Yb)]:=(il (T:=⟨K,ca,tx K⟩) (c:=15) a.Ub a.El (CT a) (by decide) ql)
noncomputable abbrev tN:Stmt:=Yd (top 54) 3
noncomputable def yK:Ev->M Fl:=
 (dE [7,9] "day" (eC (.int 1)) (ya 0))
noncomputable def Zb:List D->M D:=hide (run 1 yK)
theorem D3:Ka ["self"] ["self"] (pd tN):=bg rfl rfl rfl (by decide +kernel)
theorem NR:BD "next_day" "Book.next_day" tN ["self"]:=
 λ_ _ _ _ _ _ b a=>match b,a with|[_],_=>rfl
theorem jX(a:Txt K mg ca):ye ⟨K,ca,tx K⟩ P w mg base 1 (ca 33) ["self"] Zb:=
 ye.hide (Vj a.Zb D3 λ_ _ _ _ _ _ b=>
  (Vc (ZW rfl (WC a) (Fa 0) Mc)))
theorem ZZ(a:Txt K mg ca):Wj ⟨K,ca,tx K⟩ P w mg base 1 "next_day" ["self"] [(9,Zb)]:=(il (T:=⟨K,ca,tx K⟩) (c:=9) a.Ze a.Mj (jX a) (by decide) ql)
noncomputable abbrev EK:Stmt:=Yd (top 99) 22
noncomputable abbrev Mv:Ev->M Fl:=(Ih (eT (Xb QC (Xb LA (Df [(9,eb)] 1 "today" (Xd (Tc [16] "public") (ya 0)) Ab) (Df [(15,Bb)] 1 "looked" (ya 1) Ab)) (Xd (Tc [14,15,16] "every") (ya 0)))) (pp (Df [(15,Yb)] 2 "look" (ya 1) (ib (Xd (Tc [16] "public") (ya 0)) Ab))) ti)
noncomputable def LO:Ev->M Fl:=
 (wc (ms (Xd (Tc [16] "keepers") (ya 0)) (io (CD (Xd (Tc [16] "keepers") (ya 0))) (Ed 1) Mv)) (pp (Df [(9,Zb)] 1 "next_day" (Xd (Tc [16] "public") (ya 0)) Ab)))
noncomputable def Kb:List D->M D:=hide (run 2 LO)
theorem pI:Ka ["self", "keeper"] ["self"] (pd EK):=bg rfl rfl rfl (by decide +kernel)
theorem AW:BD "next_day" "Hall.next_day" EK ["self"]:=
 λ_ _ _ _ _ _ b a=>match b,a with|[_],_=>rfl
theorem XX(a:Txt K mg ca):ye ⟨K,ca,tx K⟩ P w mg base 6 (ca 101) ["self"] Kb:=
 ye.hide (Vj a.Kb pI λ_ _ _ _ _ _ b=>
  (Jd (yw (gu sm rfl (qT (Jg rfl (Ey a) (Fa 0))) (Uh (i:=1) pI.nd rfl (Or.inl rfl)) (Vc (Ii (Oi kG YG (jl CC cC (zm (k:=1) (ps:=["self"]) rfl (Jg rfl (uv a) (Fa 0)) (vx a) (b.mono (by decide))) (zm (k:=1) (ps:=["self"]) rfl (Fa 1) (dO a) (b.mono (by decide)))) (Jg rfl (gG a) (Fa 0)) (Mh _)) (Vc (qs (Xm (k:=5) (ps:=["self", "book"]) rfl (Fa 1) (YL a) (b.mono (by decide)) (ub (Jg rfl (uv a) (Fa 0)) Bc)))) oj))))
  (Vc (qs (zm (k:=1) (ps:=["self"]) rfl (Jg rfl (uv a) (Fa 0)) (ZZ a) (b.mono (by decide)))))))
theorem LY(a:Txt K mg ca):Wj ⟨K,ca,tx K⟩ P w mg base 6 "next_day" ["self"] [(16,Kb)]:=(il (T:=⟨K,ca,tx K⟩) (c:=16) a.af a.Cj (XX a) (by decide) ql)
noncomputable abbrev RO:Stmt:=top 103
noncomputable abbrev UC:Ev->M Fl:=(Ih (eT (Xb QC (Xb LA (ya 3) (Xb Nj (ya 1) (ya 4))) (ya 2))) (Gp (ya 3) (ya 1) (ya 4)) ti)
noncomputable def BK:Ev->M Fl:=
 (wc (aj 3 (Df [(9,eb)] 1 "today" (Df [(16,Db)] 1 "book" (ya 0) Ab) Ab)) (wc (Cp (Gi (Zi (Tj Zx (ib (ya 1) Ab)))) (Ed 4) UC) (cg (km (Xb Zr (Df [(16,Kb)] 1 "next_day" (ya 0) Ab) (eC .Hb)) (Xb oEq (Df [(9,eb)] 1 "today" (Df [(16,Db)] 1 "book" (ya 0) Ab) Ab) (Xb Yq (ya 3) (eC (.int 1))))))))
noncomputable def Ie:List D->M D:=hide (run 5 BK)
theorem tH:Ka ["_law_hall", "_law_looks", "_law_every", "_law_today", "_law_hand"] ["_law_hall", "_law_looks", "_law_every"] (pd RO):=bg rfl rfl rfl (by decide +kernel)
theorem HU:BD "_law_next" "_law_next" RO ["_law_hall", "_law_looks", "_law_every"]:=
 λ_ _ _ _ _ _ b a=>match b,a with|[_,_,_],_=>rfl
theorem vQ(b:Txt K mg ca):Ae ⟨K,ca,tx K⟩ P w mg base 7 "_law_next" ["_law_hall", "_law_looks", "_law_every"] Ie:=
 Ae.hide (nl b.Ie tH λ_ _ _ _ _ _ _ a=>
  (Jd (Kl (i:=3) tH.nd rfl (Or.inl rfl) (zm (k:=1) (ps:=["self"]) rfl (zm (k:=1) (ps:=["self"]) rfl (Fa 0) (BA b) (a.mono (by decide))) (vx b) (a.mono (by decide))))
  (Jd (Ys sm rfl (Jp rfl (Ap (pw (bY rfl) tZ rfl b.Ni Zn (ub (Fa 1) Bc)))) (Uh (i:=4) tH.nd rfl (Or.inl rfl)) (Vc (Ii (Oi kG YG (jl CC cC (Fa 3) (Tt (Eg a) (Fa 1) (Fa 4) (λ_ _=>rfl))) (Fa 2) (Mh _)) (Vc (Mq (Eg a) (Fa 3) (Fa 1) (Fa 4))) oj)))
  (Vc (Bg (Pn (Wr Ay Fy (zm (k:=6) (ps:=["self"]) rfl (Fa 0) (LY b) (a.mono (by decide))) dt (Mh _)) (Hu (Wr (js (Eg a)) Sk (zm (k:=1) (ps:=["self"]) rfl (zm (k:=1) (ps:=["self"]) rfl (Fa 0) (BA b) (a.mono (by decide))) (vx b) (a.mono (by decide))) (jl (sy rfl) Sk (Fa 3) Mc) (Mh _)))))))))
noncomputable abbrev eM:Stmt:=Yd (top 99) 2
noncomputable def zI:Ev->M Fl:=
 (wc (Ih (eT (Xb jt (ya 1) (Xd (Tc [16] "keepers") (ya 0)))) (Iw 2 (ib (eC (.str "this hand doesn't keep")) Ab)) ti) (cg (Xb Nj (Xd (Tc [16] "keepers") (ya 0)) (ya 1))))
noncomputable def gb:List D->M D:=hide λa=>rb (run 2 zI a)
theorem fY:Ka ["self", "hand"] ["self", "hand"] (pd eM):=bg rfl rfl rfl (by decide +kernel)
theorem qW:BD "keeper" "Hall.keeper" eM ["self", "hand"]:=
 λ_ _ _ _ _ _ b a=>match b,a with|[_,_],_=>rfl
theorem J3(a:Txt K mg ca):ye ⟨K,ca,tx K⟩ P w mg base 1 (ca 81) ["self", "hand"] gb:=
 ye.hide (ye.rb (Vj a.gb fY λ_ _ _ _ _ _ b=>
  (Jd (Ii (Oi (RG (Eg b)) EF (Fa 1) (Jg rfl (Ey a) (Fa 0)) rfl) (Vc (dy 2 uc rfl a.Ml a.Il rfl rfl (ub Rs Bc))) oj)
  (Vc (Bg (Tt (Eg b) (Jg rfl (Ey a) (Fa 0)) (Fa 1) (λ_ _=>rfl)))))))
theorem wG(a:Txt K mg ca):Wj ⟨K,ca,tx K⟩ P w mg base 1 "keeper" ["self", "hand"] [(16,gb)]:=(il (T:=⟨K,ca,tx K⟩) (c:=16) a.af a.Sl (J3 a) (by decide) ql)
noncomputable abbrev rK:Stmt:=Yd (top 99) 21
noncomputable def yL:Ev->M Fl:=
 (cg (Df [(15,Yb)] 2 "look" (Df [(16,gb)] 2 "keeper" (ya 0) (ib (ya 1) Ab)) (ib (Xd (Tc [16] "public") (ya 0)) Ab)))
noncomputable def Kc:List D->M D:=hide (run 2 yL)
theorem IU:Ka ["self", "hand"] ["self", "hand"] (pd rK):=bg rfl rfl rfl (by decide +kernel)
theorem XZ:BD "look" "Hall.look" rK ["self", "hand"]:=
 λ_ _ _ _ _ _ b a=>match b,a with|[_,_],_=>rfl
theorem VR(a:Txt K mg ca):ye ⟨K,ca,tx K⟩ P w mg base 6 (ca 100) ["self", "hand"] Kc:=
 ye.hide (Vj a.Kc IU λ_ _ _ _ _ _ b=>
  (Vc (Bg (Xm (k:=5) (ps:=["self", "book"]) rfl (Xm (k:=1) (ps:=["self", "hand"]) rfl (Fa 0) (wG a) (b.mono (by decide)) (ub (Fa 1) Bc)) (YL a) (b.mono (by decide)) (ub (Jg rfl (uv a) (Fa 0)) Bc)))))
theorem g0(a:Txt K mg ca):Wj ⟨K,ca,tx K⟩ P w mg base 6 "look" ["self", "hand"] [(16,Kc)]:=(il (T:=⟨K,ca,tx K⟩) (c:=16) a.af a.Jn (VR a) (by decide) ql)
noncomputable abbrev IM:Stmt:=top 104
noncomputable abbrev DF:Ev->M Fl:=(wc (aj 6 (Df [(16,gb)] 2 "keeper" (ya 0) (ib (ya 5) Ab))) (Ih (Qx (eT (Xb iq (Df [(15,Bb)] 1 "looked" (ya 6) Ab) (Xb Nj (ya 1) (ya 5)))) (eT (Xb xC (Xb LA (ya 4) (Xb Nj (ya 1) (ya 5))) (ya 2)))) (cg (eC (.bl false))) ti))
noncomputable def mI:Ev->M Fl:=
 (wc (aj 4 (Df [(9,eb)] 1 "today" (Df [(16,Db)] 1 "book" (ya 0) Ab) Ab)) (wc (ms (ya 1) (io (vv (ya 1)) (Ed 5) DF)) (cg (qD (Xb Zr (ya 3) (eC .Hb)) (Xb QC (ya 4) (ya 3))))))
noncomputable def Re:List D->M D:=hide λa=>rb (run 7 mI a)
theorem RC:Ka ["_law_hall", "_law_looks", "_law_every", "_law_shown", "_law_today", "_law_hand", "_law_keeper"] ["_law_hall", "_law_looks", "_law_every", "_law_shown"] (pd IM):=bg rfl rfl rfl (by decide +kernel)
theorem gR:BD "_law_right" "_law_right" IM ["_law_hall", "_law_looks", "_law_every", "_law_shown"]:=
 λ_ _ _ _ _ _ b a=>match b,a with|[_,_,_,_],_=>rfl
theorem CS(b:Txt K mg ca):Ae ⟨K,ca,tx K⟩ P w mg base 2 "_law_right" ["_law_hall", "_law_looks", "_law_every", "_law_shown"] Re:=
 Ae.hide (Ae.rb (nl b.Re RC λ_ _ _ _ _ _ _ a=>
  (Jd (Kl (i:=4) RC.nd rfl (Or.inl rfl) (zm (k:=1) (ps:=["self"]) rfl (zm (k:=1) (ps:=["self"]) rfl (Fa 0) (BA b) (a.mono (by decide))) (vx b) (a.mono (by decide))))
  (Jd (yw (gu sm rfl (EG (Fa 1)) (Uh (i:=5) RC.nd rfl (Or.inl rfl)) (Jd (Kl (i:=6) RC.nd rfl (Or.inl rfl) (Xm (k:=1) (ps:=["self", "hand"]) rfl (Fa 0) (wG b) (a.mono (by decide)) (ub (Fa 5) Bc)))
  (Vc (Ii (L2.PW.pt (MB (Oi (ky (Eg a)) Sk (zm (k:=1) (ps:=["self"]) rfl (Fa 6) (dO b) (a.mono (by decide))) (Tt (Eg a) (Fa 1) (Fa 5) (λ_ _=>rfl)) (Mh _)) (XC (Oi jE YE (jl CC cC (Fa 4) (Tt (Eg a) (Fa 1) (Fa 5) (λ_ _=>rfl))) (Fa 2) (Mh _))))) (Vc (Bg mq)) oj)))))
  (Vc (Bg (dL (Wr Ay Fy (Fa 3) dt (Mh _)) (Hu (Wr kG YG (Fa 4) (Fa 3) (Mh _))))))))))
noncomputable abbrev NN:Stmt:=Yd (top 96) 3
noncomputable def KJ:Ev->M Fl:=
 (cg (Zi (Tj Av (ib (Xd (Tc [14,15] "known") (ya 0)) Ab))))
noncomputable def Wb:List D->M D:=hide λa=>rb (run 1 KJ a)
theorem JU:Ka ["self"] ["self"] (pd NN):=bg rfl rfl rfl (by decide +kernel)
theorem A1:BD "words" "Keeper.words" NN ["self"]:=
 λ_ _ _ _ _ _ b a=>match b,a with|[_],_=>rfl
theorem qZ(a:Txt K mg ca):ye ⟨K,ca,tx K⟩ P w mg base 1 (ca 58) ["self"] Wb:=
 ye.hide (ye.rb (Vj a.Wb JU λ_ _ _ _ _ _ b=>
  (Vc (Bg (Ap (Xq (gP rfl) (fO rfl) rfl a.Th L4.RE (ub (Jg rfl (eF a) (Fa 0)) Bc)))))))
theorem yW(a:Txt K mg ca):Wj ⟨K,ca,tx K⟩ P w mg base 1 "words" ["self"] [(15,Wb)]:=(il (T:=⟨K,ca,tx K⟩) (c:=15) a.Ub a.xk (qZ a) (by decide) ql)
noncomputable abbrev WK:Stmt:=top 105
noncomputable abbrev CH:Ev->M Fl:=(Ih (eT (Xb iq (Xb (bx false) (eC (.int 9)) (Df [(15,Wb)] 1 "words" (Df [(16,gb)] 2 "keeper" (ya 0) (ib (ya 2) Ab)) Ab)) (Xb Nj (ya 1) (ya 2)))) (cg (eC (.bl false))) ti)
noncomputable def OI:Ev->M Fl:=
 (wc (ms (ya 1) (io (vv (ya 1)) (Ed 2) CH)) (cg (eC (.bl true))))
noncomputable def Gc:List D->M D:=hide λa=>rb (run 3 OI a)
theorem jO:Ka ["_law_hall", "_law_knows", "_law_hand"] ["_law_hall", "_law_knows"] (pd WK):=bg rfl rfl rfl (by decide +kernel)
theorem cV:BD "_law_words_right" "_law_words_right" WK ["_law_hall", "_law_knows"]:=
 λ_ _ _ _ _ _ b a=>match b,a with|[_,_],_=>rfl
theorem P3(b:Txt K mg ca):Ae ⟨K,ca,tx K⟩ P w mg base 2 "_law_words_right" ["_law_hall", "_law_knows"] Gc:=
 Ae.hide (Ae.rb (nl b.Gc jO λ_ _ _ _ _ _ _ a=>
  (Jd (yw (gu sm rfl (EG (Fa 1)) (Uh (i:=2) jO.nd rfl (Or.inl rfl)) (Vc (Ii (Oi (ky (Eg a)) Sk (Wr nK (AO rfl false) Mc (zm (k:=1) (ps:=["self"]) rfl (Xm (k:=1) (ps:=["self", "hand"]) rfl (Fa 0) (wG b) (a.mono (by decide)) (ub (Fa 2) Bc)) (yW b) (a.mono (by decide))) rfl) (Tt (Eg a) (Fa 1) (Fa 2) (λ_ _=>rfl)) (Mh _)) (Vc (Bg mq)) oj))))
  (Vc (Bg mq)))))
noncomputable abbrev nM:Stmt:=top 106
noncomputable abbrev lF:Ev->M Fl:=(Ih (Wu (eT (Xb iq (Xb Nj (ya 5) (ya 7)) (Xb Nj (ya 10) (ya 7)))) (eT (Xb mw (ya 8) (eC .Hb)))) (Gp (eC (.bl true)) (ya 6) (ya 7)) ti)
noncomputable abbrev lE:Ev->M Fl:=(Ih (Qx (br (eT (bh 4 Re [] (ib (ya 4) (ib (ya 5) (ib (ya 3) (ib (ya 8) Ab))))))) (br (eT (bh 2 Gc [] (ib (ya 4) (ib (ya 6) Ab)))))) (cg (eC (.bl false))) ti)
noncomputable abbrev cA:Ev->M Bool:=(Wu (eT (Xb Zr (ya 8) (eC .Hb))) (eT (Xb oEq (Xb Rt (Xb Oe (ya 0) (ya 9)) (eC (.int 8))) (eC (.int 7)))))
noncomputable abbrev lA:Ev->M Fl:=(wc (Ih (eT (Xb mw (Df [(16,Lc)] 3 "show" (ya 4) (ib (Xb Rt (Xb gx (Xb Oe (ya 0) (ya 9)) (eC (.int 8))) (eC (.int 2))) (ib (eC (.int 9)) Ab))) (eC .Hb))) (cg (eC (.bl false))) ti) (aj 8 (Df [(9,eb)] 1 "today" (Df [(16,Db)] 1 "book" (ya 4) Ab) Ab)))
noncomputable abbrev cB:Ev->M Bool:=(eT (Xb oLt (Xb Rt (Xb Oe (ya 0) (ya 9)) (eC (.int 8))) (eC (.int 6))))
noncomputable abbrev lB:Ev->M Fl:=(Ih (br (eT (bh 3 Ie [] (ib (ya 4) (ib (ya 5) (ib (ya 3) Ab)))))) (cg (eC (.bl false))) ti)
noncomputable abbrev lC:Ev->M Fl:=(wc (aj 7 (Xb Oe (ya 2) (Xb Rt (Xb gx (Xb Oe (ya 0) (ya 9)) (eC (.int 8))) (Tj Ao (ib (ya 2) Ab))))) (wc (Gp (Df [(9,eb)] 1 "today" (Df [(16,Db)] 1 "book" (ya 4) Ab) Ab) (ya 5) (ya 7)) (wc (Ih (eT (Xb iq (Df [(16,Kc)] 2 "look" (ya 4) (ib (ya 7) Ab)) (fq Ab))) (cg (eC (.bl false))) ti) (Gp (qD (Xb Nj (ya 6) (ya 7)) (Xb mw (ya 8) (eC .Hb))) (ya 6) (ya 7)))))
noncomputable abbrev Wx:Ev->M Fl:=(wc (aj 10 (Tj Nu (ib (ya 5) Ab))) (wc (Ih cA lA (Ih cB lB lC)) (wc (Cp (Gi (ya 2)) (Ed 7) lF) lE)))
noncomputable abbrev YA:Ev->M Fl:=(wc (Gp (eC (.int 0)) (ya 5) (ya 7)) (Gp (eC (.bl false)) (ya 6) (ya 7)))
noncomputable abbrev ME:Ev->M D:=(fq (ib (fq (ib (eC (.int 0)) Ab)) (ib (fq (ib (eC (.int 1)) Ab)) (ib (fq (ib (eC (.int 2)) Ab)) (ib (fq (ib (eC (.int 0)) (ib (eC (.int 1)) Ab))) (ib (fq (ib (eC (.int 1)) (ib (eC (.int 2)) Ab))) (ib (fq (ib (eC (.int 2)) (ib (eC (.int 0)) Ab))) (ib (fq (ib (eC (.int 0)) (ib (eC (.int 1)) (ib (eC (.int 2)) Ab)))) Ab))))))))
noncomputable def WO:Ev->M Fl:=
 (wc (aj 1 (bh 2 ce [] (ib (ya 0) (ib (eC (.int 0)) Ab)))) (wc (aj 2 (Xb Oe ME (Xb Rt (Xb gx (ya 1) (eC (.int 4))) (eC (.int 7))))) (wc (aj 3 (Xb Yq (eC (.int 1)) (Xb Rt (Xb gx (ya 1) (eC (.int 28))) (eC (.int 12))))) (wc (aj 4 (jr 16 5 To (mx [] (ib (bh 1 ff [] (ib (ya 1) Ab)) (ib (ya 2) (ib (ya 3) (ib (Zi (ID [.inl 9] (ib (eC (.int 3)) Ab))) Ab))))))) (wc (aj 5 Xo) (wc (aj 6 Xo) (wc (Cp (Gi (ya 2)) (Ed 7) YA) (wc (aj 8 (eC .Hb)) (wc (Cp (wC (eC (.int 2)) (Tj nA (ib (Tj Ao (ib (ya 0) Ab)) (ib (eC (.int 42)) Ab)))) (Ed 9) Wx) (cg (eC (.bl true))))))))))))
noncomputable def cn:List D->M D:=run 11 WO
theorem Hq:Ka ["_law_script", "_law_cell", "_law_keeps", "_law_every", "_law_hall", "_law_looks", "_law_knows", "_law_hand", "_law_shown", "_law_k", "_law_before"] ["_law_script"] (pd nM):=bg rfl rfl rfl (by decide +kernel)
theorem OY:BD "law" "law" nM ["_law_script"]:=
 λ_ _ _ _ _ _ b a=>match b,a with|[_],_=>rfl
theorem XQ(b:Txt K mg ca):uE ⟨K,ca,tx K⟩ P w mg 12 "law" ["_law_script"] cn:=
 R3 b.cn Hq λ_ _ _ _ _ _ _ _ a=>
  (Jd (Kl (i:=1) Hq.nd rfl (Or.inl rfl) (si (dS b) rfl (a.mono (by decide)) rfl (ub (Fa 0) (ub Mc Bc))))
  (Jd (Kl (i:=2) Hq.nd rfl (Or.inl rfl) (qi ki (pi rfl) (Ar (ub (Ar (ub Mc Bc)) (ub (Ar (ub Mc Bc)) (ub (Ar (ub Mc Bc)) (ub (Ar (ub Mc (ub Mc Bc))) (ub (Ar (ub Mc (ub Mc Bc))) (ub (Ar (ub Mc (ub Mc Bc))) (ub (Ar (ub Mc (ub Mc (ub Mc Bc)))) Bc)))))))) (jl aw bw (jl UA jz (Fa 1) Mc) Mc) (λ_ _=>rfl)))
  (Jd (Kl (i:=3) Hq.nd rfl (Or.inl rfl) (jl (sy rfl) Sk Mc (jl aw bw (jl UA jz (Fa 1) Mc) Mc)))
  (Jd (Kl (i:=4) Hq.nd rfl (Or.inl rfl) (qN (c:=16) (ps:=["self", "pots", "keeps", "every", "words"]) b.uw b.Xu (oS b) (.inl rfl) .nil (λ_ _=>Ra.nil) rfl (a.mono (by decide)) rfl (ub (si (NS b) rfl (a.mono (by decide)) rfl (ub (Fa 1) Bc)) (ub (Fa 2) (ub (Fa 3) (ub (Ap (gX (Wv.cons (kk:=.inl 9) Mc Mc Wv.nil) rfl rfl (List.cons_ne_nil _ _) (ec rfl))) Bc))))))
  (Jd (Kl (i:=5) Hq.nd rfl (Or.inl rfl) Zs)
  (Jd (Kl (i:=6) Hq.nd rfl (Or.inl rfl) Zs)
  (Jd (Ys sm rfl (Jp rfl (Fa 2)) (Uh (i:=7) Hq.nd rfl (Or.inl rfl)) (Jd (Mq (Eg a) Mc (Fa 5) (Fa 7))
  (Vc (Mq (Eg a) mq (Fa 6) (Fa 7)))))
  (Jd (Kl (i:=8) Hq.nd rfl (Or.inl rfl) dt)
  (Jd (Ys sm rfl (pT rfl b.yn Mc (Xq (J0 rfl) WV rfl b.Ts boot_min (ub (Xq Yu (Eu rfl) rfl b.Ah Rc (ub (Fa 0) Bc)) (ub Mc Bc)))) (Uh (i:=9) Hq.nd rfl (Or.inl rfl)) (Jd (Kl (i:=10) Hq.nd rfl (Or.inl rfl) (pw eK bJ rfl b.En boot_dict (ub (Fa 5) Bc)))
  (Jd (Ii (L2.PW.pt (uz (Oi Ay Fy (Fa 8) dt (Mh _)) (nz (Oi (js (Eg a)) Sk (jl aw bw (qi ki (pi rfl) (Fa 0) (Fa 9) (λ_ _=>rfl)) Mc) Mc (Mh _))))) (Jd (Ii (Oi UE LF (Xm (k:=5) (ps:=["self", "P", "W"]) rfl (Fa 4) (YQ b) (a.mono (by decide)) (ub (jl aw bw (jl UA jz (qi ki (pi rfl) (Fa 0) (Fa 9) (λ_ _=>rfl)) Mc) Mc) (ub Mc Bc))) dt (Mh _)) (Vc (Bg mq)) oj)
  (Vc (Kl (i:=8) Hq.nd rfl (Or.inl rfl) (zm (k:=1) (ps:=["self"]) rfl (zm (k:=1) (ps:=["self"]) rfl (Fa 4) (BA b) (a.mono (by decide))) (vx b) (a.mono (by decide)))))) (Vc (Ii (Oi fE pH (jl aw bw (qi ki (pi rfl) (Fa 0) (Fa 9) (λ_ _=>rfl)) Mc) Mc (Mh _)) (Vc (Ii (tt (Ur (si (vQ b) rfl (a.mono (by decide)) rfl (ub (Fa 4) (ub (Fa 5) (ub (Fa 3) Bc)))))) (Vc (Bg mq)) oj)) (Jd (Kl (i:=7) Hq.nd rfl (Or.inl rfl) (qi ki (pi rfl) (Fa 2) (jl aw bw (jl UA jz (qi ki (pi rfl) (Fa 0) (Fa 9) (λ_ _=>rfl)) Mc) (Xq Yu (Eu rfl) rfl b.Ah Rc (ub (Fa 2) Bc))) (λ_ _=>rfl)))
  (Jd (Mq (Eg a) (zm (k:=1) (ps:=["self"]) rfl (zm (k:=1) (ps:=["self"]) rfl (Fa 4) (BA b) (a.mono (by decide))) (vx b) (a.mono (by decide))) (Fa 5) (Fa 7))
  (Jd (Ii (Oi (ky (Eg a)) Sk (Xm (k:=6) (ps:=["self", "hand"]) rfl (Fa 4) (g0 b) (a.mono (by decide)) (ub (Fa 7) Bc)) (Ar Bc) (Mh _)) (Vc (Bg mq)) oj)
  (Vc (Mq (Eg a) (dL (Tt (Eg a) (Fa 6) (Fa 7) (λ_ _=>rfl)) (Hu (Wr UE LF (Fa 8) dt (Mh _)))) (Fa 6) (Fa 7)))))))))
  (Jd (Ys sm rfl (Jp rfl (Fa 2)) (Uh (i:=7) Hq.nd rfl (Or.inl rfl)) (Vc (Ii (L2.PW.pt (uz (Oi (ky (Eg a)) Sk (Tt (Eg a) (Fa 5) (Fa 7) (λ_ _=>rfl)) (Tt (Eg a) (Fa 10) (Fa 7) (λ_ _=>rfl)) (Mh _)) (nz (Oi UE LF (Fa 8) dt (Mh _))))) (Vc (Mq (Eg a) mq (Fa 6) (Fa 7))) oj)))
  (Vc (Ii (L2.PW.pt (MB (tt (Ur (si (CS b) rfl (a.mono (by decide)) rfl (ub (Fa 4) (ub (Fa 5) (ub (Fa 3) (ub (Fa 8) Bc))))))) (XC (tt (Ur (si (P3 b) rfl (a.mono (by decide)) rfl (ub (Fa 4) (ub (Fa 6) Bc)))))))) (Vc (Bg mq)) oj))))))
  (Vc (Bg mq)))))))))))
end
end K53
namespace K53
open PySem L2 L4
set_option maxHeartbeats 4000000
section
variable{α:Type}{xs:List α}{σ:db}{fi:Ev->M Bool}{fe:Ev->M D}{tg:D->Ev->Option Ev}{nx:NX}{Jh:Ev}
theorem DU(O:Option D->Prop)(v a:α->D)(b:α->Option D)(p:α->Bool)(y:α->D)(hn:∀ i j,i<=xs.length->nx i (σ++j)=some ((xs[i]?).map v))(s:∀ x o c,O c->tg (v x) (o::c::Jh)=some (some (a x)::b x::Jh)/\O (b x))
  (step:∀ x∈xs,∀ j,fi (some (a x)::b x::Jh) (σ++j)=.ok (p x) (σ++j)/\(p x=true->fe (some (a x)::b x::Jh) (σ++j)=.ok (y x) (σ++j))) (z:xs.length<=1000) :
  ∀ (k i:Nat) (o c:Option D) (ys:List D),O c->xs.length<k+i->i<=xs.length->ys.length<=i->
   bi nx σ.length tg fi fe k i (o::c::Jh) (σ++[.lst ys])=.ok () (σ++[.lst (ys++((xs.drop i).filter p).map y)]):=by
 intro k;induction k with
 |zero=>intro i o c ys _ q l;omega
 |succ k m=>
  intro i o c ys r q l A;unfold bi;rw[hn i _ l];cases e:xs[i]? with
  |none=>
   have g:xs.length<=i:=Fb.mp e;rw[Op g];simp
  |some d=>
   obtain⟨g,h⟩:=ka.mp e;have hd:xs.drop i=d::xs.drop (i+1):=by rw[<-h];exact Wn g
   obtain⟨t,u⟩:=step d (by rw[<-h];exact re g) [.lst ys];obtain⟨w,n⟩:=s d o c r;simp only[zg,w];rw[wm,Rz t,qc];by_cases f:p d=true
   ·rw[f,da rfl,wm,Rz (u f),qc,wm,LQ (by omega),qc,m (i+1) _ _ (ys++[y d]) n (by omega) (by omega) (by simp;omega),hd,Eh,da f];simp
   ·rw[ga f,m (i+1) _ _ ys n (by omega) (by omega) (by omega),hd,Eh,ga f]
end
theorem Yt{σ:db}{xs:List D}(h:Nh xs=true):Xf σ (.ok (.ref σ.length) (σ++[.lst xs]))=.ok (.lst xs) σ:=by
 have:=WL (σ:=σ) (j:=[]) (j':=[]) h;simpa using this
theorem tO{src:Ev->M Src}{s:Src}{ix:List Nat}{fi:Ev->M Bool}{fe:Ev->M D}{ds:List D}{ρ:Ev}{σ:db}(y:D->D)(p:D->Bool)(hs:src ρ σ=.ok s σ)(hn:∀ i j,s.nx i (σ++j)=some ds[i]?)(e:ds.length<=1000)
  (step:∀ d∈ds,∀ j,fi (some d::none::(ix.map λi=>(ρ[i]?).getD none)) (σ++j)=.ok (p d) (σ++j)/\(p d=true->fe (some d::none::(ix.map λi=>(ρ[i]?).getD none)) (σ++j)=.ok (y d) (σ++j))) (c:∀ d∈ds,p d=true->cl (y d)=true) :
  Zi (mo (toN src) ix (Ed 0) fi fe) ρ σ=.ok (.lst ((ds.filter p).map y)) σ:=by
 show Xf σ (Fc (Fc (src ρ) gE) (IC (Ed 0) fi fe (Ks ix ρ)) σ)=_;rw[wm,wm,hs,qc];show Xf σ (Fc (bi s.nx σ.length (Ed 0) fi fe 1001 0 (none::none::(ix.map λi=>(ρ[i]?).getD none))) _ (σ++[.lst []]))=_;rw[wm,DU (λo=>o=none) (λd=>d) (λd=>d) (λ_=>none) p y (λi j _=>by rw[hn];cases ds[i]?<;>rfl) (λx o g h=>by subst h;exact⟨rfl,rfl⟩) step e 1001 0 none none [] rfl (by omega) (by omega) (by simp),qc];refine Eq.trans (Ve (Xf σ) ?_) (Yt (xs:=(ds.filter p).map y) (mF λd hd=>by obtain⟨x,f,rfl⟩:=Dc.mp hd;obtain⟨a,b⟩:=dm.mp f;exact c x a b));simp
theorem zH{src:Ev->M Src}{s:Src}{ix:List Nat}{fe:Ev->M D}{ds:List D}{ρ:Ev}{σ:db}(y:D->D)(hs:src ρ σ=.ok s σ)(hn:∀ i j,s.nx i (σ++j)=some ds[i]?)(b:ds.length<=1000)
  (step:∀ d∈ds,∀ j,fe (some d::none::(ix.map λi=>(ρ[i]?).getD none)) (σ++j)=.ok (y d) (σ++j)) (a:∀ d∈ds,cl (y d)=true) :
  Zi (mo (toN src) ix (Ed 0) wo fe) ρ σ=.ok (.lst (ds.map y)) σ:=by
 have:=tO (p:=λ_=>true) y (ix:=ix) (fi:=wo) hs hn b (λd hd j=>⟨rfl,λ_=>step d hd j⟩) (λd hd _=>a d hd);rw[show List.filter (λ_=>true) ds=ds from List.filter_eq_self.mpr λ_ _=>rfl]at this;exact this
structure Pt where
 (l r u v t:Int)
noncomputable def Pt.D(p:Pt):L4.D:=.tup [.int p.l,.int p.r,.int p.u,.int p.v,.int p.t]
structure Pt.Ok(p:Pt):Prop where
 l:0<=p.l/\p.l<=3
 r:0<=p.r/\p.r<=3
 lr:p.l≠p.r
 u:0<=p.u/\p.u<=1000000000000
 v:0<=p.v/\p.v<=1000000000000
 t:1<=p.t/\p.t<=100
noncomputable def Sc:D->Bool
 | .int _=>true
 | .Hb=>true
 | .bl _=>true
 | .str _=>true
 |_=>false
noncomputable def bd(d:D)(a b:Int):Bool:=match d with
 | .int i=>decide (a<=i) && decide (i<=b)
 |_=>false
theorem l4(x:qa)(σ:db):ar .int (.str x) σ=.ok (.bl false) σ:=nr rfl
theorem hV{d:D}(h:Sc d=true)(σ:db):Kf [d] σ=.ok (.bl (match d with | .int _=>true|_=>false)) σ:=by
 unfold Kf yI;cases d with
 |int i=>simp
 |Hb=>simp
 |bl b=>simp
 |str x=>simp[l4]
 |_=>cases h
theorem Zt{d:D}(h:Sc d=true)(a b:Int)(σ:db):Eb [d,.int a,.int b] σ=.ok (.bl (bd d a b)) σ:=by
 have w:=λσ=>hV h σ;unfold Eb hL;cases d with
 |int i=>cases c:decide (a<=i)<;>simp[bd,c,w]
 |Hb=>simp[bd,w]
 |bl b=>simp[bd,w]
 |str x=>simp[bd,w]
 |_=>cases h
theorem yN{d:D}(h:Sc d=true)(σ:db):Mf [d] σ=.ok (.bl (bd d 0 3)) σ:=by
 have w:=λσ=>Zt h 0 3 σ;unfold Mf fP;generalize bd d 0 3=b at *;simp[w]
noncomputable def Zw(a b:D):Bool:=match a,b with
 | .int i,.int j=>!(i == j)
 |_,_=>true
noncomputable def vB(a b c d e:D):Bool:=bd a 0 3 && (bd b 0 3 && (Zw a b && (bd c 0 1000000000000 && (bd d 0 1000000000000 && bd e 1 100))))
theorem NJ{d:D}{a b:Int}(h:bd d a b=true):∃ i,d=.int i/\a<=i/\i<=b:=by
 cases d with
 |int i=>simp[bd]at h;exact⟨i,rfl,h.1,h.2⟩
 |_=>simp[bd]at h
theorem aP(a b c d e:D)(r:List D)(σ:db):Oe (.tup (a::b::c::d::e::r)) (.int 4) σ=.ok e σ:=wz (show Yl _ ((4:Nat):Int)=_ from Vv rfl)
theorem zV{a b:D}(c:bd a 0 3=true)(hb:bd b 0 3=true)(σ:db):iq a b σ=.ok (.bl (Zw a b)) σ/\oEq a b σ=.ok (.bl (!Zw a b)) σ:=by
 obtain⟨i,rfl,_⟩:=NJ c;obtain⟨j,rfl,_⟩:=NJ hb;simp[Zw]
theorem JX{a b c d e:D}(k:Sc a=true)(hb:Sc b=true)(l:Sc c=true)(hd:Sc d=true)(m:Sc e=true)(σ:db):qd [.tup [a,b,c,d,e]] σ=.ok (.bl (vB a b c d e)) σ:=by
 have f:=λσ=>yN k σ;have g:=λσ=>yN hb σ;have h:=λσ=>Zt l 0 1000000000000 σ;have i:=λσ=>Zt hd 0 1000000000000 σ;have j:=λσ=>Zt m 1 100 σ;have hn:bd a 0 3=true->bd b 0 3=true->∀ σ,iq a b σ=.ok (.bl (Zw a b)) σ:=λx y σ=>(zV x y σ).1;have n:=λσ=>aP a b c d e [] σ;unfold qd cK vB;generalize bd a 0 3=o at *;generalize bd b 0 3=p at *;generalize bd c 0 1000000000000=q at *;generalize bd d 0 1000000000000=r at *;generalize bd e 1 100=t at *;generalize Zw a b=s at *;cases o
 ·simp[f]
 ·cases p
  ·simp[f,g]
  ·have hn:=hn rfl rfl;cases s
   ·simp[f,g,hn]
   ·cases q
    ·simp[f,g,hn,h]
    ·cases r
     ·simp[f,g,hn,h,i]
     ·simp[f,g,hn,h,i,n,j]
@[simp] theorem x5(f:Ev->M D)(b a:PF)(ρ:Ev)(σ:db):AH f b a ρ σ=(f ρ σ).bind (VE (Yw b ρ) (Yw a ρ)):=nr rfl
@[simp] theorem S4(b a:M (Option Int))(x:D)(σ:db):VE b a x σ=(b σ).bind (SE x a):=nr rfl
@[simp] theorem O5(x:D)(a:M (Option Int))(b:Option Int)(σ:db):SE x a b σ=(a σ).bind (iA x b):=nr rfl
@[simp] theorem x6(ρ:Ev)(σ:db):Yw none ρ σ=.ok none σ:=nr rfl
@[simp] theorem y6(f:Ev->M D)(ρ:Ev)(σ:db):Yw (some f) ρ σ=(f ρ σ).bind mH:=nr rfl
@[simp] theorem G5(i:Int)(σ:db):mH (.int i) σ=.ok (some i) σ:=nr rfl
@[simp] theorem xY(xs:List D)(b a:Option Int)(σ:db):iA (.tup xs) b a σ=.ok (.tup (iu xs b a)) σ:=nr rfl
@[simp] theorem X0(a:D)(r:List D)(σ:db):Oe (.lst (a::r)) (.int 0) σ=.ok a σ:=iC (show Yl _ ((0:Nat):Int)=_ from Vv rfl)
@[simp] theorem mW(a b:D)(r:List D)(σ:db):Oe (.lst (a::b::r)) (.int 1) σ=.ok b σ:=iC (show Yl _ ((1:Nat):Int)=_ from Vv rfl)
theorem Du{nx:NX}{tg:D->Ev->Option Ev}{body:Ev->M Fl}{k i:Nat}{ρ ρ1:Ev}{σ:db}{d:D}(h:nx i σ=some (some d))(a:tg d ρ=some ρ1):Xj nx tg body (k+1) i ρ σ=(body ρ1 σ).bind (bu (Xj nx tg body k (i+1))):=by
 rw[Xj];simp only[h,a];rfl
theorem Qw{nx:NX}{tg:D->Ev->Option Ev}{body:Ev->M Fl}{k i:Nat}{ρ:Ev}{σ:db}(h:nx i σ=some none):Xj nx tg body (k+1) i ρ σ=.ok (.nx ρ) σ:=by
 rw[Xj];simp only[h]
@[simp] theorem gY(f:Ev->M D)(ρ:Ev)(σ:db):iD f ρ σ=(f ρ σ).bind xw:=nr rfl
@[simp] theorem uA(src:Ev->M NX)(tg:D->Ev->Option Ev)(body:Ev->M Fl)(ρ:Ev)(σ:db):io src tg body ρ σ=am ρ (zB tg body ρ) (src ρ σ):=Kn ..
theorem xE{xs:List D}{x:D}{σ:db}(a:cm σ x=some xs)(h:Nh xs=true):Xf σ (Vr [x] σ)=.ok (.lst xs) σ:=by
 have e:Vr [x] σ=.ok (.ref σ.length) (σ++[.lst xs]):=by unfold Vr;simp only[a];rfl
 rw[e];have:=WL (σ:=σ) (j:=[]) (j':=[]) h;simpa using this
noncomputable def Pt.w(p:Pt):Int:=p.u+p.v
theorem xN(p:Pt)(σ:db):Je [p.D] σ=.ok (.int p.w) σ:=by
 unfold Je CI Pt.D Pt.w;simp
theorem U3(y:D)(σ:db):Sn [.ref σ.length,y] (σ++[.ins 6 []])=.ok .Hb (σ++[.ins 6 [("whole",y)]]):=by
 have p:∀ a,ft a [5,6,7,8] "whole" y (.ref σ.length) (σ++[.ins 6 []])=.ok (.nx a) (σ++[.ins 6 [("whole",y)]]):=λa=>xL rfl (by decide);unfold Sn BO;simp[p]
theorem IK(w:Int)(σ:db):Xf σ (Fp 6 2 Sn [.int w] σ)=.ok (.obj 6 ["whole"] [.int w]) σ:=by
 rw[jC,U3,Nz,QJ (by simp)];rfl
section
variable{σ:db}{x:D}{xs:List D}
theorem gJ(h:Dh σ x=some xs):xw x σ=.ok (wt x) σ:=by unfold xw;rw[h]
theorem mD{i:Nat}{d:D}(h:Dh σ x=some xs)(a:xs[i]?=some d):wt x i σ=some (some (.tup [.int i,d])):=by unfold wt;rw[h];simp only[a]
theorem vI(h:Dh σ x=some xs):wt x xs.length σ=some none:=by unfold wt;rw[h];simp
end
theorem dP{xs:List D}(h:Nh xs=true)(σ:db):Xf σ (Vr [.lst xs] σ)=.ok (.lst xs) σ:=xE (x:=.lst xs) (zR xs) h
noncomputable def Yj(u v:Int):D:=.tup [.int 0,.tup [.int u,.int v],.tup []]
theorem j4(fe:Ev->M D)(σ:db):Zi (mo (toN (Gi (ya 0))) [] (Ed 0) wo fe) [some (.tup [])] σ=.ok (.lst []) σ:=
 zH (s:=.seq []) (ix:=[]) (ds:=[]) (λd=>d) (by simp) (λ_ _=>rfl) (by simp) (λd hd=>nomatch hd) (λd hd=>nomatch hd)
theorem cW(σ:db):Lf [.tup []] σ=.ok (.bl true) σ:=by
 have c:=λb σ=>j4 b σ;have d:∀ σ:db,Dy (.lst []) σ=.ok (.int 0) σ:=λσ=>JQ (σ:=σ) (l:=[]) (by simp);have a:∀ σ:db,sC [.lst []] σ=.ok (.bl true) σ:=λσ=>nr rfl;unfold Lf GJ;simp[c,d,a,-zy]
theorem DR{u v:Int}(j:0<=u/\u<=1000000000000)(k:0<=v/\v<=1000000000000)(σ:db):li [.int u,.int v] σ=.ok (Yj u v) σ:=by
 have c:∀ σ,gf [.int 0] σ=.ok (.bl true) σ:=λσ=>by
  have w:=λσ=>Zt (d:=.int 0) rfl 0 1000000 σ;have e:bd (.int 0) 0 1000000=true:=by simp[bd]
  rw[e]at w;unfold gf AN;simp[w]
 have f:∀ σ,Te [.tup [.int u,.int v]] σ=.ok (.bl true) σ:=λσ=>by
  have w:=λσ=>Zt (d:=.int u) rfl 0 2000000000000 σ;have b:=λσ=>Zt (d:=.int v) rfl 0 2000000000000 σ;have e:bd (.int u) 0 2000000000000=true:=by simp[bd];omega
  have h:bd (.int v) 0 2000000000000=true:=by simp[bd];omega
  rw[e]at w;rw[h]at b;unfold Te kO;simp[w,b]
 have a:∀ σ,Hf [Yj u v] σ=.ok (.bl true) σ:=λσ=>by
  have t:=λσ=>cW σ;unfold Yj Hf UO;simp[c,f,t]
 have g:∀ σ,ji [.int 0,.tup [.int u,.int v],.Hb] σ=.ok (Yj u v) σ:=λσ=>by
  unfold Yj at a ⊢;unfold ji iM;simp[a]
 have i:cl (Yj u v)=true:=by unfold Yj;simp
 unfold li KO;generalize Yj u v=S at *;simp[g,i]
theorem UQ(c:Nat)(fn:List D->M D)(a b d e f g:D)(σ:db):Fp c 7 fn [a,b,d,e,f,g] σ=Cv σ.length (fn [.ref σ.length,a,b,d,e,f,g] (σ++[.ins c []])):=cE rfl
noncomputable def Mi(p s u v:Int):D:=.obj 11 ["pot", "side", "mine", "grant", "may", "strikes"] [.int p,.int s,Yj u v,.Hb,.lst [Yj u v],.lst []]
theorem vZ(p s m:D)(y:List D)(i:Nh y=true)(σ:db):dq [.ref σ.length,p,s,m,.Hb,.lst y,.lst []] (σ++[.ins 11 []])=.ok .Hb (σ++[.ins 11 [("pot",p),("side",s),("mine",m),("grant",.Hb),("may",.lst y),("strikes",.lst [])]]):=by
 have e:=λ(a:List Nat) (g:a.contains 11=true) (f:qa) (v:D) (fs:List (qa × D)) (h:fs.length<1000)=>xL (ρ:=[some (.ref σ.length),some p,some s,some m,some .Hb,some (.lst y),some (.lst [])]) (σ:=σ) (cs:=a) (f:=f) (d:=v) (c:=11) (fs:=fs) g h;have j:Ej "pot" p []=([("pot",p)]:List (qa × D)):=rfl;have k:Ej "side" s [("pot",p)]=([("pot",p),("side",s)]:List (qa × D)):=rfl;have l:Ej "mine" m [("pot",p),("side",s)]=([("pot",p),("side",s),("mine",m)]:List (qa × D)):=rfl;have n:Ej "grant" .Hb [("pot",p),("side",s),("mine",m)]=([("pot",p),("side",s),("mine",m),("grant",.Hb)]:List (qa × D)):=rfl;have p4:Ej "may" (.lst y) [("pot",p),("side",s),("mine",m),("grant",.Hb)]=([("pot",p),("side",s),("mine",m),("grant",.Hb),("may",.lst y)]:List (qa × D)):=rfl;have o:Ej "strikes" (.lst []) [("pot",p),("side",s),("mine",m),("grant",.Hb),("may",.lst y)]=([("pot",p),("side",s),("mine",m),("grant",.Hb),("may",.lst y),("strikes",.lst [])]:List (qa × D)):=rfl;have b:=λσ=>dP i σ;have fz:=λσ=>dP (xs:=[]) rfl σ;unfold dq QM;simp[e,j,k,l,n,p4,o,b,fz]
theorem nQ{u v:Int}(d:0<=u/\u<=1000000000000)(e:0<=v/\v<=1000000000000)(p s:Int)(σ:db):Fd [.int p,.int s,.int u,.int v] σ=.ok (Mi p s u v) σ:=by
 have b:=λσ=>DR d e σ;have a:cl (Yj u v)=true:=by unfold Yj;simp
 have hm:∀ σ,Xf σ (Fp 11 7 dq [.int p,.int s,Yj u v,.Hb,.lst [Yj u v],.lst []] σ)=.ok (Mi p s u v) σ:=λσ=>by
  rw[UQ,vZ _ _ _ _ (by simp[a]),Nz,QJ (by simp[a])];rfl
 have c:cl (Mi p s u v)=true:=by unfold Mi;simp[cl,a]
 unfold Fd FM;generalize Mi p s u v=A at *;generalize Yj u v=S at *;simp[b,hm,c]
theorem z3(p s u v:Int)(σ:db):Tc [10,11,12,13] "pot" (Mi p s u v) σ=.ok (.int p) σ:=Rn (nF rfl) rfl rfl
theorem pW(p:Pt)(σ:db):Oe p.D (.int 0) σ=.ok (.int p.l) σ:=by unfold Pt.D;simp
theorem xZ(p:Pt)(σ:db):Oe p.D (.int 1) σ=.ok (.int p.r) σ:=by unfold Pt.D;simp
theorem V0(p:Pt)(σ:db):Oe p.D (.int 2) σ=.ok (.int p.u) σ:=by unfold Pt.D;simp
theorem kY(p:Pt)(σ:db):Oe p.D (.int 3) σ=.ok (.int p.v) σ:=by unfold Pt.D;simp
theorem bE(p:Pt)(σ:db):Oe p.D (.int 4) σ=.ok (.int p.t) σ:=aP ..
structure Tw(p q:Pt):Prop where
 op:p.Ok
 oq:q.Ok
 tp:13<=p.t
 tq:13<=q.t
noncomputable def PL(p q:Pt):D:=.lst [p.D,q.D]
@[simp] theorem A5(p:Pt):cl p.D=true:=by unfold Pt.D;simp
theorem kN(p q:Pt):cl (PL p q)=true:=by unfold PL;simp
theorem HM{e:Int}{p:Pt}(j:13<=p.t)(g:e<=12)(h:Int)(PL:Option D)(σ:db):rG [some (.int h),some (.int e),PL,some p.D] σ=.ok (.nx [some (.int h),some (.int e),PL,some p.D]) σ:=by
 have s:iA p.D none (some 2) σ=.ok (.tup ([p.l,p.r].map D.int)) σ:=by unfold Pt.D;rw[xY];rfl
 have i:=CO (σ:=σ) (neg:=false) (w:=h) (x:=.tup ([p.l,p.r].map D.int)) (ws:=[p.l,p.r]) rfl;have c:=bE p σ;have b:decide (p.t<e+1)=false:=by simp;omega
 unfold rG;generalize [p.l,p.r].map D.int=d at *;generalize p.D=f at *;generalize [p.l,p.r].any (·== h)=a at *;cases a
 ·simp[s,i]
 ·simp[s,i,c,b]
theorem pX{p q:Pt}(t:Tw p q){e:Int}(j:1<=e)(a:e<=12)(h:Int)(σ:db):Se [.int h,.int e,PL p q] σ=.ok .Hb σ:=by
 have b:=λσ=>Zt (d:=.int e) rfl 1 50 σ;have c:bd (.int e) 1 50=true:=by simp[bd];omega
 rw[c]at b;have f:=HM t.tp a h (some (PL p q)) σ;have g:=HM t.tq a h (some (PL p q)) σ;have i:ou (PL p q) σ=.ok (.seq [p.D,q.D]) σ:=Nw _;unfold Se qI;rw[Jk,yes,Ip];show Xf σ (Ai (wc _ _ [some (.int h),some (.int e),some (PL p q),none] σ))=_;generalize PL p q=L at *;rw[Ff];simp only[NA,YV,sG,ay,So,ui,yg,qc,ap,Zq,Ck,Oo,mM,b,lG,uW,sj,jf,yA,UH,Cf];rw[Ov,Sw];simp only[ui,yg,qc,i,jf,Hw];rw[cu];simp only[Na,Oa];rw[f,qc,vm,cu];simp only[Na,Oa];rw[g,qc,vm,vy,Xz];exact fG rfl
theorem aL{p:Pt}(h:p.Ok)(σ:db):qd [p.D] σ=.ok (.bl true) σ:=by
 have t:=JX (a:=.int p.l) (b:=.int p.r) (c:=.int p.u) (d:=.int p.v) (e:=.int p.t) rfl rfl rfl rfl rfl σ;have e:vB (.int p.l) (.int p.r) (.int p.u) (.int p.v) (.int p.t)=true:=by
  have:=h.l;have:=h.r;have:=h.lr;have:=h.u;have:=h.v;have:=h.t;simp[vB,bd,Zw];refine⟨⟨?_,?_⟩,⟨?_,?_⟩,?_,⟨?_,?_⟩,⟨?_,?_⟩,?_,?_⟩<;>first|omega|assumption
 rw[e]at t;exact t
theorem CV{p q:Pt}(t:Tw p q)(σ:db):be [PL p q] σ=.ok (PL p q) σ:=by
 have a:∀ σ,Dh σ (PL p q)=some [p.D,q.D]:=λσ=>rfl;have k:=λσ=>aL t.op σ;have l:=λσ=>aL t.oq σ;have c:∀ {r:Pt},(∀ σ,qd [r.D] σ=.ok (.bl true) σ)->∀ (i:Nat),i<=2->LB [some (PL p q),some (.int i),some r.D] σ=.ok (.nx [some (PL p q),some (.int i),some r.D]) σ:=fun {r} hm i m=>by
  have b:decide ((i:Int) > 2)=false:=by simp;omega
  unfold LB;generalize r.D=R at *;simp[hm,b]
 have j:Xj (wt (PL p q)) (zo 2 (Bi (Ed 1) (Bi (Ed 2) bp))) LB 1001 0 [some (PL p q),none,none] σ=.ok (.nx [some (PL p q),some (.int 1),some q.D]) σ:=by
  rw[Du (mD (a σ) (i:=0) rfl) (ρ1:=[some (PL p q),some (.int (0:Nat)),some p.D]) (nr rfl),c k 0 (by omega),qc,vm,Du (mD (a σ) (i:=1) rfl) (ρ1:=[some (PL p q),some (.int (1:Nat)),some q.D]) (nr rfl),c l 1 (by omega),qc,vm];exact Qw (vI (a σ))
 have e:∀ σ,xw (PL p q) σ=.ok (wt (PL p q)) σ:=λσ=>gJ (a σ);have f:∀ (d:D->Ev->Option Ev) (body:Ev->M Fl) (ρ:Ev) (nx:NX),zB d body ρ nx=Xj nx d body 1001 0 ρ:=λ_ _ _ _=>rfl;have g:Xf σ (Vr [PL p q] σ)=.ok (PL p q) σ:=xE (x:=PL p q) rfl (by simp);have h:=kN p q;unfold be BN;generalize PL p q=L at *;simp[e,f,j,g,h,-NA]
noncomputable def Ut(p:Pt):D:=.obj 6 ["whole"] [.int p.w]
noncomputable def CL(p q:Pt):D:=.lst [Ut p,Ut q]
noncomputable def rm(d:Int)(p q:Pt):List (qa × D):=[("pots",PL p q),("day",.int d),("claims",CL p q),("shown",.ref 2)]
structure Bk(σ:db)(d:Int)(p q:Pt)(s0 s1:List (Key × D)):Prop where
 b:σ[1]?=some (.ins 9 (rm d p q))
 l:σ[2]?=some (.lst [.ref 3,.ref 4])
 d0:σ[3]?=some (.va s0)
 d1:σ[4]?=some (.va s1)
theorem Bk.app{σ:db}{d:Int}{p q:Pt}{s0 s1:List (Key × D)}(h:Bk σ d p q s0 s1)(j:db):Bk (σ++j) d p q s0 s1:=by
 have a:∀ {n:Nat} {o:Ob},σ[n]?=some o->(σ++j)[n]?=some o:=fun {n o} e=>by rw[Ua (ka.mp e).1];exact e
 exact⟨a h.b,a h.l,a h.d0,a h.d1⟩
section
variable{σ:db}{d:Int}{p q:Pt}{s0 s1:List (Key × D)}(B:Bk σ d p q s0 s1)
include B
theorem ry:Fm σ (.ref 1)=some (9,rm d p q):=by unfold Fm;dsimp only;rw[B.b]
theorem sL:Tc [9,14,16] "pots" (.ref 1) σ=.ok (PL p q) σ:=Rn (ry B) rfl rfl
theorem jI:Tc [7,9] "day" (.ref 1) σ=.ok (.int d) σ:=Rn (ry B) rfl rfl
theorem IX:Tc [9,15] "claims" (.ref 1) σ=.ok (CL p q) σ:=Rn (ry B) rfl rfl
theorem rF:Tc [9] "shown" (.ref 1) σ=.ok (.ref 2) σ:=Rn (ry B) rfl rfl
theorem vr{m:qa}(k:Nat)(fn:List D->M D)(fs:M (List D))(hm:(rm d p q).lookup m=none):An [(9,fn)] k m fs (.ref 1) σ=(fs σ).bind (Ak k fn (.ref 1)):=MC (ry B) rfl hm
theorem WE:eb [.ref 1] σ=.ok (.int d) σ:=by
 have h:=jI B;unfold eb JN;simp[h]
theorem lI:Jb [.ref 1] σ=.ok (PL p q) σ:=by
 have h:=sL B;have a:Xf σ (Vr [PL p q] σ)=.ok (PL p q) σ:=xE (x:=PL p q) rfl (by simp);have b:=kN p q;unfold Jb HL;generalize PL p q=L at *;simp[h,a,b]
theorem BE{i:Int}(a:i=0\/i=1):wb [.ref 1,.int i] σ=.ok .Hb σ:=by
 have h:=sL B;have l:∀ σ,Ao [PL p q] σ=.ok (.int 2) σ:=λσ=>nr rfl;have b:=λσ=>Zt (d:=.int i) rfl 0 1 σ;have e:bd (.int i) 0 1=true:=by simp[bd];omega
 rw[e]at b;unfold wb mO;generalize PL p q=L at *;simp[h,l,b]
theorem KS{i:Int}(b:i=0\/i=1):me [.ref 1,.int i] σ=.ok (.tup [.str "held"]) σ:=by
 have c:=BE B b;have m:=λfs=>vr B (m:="check_pot") 2 wb fs rfl;have h:=IX B;obtain⟨r,d⟩:∃ r:Pt,Oe (CL p q) (.int i) σ=.ok (Ut r) σ:=by
  rcases b with rfl|rfl
  ·exact⟨p,X0 ..⟩
  ·exact⟨q,mW ..⟩
 have a:Fm σ (Ut r)=some (6,([("whole",.int r.w)]:List (qa × D))):=nF rfl;have e:∀ fs,An [(6,Gd)] 1 "told" fs (Ut r) σ=(fs σ).bind (Ak 1 Gd (Ut r)):=λfs=>MC a rfl rfl;have t:Gd [Ut r] σ=.ok (.tup [.str "held"]) σ:=by unfold Gd AK;simp
 unfold me vK;generalize CL p q=L at *;generalize Ut r=H at *;simp[c,m,h,d,e,t]
theorem bM{i:Int}(a:i=0\/i=1):Oe (.ref 2) (.int i) σ=.ok (.ref (if i=0 then 3 else 4)) σ:=by
 have s:cm σ (.ref 2)=some [.ref 3,.ref 4]:=by show Hi σ 2=_;unfold Hi;rw[B.l]
 unfold Oe;simp only[s];rcases a with rfl|rfl<;>rfl
theorem kQ{i:Int}(d:i=0\/i=1)(a:Nh (s0.map (·.2))=true)(b:Nh (s1.map (·.2))=true):∃ x,cl x=true/\gc [.ref 1,.int i] σ=.ok x σ:=by
 have c:=BE B d;have m:=λfs=>vr B (m:="check_pot") 2 wb fs rfl;have h:=rF B;have f:=bM B d;obtain⟨x,e,o⟩:∃ x,cl x=true/\Nu [.ref (if i=0 then 3 else 4)] σ=.ok x σ:=by
  rcases d with rfl|rfl
  ·refine⟨.va (s0.map (·.1)) (s0.map (·.2)),by simpa [cl]using a,?_⟩;unfold Nu qh;simp only[ee,B.d0]
  ·refine⟨.va (s1.map (·.1)) (s1.map (·.2)),by simpa [cl]using b,?_⟩;unfold Nu qh;simp only[show ((1:Int)=0)=False by simp,Ph,B.d1]
 refine⟨x,e,?_⟩;unfold gc SI;generalize (if i=0 then 3 else 4)=k at *;simp[c,m,h,f,o,e]
end
noncomputable abbrev Kv:=List (Key × D)
@[simp] theorem MU(cs:List Nat)(f:qa)(b a:Ev->M D)(ρ:Ev)(σ:db):dE cs f b a ρ σ=am ρ (Cz ρ cs f b) (a ρ σ):=Kn ..
inductive Sh:Kv->Kv->Option Int->Prop
 |none:Sh [] [] none
 |left (y:Int):Sh [(.inl 9,.int y)] [] (some y)
 |right (y:Int):Sh [] [(.inl 9,.int y)] (some y)
noncomputable def wl(w:Option Int):List Int:=if w.isSome then [9]else []
theorem Sh.cl{s0 s1:Kv}{w:Option Int}(h:Sh s0 s1 w):Nh (s0.map (·.2))=true/\Nh (s1.map (·.2))=true:=by
 cases h<;>exact⟨by simp,by simp⟩
theorem OJ{tg:D->Ev->Option Ev}{body:Ev->M Fl}{n k i:Nat}{ρ ρ1:Ev}{σ:db}{xs:List D}{d:D}(h:Hi σ n=some xs)(a:xs[i]?=some d)(b:tg d ρ=some ρ1):Br tg body n (k+1) i ρ σ=(body ρ1 σ).bind (bu (Br tg body n k (i+1))):=by
 rw[Br];simp only[h,a,b];rfl
theorem m1{tg:D->Ev->Option Ev}{body:Ev->M Fl}{n k i:Nat}{ρ:Ev}{σ:db}{xs:List D}(h:Hi σ n=some xs)(a:xs[i]?=none):Br tg body n (k+1) i ρ σ=.ok (.nx ρ) σ:=by
 rw[Br];simp only[h,a]
@[simp] theorem xy(ρ:Ev)(σ:db):Xo ρ σ=.ok (.ref σ.length) (σ++[.va []]):=nr rfl
@[simp] theorem A6(o:D->List D->M D)(f:Ev->M D)(fs:Ev->M (List D))(ρ:Ev)(σ:db):Px o f fs ρ σ=(f ρ σ).bind (yz o (fs ρ)):=nr rfl
theorem mJ(σ:db)(kvs:Kv):qh (σ++[.va kvs]) (.ref σ.length)=some kvs:=by unfold qh;simp
theorem oO{σ:db}{kvs more:Kv}{j:Nat}(c:σ[j]?=some (.va more))(e:kvs.length+more.length<=1000):mu (.ref σ.length) [.ref j] (σ++[.va kvs])=.ok .Hb (σ++[.va (Bm kvs more)]):=by
 have b:=(ka.mp c).1;have e1:(σ++[Ob.va kvs])[σ.length]?=some (.va kvs):=by simp
 have d:qh (σ++[.va kvs]) (.ref j)=some more:=by unfold qh;dsimp only;rw[Ua b,c]
 unfold mu;simp only[e1,d];have a:(apart σ.length (.ref j) && decide (kvs.length+more.length<=Ch))=true:=by
  unfold apart;simp only[Ma,nc];exact⟨by simp;omega,e⟩
 rw[da a,LG]
theorem XF{l ks:List Int}(h:l.Perm ks)(s:ks.Pairwise (·<=·)):Wm l=ks:=Hz ((ax l).trans h) (wB l) s
theorem fK{σ:db}{x:D}{kvs:Kv}{vs:List Int}(b:Dh σ x=none)(hd:qh σ x=some kvs)(a:Iv kvs=some vs)(hn:vs.length<64)(hs:Wm vs=vs):Xf σ (Av [x] σ)=.ok (.lst (vs.map D.int)) σ:=by
 have o:Av [x] σ=.ok (.ref σ.length) (σ++[.lst (vs.map D.int)]):=by
  unfold Av;simp only[b];unfold PB;simp only[hd,a];rw[da hn,hs];rfl
 rw[o];exact Yt (by simp)
section
variable{σ:db}{d:Int}{p q:Pt}{s0 s1:Kv}
theorem SQ{w:Option Int}(S:Sh s0 s1 w)(B:Bk σ d p q s0 s1):ic [.ref 1] σ=.ok (.lst ((wl w).map D.int)) σ:=by
 have b:=λj=>B.app j;have hs:∀ j,Tc [9] "shown" (.ref 1) (σ++j)=.ok (.ref 2) (σ++j):=λj=>rF (b j);have a:∀ j,Hi (σ++j) 2=some [.ref 3,.ref 4]:=λj=>by unfold Hi;rw[(b j).l]
 have s:∀ j,ou (.ref 2) (σ++j)=.ok (.cr 2) (σ++j):=λj=>by unfold ou;dsimp only;rw[a]
 have A:s0.length<=1/\s1.length<=1:=by cases S<;>exact⟨by simp,by simp⟩
 have u:=oO (kvs:=[]) B.d0 (by simp;omega);have C:(Bm [] s0).length<=1:=by cases S<;>exact ec rfl
 have v:=oO (kvs:=Bm [] s0) B.d1 (by omega);have c:∀ kvs fs,yz mu fs (.ref σ.length) (σ++[.va kvs])=(fs (σ++[.va kvs])).bind (mu (.ref σ.length)):=λkvs fs=>by unfold yz;rw[mJ];rfl
 have o:Iv (Bm (Bm [] s0) s1)=some (wl w):=by cases S<;>rfl
 have t:=fK (σ:=σ++[.va (Bm (Bm [] s0) s1)]) (x:=.ref σ.length) (by unfold Dh Hi;simp) (mJ ..) o (by cases S<;>exact ec rfl) (by cases S<;>exact XF (Jr _) (by simp[wl]));have k:∀ (e:D->Ev->Option Ev) (body:Ev->M Fl) (f:Ev) (n:Nat) (σ:db),xD e body f (.cr n) σ=Br e body n 1001 0 f σ:=λ_ _ _ _ _=>rfl;have r:Br (Ed 2) (pp (Px mu (ya 1) (ib (ya 2) Ab))) 2 1001 0 [some (.ref 1),some (.ref σ.length),none] (σ++[.va []])=.ok (.nx [some (.ref 1),some (.ref σ.length),some (.ref 4)]) (σ++[.va (Bm (Bm [] s0) s1)]):=by
  rw[OJ (a _) (i:=0) rfl (ρ1:=[some (.ref 1),some (.ref σ.length),some (.ref 3)]) (nr rfl)];have g:pp (Px mu (ya 1) (ib (ya 2) Ab)) [some (.ref 1),some (.ref σ.length),some (.ref 3)] (σ++[.va []])=.ok (.nx [some (.ref 1),some (.ref σ.length),some (.ref 3)]) (σ++[.va (Bm [] s0)]):=by simp[c,u]
  have h:pp (Px mu (ya 1) (ib (ya 2) Ab)) [some (.ref 1),some (.ref σ.length),some (.ref 4)] (σ++[.va (Bm [] s0)])=.ok (.nx [some (.ref 1),some (.ref σ.length),some (.ref 4)]) (σ++[.va (Bm (Bm [] s0) s1)]):=by simp[c,v]
  rw[g,qc,vm,OJ (a _) (i:=1) rfl (ρ1:=[some (.ref 1),some (.ref σ.length),some (.ref 4)]) (nr rfl),h,qc,vm];exact m1 (a _) rfl
 have m:cl (.lst ((wl w).map D.int))=true:=by simp
 have fz:∀ x,Xf σ (.ok (.lst ((wl w).map D.int)) (σ++[x]))=.ok (.lst ((wl w).map D.int)) σ:=λx=>QL m (by simp);unfold ic nN;generalize (wl w).map D.int=z at *;generalize Bm (Bm [] s0) s1=y at *;simp only[Jk,yes,Ip,Ff,yo,xy,qc,jf,jo,Cf,za,Vd,Ha,di,lg,Hg,Na,Oa,Nat.reduceAdd,Nat.reduceSub,List.replicate,Ov,Sw,vt,yg,hs,s,k,r,Vu,zy,jD,So,ui,ap,Ck,Oo,t,Xv,cw,fz]
theorem av{ρ:Ev}{σ:db}{d:D}{n:Nat}{w:Int}{kvs:List (Key × D)}(h:σ[n]?=some (.va kvs))(a:kvs.length<1000):Wp ρ d (.ref n) (.int w) σ=.ok (.nx ρ) (σ.set n (.va (Rg kvs (.inl w) d))):=by
 unfold Wp;simp only[qm,h];rw[da (show kvs.length<Ch from a)]
@[simp] theorem yE(f a fi:Ev->M D)(ρ:Ev)(σ:db):Gp f a fi ρ σ=am ρ (zG ρ a fi) (f ρ σ):=Kn ..
@[simp] theorem MJ(a fi:Ev->M D)(d:D)(ρ:Ev)(σ:db):zG ρ a fi d σ=am ρ (dF ρ fi d) (a ρ σ):=Kn ..
@[simp] theorem XO(fi:Ev->M D)(d x:D)(ρ:Ev)(σ:db):dF ρ fi d x σ=am ρ (Wp ρ d x) (fi ρ σ):=Kn ..
theorem uR(B:Bk σ d p q [] []){i:Int}(a:i=0\/i=1):pe [.ref 1,.int i,.int 9] σ=.ok .Hb (σ.set (if i=0 then 3 else 4) (.va [(.inl 9,.int d)])):=by
 have c:=BE B a;have m:=λfs=>vr B (m:="check_pot") 2 wb fs rfl;have h:=rF B;have hd:=jI B;have l:=bM B a;have f:σ[(if i=0 then 3 else 4)]?=some (.va []):=by
  rcases a with rfl|rfl
  ·exact B.d0
  ·exact B.d1
 have w:∀ σ,Dg [.int 9] σ=.ok (.bl true) σ:=λσ=>by
  have b:=λσ=>Zt (d:=.int 9) rfl 0 59 σ;have e:bd (.int 9) 0 59=true:=by simp[bd]
  rw[e]at b;unfold Dg uM;simp[b]
 have n:jt (.int 9) (.ref (if i=0 then 3 else 4)) σ=.ok (.bl true) σ:=by
  unfold jt qh;simp only[qm,f];rfl
 have g:=λρ=>av (ρ:=ρ) (d:=.int d) (w:=9) f (by simp);have j:Rg [] (.inl 9) (.int d)=[(.inl 9,.int d)]:=rfl;rw[j]at g;unfold pe xP;generalize (if i=0 then 3 else 4)=k at *;simp[c,m,h,hd,l,w,n,g]
theorem lW(B:Bk σ d p q s0 s1):Zb [.ref 1] σ=.ok .Hb (σ.set 1 (.ins 9 (rm (d+1) p q))):=by
 have h:∀ a:Ev,Cz a [7,9] "day" (eC (.int 1)) (.ref 1) σ=.ok (.nx a) (σ.set 1 (.ins 9 (rm (d+1) p q))):=λa=>by
  have l:(rm d p q).lookup ("day" : qa)=some (.int d):=rfl;have c:Ej "day" (.int (d+1)) (rm d p q)=rm (d+1) p q:=rfl;unfold Cz;rw[ry B];dsimp only;rw[da (show [7,9].contains 9=true from rfl),l];dsimp only;rw[Kn,Zq,jf];unfold oG;dsimp only;rw[B.b];dsimp only;rw[da (show ((9:Nat) == 9 && decide ((rm d p q).length<1000))=true from rfl),c]
 unfold Zb yK;generalize σ.set 1 (.ins 9 (rm (d+1) p q))=e at *;simp[MU,h]
end
theorem cx(τ l:db)(k:Nat)(o:Ob):(τ++l).set (τ.length+k) o=τ++l.set k o:=by rw[uq _ _ (by omega)];simp
theorem du(τ l:db)(k:Nat):(τ++l)[τ.length+k]?=l[k]?:=by rw[Cd (by omega)];simp
theorem pz{ρ:Ev}{τ r:db}{cs:List Nat}{f:qa}{d:D}{c:Nat}{fs:List (qa × D)}(h:cs.contains c=true)(a:fs.length<1000):ft ρ cs f d (.ref τ.length) (τ++.ins c fs::r)=.ok (.nx ρ) (τ++.ins c (Ej f d fs)::r):=by
 have e:Sx cs f d (.ref τ.length) (τ++.ins c fs::r)=.ok () (τ++.ins c (Ej f d fs)::r):=by
  have:(τ++Ob.ins c fs::r)[τ.length]?=some (.ins c fs):=by simp
  unfold Sx;simp only[this];rw[da (by rw[h];simpa using a)];simp
 unfold ft;rw[e]
theorem eX{τ r:db}{c:Nat}{fs:List (qa × D)}:Fm (τ++.ins c fs::r) (.ref τ.length)=some (c,fs):=by
 unfold Fm;simp
noncomputable def lz(n:Nat)(h e l:Int):List (qa × D):=[("hand",.int h),("every",.int e),("last_look",.int l),("gave",.int 0),("known",.ref (n+1)),("accounts",.ref (n+2)),("claims",.ref (n+3)),("seen",.ref (n+4)),("asked",.ref (n+5)),("finishing",.ref (n+6))]
noncomputable def kS(τ:db)(h e l:Int)(K:Kv)(a:Ob)(C S:Kv)(r:db):db:=τ++.ins 15 (lz τ.length h e l)::.va K::a::.va C::.va S::.va []::.va []::r
section
variable(τ:db)(h e l:Int)(K:Kv)(a:Ob)(C S:Kv)(r:db)
theorem Ew:Fm (kS τ h e l K a C S r) (.ref τ.length)=some (15,lz τ.length h e l):=eX
theorem sK:Tc [14,15] "known" (.ref τ.length) (kS τ h e l K a C S r)=.ok (.ref (τ.length+1)) (kS τ h e l K a C S r):=Rn (Ew ..) rfl rfl
theorem LC:Tc [15] "accounts" (.ref τ.length) (kS τ h e l K a C S r)=.ok (.ref (τ.length+2)) (kS τ h e l K a C S r):=Rn (Ew ..) rfl rfl
theorem VB:Tc [9,15] "claims" (.ref τ.length) (kS τ h e l K a C S r)=.ok (.ref (τ.length+3)) (kS τ h e l K a C S r):=Rn (Ew ..) rfl rfl
theorem kM:Tc [15] "seen" (.ref τ.length) (kS τ h e l K a C S r)=.ok (.ref (τ.length+4)) (kS τ h e l K a C S r):=Rn (Ew ..) rfl rfl
theorem ES:Tc [15] "finishing" (.ref τ.length) (kS τ h e l K a C S r)=.ok (.ref (τ.length+6)) (kS τ h e l K a C S r):=Rn (Ew ..) rfl rfl
theorem MS:Tc [14,15] "last_look" (.ref τ.length) (kS τ h e l K a C S r)=.ok (.int l) (kS τ h e l K a C S r):=Rn (Ew ..) rfl rfl
theorem Rw{m:qa}(k:Nat)(fn:List D->M D)(fs:M (List D))(hm:(lz τ.length h e l).lookup m=none):An [(15,fn)] k m fs (.ref τ.length) (kS τ h e l K a C S r)=(fs (kS τ h e l K a C S r)).bind (Ak k fn (.ref τ.length)):=MC (Ew ..) rfl hm
variable{K C S}
theorem QX(ρ:Ev)(w:Int)(d:D)(b:K.length<1000):Wp ρ d (.ref (τ.length+1)) (.int w) (kS τ h e l K a C S r)=.ok (.nx ρ) (kS τ h e l (Rg K (.inl w) d) a C S r):=by
 rw[av (kvs:=K) (by unfold kS;rw[du];rfl) b];unfold kS;rw[cx];rfl
theorem IN(ρ:Ev)(w:Int)(d:D)(b:C.length<1000):Wp ρ d (.ref (τ.length+3)) (.int w) (kS τ h e l K a C S r)=.ok (.nx ρ) (kS τ h e l K a (Rg C (.inl w) d) S r):=by
 rw[av (kvs:=C) (by unfold kS;rw[du];rfl) b];unfold kS;rw[cx];rfl
theorem nO(ρ:Ev)(w:Int)(d:D)(b:S.length<1000):Wp ρ d (.ref (τ.length+4)) (.int w) (kS τ h e l K a C S r)=.ok (.nx ρ) (kS τ h e l K a C (Rg S (.inl w) d) r):=by
 rw[av (kvs:=S) (by unfold kS;rw[du];rfl) b];unfold kS;rw[cx];rfl
theorem ER{A:Kv}(ρ:Ev)(w:Int)(d:D)(a:A.length<1000):Wp ρ d (.ref (τ.length+2)) (.int w) (kS τ h e l K (.va A) C S r)=.ok (.nx ρ) (kS τ h e l K (.va (Rg A (.inl w) d)) C S r):=by
 rw[av (kvs:=A) (by unfold kS;rw[du];rfl) a];unfold kS;rw[cx];rfl
theorem QB:(kS τ h e l K a C S r)[τ.length+2]?=some a:=by unfold kS;rw[du];rfl
theorem aH(b:Ob):(kS τ h e l K a C S r).set (τ.length+2) b=kS τ h e l K b C S r:=by unfold kS;rw[cx];rfl
end
theorem nC(l:Kv)(k:Key)(d:D):(Rg l k d).length<=l.length+1:=by
 unfold Rg;split<;>simp
theorem zP(k:Key):ni [] k=none:=rfl
theorem Vq(a:Key × D)(r:List (Key × D))(j:Key):ni (a::r) j=if a.1=j then some a.2 else ni r j:=by
 unfold ni;rw[jd];by_cases h:a.1=j
 ·rw[Fg h,da h];rfl
 ·rw[Pc h,ga h]
theorem DA(k:Key):∀ r:List (Key × D),(r.any λa=>decide (a.1=k))=(ni r k).isSome
 |[]=>rfl
 |a::r=>by
  rw[yd,Vq,DA k r];by_cases h:a.1=k
  ·rw[Fg h,da h];rfl
  ·rw[Pc h,ga h,qg]
theorem iO(k j:Key)(d:D):∀ r:List (Key × D),ni r k=none->ni (r++[(k,d)]) j=if j=k then some d else ni r j
 |[],_=>by
  rw[Hg,Vq,zP];by_cases h:j=k
  ·rw[da h,da h.symm]
  ·rw[ga h,ga λz=>h z.symm]
 |c::r,h=>by
  rw[Vq]at h;by_cases b:c.1=k
  ·rw[da b]at h;cases h
  ·rw[ga b]at h;rw[lg,Vq,Vq,iO k j d r h];by_cases a:c.1=j
   ·rw[da a,da a,ga λz=>b (a.trans z)]
   ·rw[ga a,ga a]
theorem sI(k j:Key)(d:D):∀ l:Kv,ni (l.map λc=>if c.1=k then (c.1,d)else c) j=if j=k then (ni l k).map (λ_=>d)else ni l j
 |[]=>by simp[zP]
 |c::r=>by
  rw[za,Vq,sI k j d r,Vq,Vq];by_cases b:c.1=k
  ·rw[da b,da b];dsimp only;by_cases a:j=k
   ·rw[da (b.trans a.symm),da a];rfl
   ·rw[ga (λz=>a (z.symm.trans b)),ga a,ga a,ga (λz=>a (z.symm.trans b))]
  ·rw[ga b,ga b];by_cases a:j=k
   ·rw[da a,da a,ga (λz=>b (z.trans a))]
   ·rw[ga a,ga a]
theorem fy(l:Kv)(k j:Key)(d:D):ni (Rg l k d) j=if j=k then some d else ni l j:=by
 unfold Rg;rw[DA];cases e:ni l k with
 |none=>
  simp only[Option.isSome_none,wf,Ph];exact iO k j d l e
 |some x=>
  simp only[bj,ee];rw[sI,e];rfl
theorem xJ{l:Kv}{k:Key}(d:D)(h:(ni l k).isSome=true):(Rg l k d).length=l.length:=by
 unfold Rg;rw[DA,h,da rfl];simp
theorem zU{l:Kv}{k:Key}{d:D}{q:Key × D}(h:q∈Rg l k d):q=(k,d)\/q∈l:=by
 unfold Rg at h;split at h
 ·obtain⟨p,b,e⟩:=Dc.mp h;by_cases a:p.1=k
  ·rw[da a]at e;exact .inl (by rw[<-e,a])
  ·rw[ga a]at e;exact .inr (by rw[<-e];exact b)
 ·rcases Pd.mp h with z|z
  ·exact .inr z
  ·exact .inl (by simpa using z)
noncomputable def Ux(c:D):Prop:=c=.gt ["held"]\/c=.tup [.str "held"]
structure Kr(k:Nat)(A C S:Kv):Prop where
 la:A.length<=k
 lc:C.length<=k
 ls:S.length<=k
 acc:∀ q∈A,∃ i s u v:Int,q=(.inl i,Mi i s u v)/\(i=0\/i=1)/\(∃ c,ni C (.inl i)=some c/\Ux c)/\(ni S (.inl i)).isSome=true
theorem Kr.nil:Kr 0 [] [] []:=⟨by simp,by simp,by simp,λq a=>by cases a⟩
theorem Kr.mono{j k:Nat}{A C S:Kv}(r:Kr j A C S)(h:j<=k):Kr k A C S:=⟨Qa r.la h,Qa r.lc h,Qa r.ls h,r.acc⟩
theorem Kr.hold{k:Nat}{A C S:Kv}(r:Kr k A C S){i:Int}(h:i=0\/i=1)(s u v:Int)(d:D):Kr (k+1) (Rg A (.inl i) (Mi i s u v)) (Rg C (.inl i) (.gt ["held"])) (Rg S (.inl i) d) where
 la:=Qa (nC ..) (Vi r.la 1)
 lc:=Qa (nC ..) (Vi r.lc 1)
 ls:=Qa (nC ..) (Vi r.ls 1)
 acc:=λq a=>by
  rcases zU a with rfl|a
  ·exact⟨i,s,u,v,rfl,h,⟨_,by rw[fy,da rfl],.inl rfl⟩,by rw[fy,da rfl];rfl⟩
  ·obtain⟨j,m,n,o,e,l,⟨c,b,f⟩,g⟩:=r.acc q a;refine⟨j,m,n,o,e,l,?_,?_⟩
   ·rw[fy];split
    ·exact⟨_,rfl,.inl rfl⟩
    ·exact⟨c,b,f⟩
   ·rw[fy];split
    ·rfl
    ·exact g
theorem Kr.look{k:Nat}{A C S:Kv}(r:Kr k A C S){i:Int}{c d:D}(n:Ux c){s u v:Int}(a:((.inl i:Key),Mi i s u v)∈A):Kr k A (Rg C (.inl i) c) (Rg S (.inl i) d) where
 la:=r.la
 lc:=by
  obtain⟨j,g,h,l,e,_,⟨x,b,_⟩,_⟩:=r.acc _ a;have:j=i:=by injection e with e1 _;injection e1 with e1;exact e1.symm
  subst this;rw[xJ _ (by rw[b];rfl)];exact r.lc
 ls:=by
  obtain⟨j,g,h,l,e,_,_,f⟩:=r.acc _ a;have:j=i:=by injection e with e1 _;injection e1 with e1;exact e1.symm
  subst this;rw[xJ _ f];exact r.ls
 acc:=λq a=>by
  obtain⟨j,g,h,l,e,o,⟨x,b,m⟩,f⟩:=r.acc q a;refine⟨j,g,h,l,e,o,?_,?_⟩
  ·rw[fy];split
   ·exact⟨_,rfl,n⟩
   ·exact⟨x,b,m⟩
  ·rw[fy];split
   ·rfl
   ·exact f
@[simp] theorem l5{σ:db}(fn:List D->M D)(x a b c:D):Ak 4 fn x [a,b,c] σ=fn [x,a,b,c] σ:=Qz rfl
theorem my{cs:List Nat}{f:qa}{c:Nat}{fs:List (qa × D)}(b:cs.contains c=true)(d:Nat.ble (fs.length+1) 1000=true)(σ ds:db)(r:Ev):zi cs f Xo (ya 0) (some (.ref σ.length)::r) (σ++.ins c fs::ds)=.ok (.nx (some (.ref σ.length)::r)) (σ++.ins c (Ej f (.ref (σ.length+1+ds.length)) fs)::(ds++[.va []])):=by
 have e1:(σ++.ins c fs::ds)++[Ob.va []]=σ++.ins c fs::(ds++[.va []]):=by simp
 have a:(σ++Ob.ins c fs::ds).length=σ.length+1+ds.length:=by simp;omega
 rw[Tv,xy,jf,Jv,yg,jf,e1,a,pz b (ec d)]
theorem NB{cs:List Nat}{f:qa}{c:Nat}{fs:List (qa × D)}{a:Ev->M D}{d:D}(b:cs.contains c=true)(e:Nat.ble (fs.length+1) 1000=true)(σ ds:db)(r:Ev)(g:a (some (.ref σ.length)::r) (σ++.ins c fs::ds)=.ok d (σ++.ins c fs::ds)):zi cs f a (ya 0) (some (.ref σ.length)::r) (σ++.ins c fs::ds)=.ok (.nx (some (.ref σ.length)::r)) (σ++.ins c (Ej f d fs)::ds):=by
 rw[Tv,g,jf,Jv,yg,jf,pz b (ec e)]
noncomputable def Pz(K:Kv)(ws:List Int):Kv:=ws.foldl (λK w=>Rg K (.inl w) (.bl true)) K
theorem UK(τ:db)(h e l:Int)(a:Ob)(C S:Kv)(r:db)(W:Option D):∀ (ws:List Int) (K:Kv) (b:Option D),K.length+ws.length<1000->∃ c,Uk (Ed 2) DD (ws.map D.int) [some (.ref τ.length),W,b] (kS τ h e l K a C S r)=.ok (.nx [some (.ref τ.length),W,c]) (kS τ h e l (Pz K ws) a C S r)
 |[],K,b,_=>⟨b,by simp[Pz]⟩
 |w::ws,K,b,d=>by
  rw[Ha]at d;have i:DD [some (.ref τ.length),W,some (.int w)] (kS τ h e l K a C S r)=.ok (.nx [some (.ref τ.length),W,some (.int w)]) (kS τ h e l (Rg K (.inl w) (.bl true)) a C S r):=by
   have f:=sK τ h e l K a C S r;have g:=λj=>QX (C:=C) (S:=S) τ h e l a r j w (.bl true) (K:=K) (by omega);unfold DD;simp[f,g]
  have pl:=nC K (.inl w) (.bl true);obtain⟨c,q⟩:=UK τ h e l a C S r W ws (Rg K (.inl w) (.bl true)) (some (.int w)) (by omega);refine⟨c,?_⟩;rw[za,cu];simp only[Na,Oa];rw[i,qc,vm,q];rfl
theorem MK(τ:db)(h e l:Int)(K:Kv)(a:Ob)(C S:Kv)(r:db)(ws:List Int)(b:K.length+ws.length<1000):Qb [.ref τ.length,.lst (ws.map D.int)] (kS τ h e l K a C S r)=.ok .Hb (kS τ h e l (Pz K ws) a C S r):=by
 obtain⟨g,q⟩:=UK τ h e l a C S r (some (.lst (ws.map D.int))) ws K none b;unfold Qb hJ;generalize ws.map D.int=f at *;generalize kS τ h e l K a C S r=c at *;generalize kS τ h e l (Pz K ws) a C S r=d at *;simp[q,-yE]
theorem OX(τ:db)(h e l:Int)(K A C S:Kv)(r:db)(p s u v:Int)(x:D)(c:A.length<1000)(f:C.length<1000)(hS:S.length<1000) :
  sd [.ref τ.length,Mi p s u v,x,.va [] []] (kS τ h e l K (.va A) C S r)=.ok .Hb (kS τ h e l K (.va (Rg A (.inl p) (Mi p s u v))) (Rg C (.inl p) x) (Rg S (.inl p) (.va [] [])) r):=by
 have b:=λn=>z3 p s u v n;have g:=LC τ h e l K (.va A) C S r;have i:=λa d=>ER (K:=K) (C:=C) (S:=S) τ h e l r (A:=A) a p d c;have k3:=λA=>VB τ h e l K (.va A) C S r;have j:=λa A d=>IN (K:=K) (S:=S) (C:=C) τ h e l (.va A) r a p d f;have k:=λA C=>kM τ h e l K (.va A) C S r;have m:=λa A C d=>nO (K:=K) (C:=C) (S:=S) τ h e l (.va A) r a p d hS;unfold sd iL;generalize Mi p s u v=o at *;simp[b,g,i,k3,j,k,m]
theorem KL(τ:db)(h e l:Int)(K:Kv){A C S:Kv}(r:db){k:Nat}(s3:Kr k A C S)(E:k<900)(f g:Option D){i:Int}(o:i=0\/i=1){p:Pt}(ok:p.Ok)(s z:Int)(hz:∀ σ,Oe p.D (.int s) σ=.ok (.int z) σ) :
  ∃ c d S',Kr (k+1) c d S'/\vF [some (.ref τ.length),some (.int h),some (.int e),f,g,some (.int i),some p.D,some (.int s)] (kS τ h e l K (.va A) C S r)=.ok (.nx [some (.ref τ.length),some (.int h),some (.int e),f,g,some (.int i),some p.D,some (.int s)]) (kS τ h e l K (.va c) d S' r):=by
 have t:=λσ=>V0 p σ;have w:=λσ=>kY p σ;have n:=λσ=>nQ ok.u ok.v i s σ;have la:=s3.la;have lc:=s3.lc;have ls:=s3.ls;have q:=OX τ h e l K A C S r i s p.u p.v (.gt ["held"]) (by omega) (by omega) (by omega);have x:=λfs=>Rw τ h e l K (.va A) C S r (m:="hold") 4 sd fs rfl;unfold vF;cases b:(z == h)
 ·refine⟨A,C,S,s3.mono (by omega),?_⟩;generalize p.D=j at *;generalize kS τ h e l K (.va A) C S r=a at *;simp[hz,b]
 ·refine⟨_,_,_,s3.hold o s p.u p.v (.va [] []),?_⟩;generalize kS τ h e l K (.va (Rg A (.inl i) (Mi i s p.u p.v))) (Rg C (.inl i) (.gt ["held"])) (Rg S (.inl i) (.va [] [])) r=y at *;generalize Mi i s p.u p.v=B at *;generalize p.D=j at *;generalize kS τ h e l K (.va A) C S r=a at *;simp[hz,b,x,n,t,w,q]
theorem nI(τ:db)(h e l:Int)(K:Kv){A C S:Kv}(r:db){k:Nat}(s3:Kr k A C S)(x:k<800)(a b t:Option D){i:Int}(g:i=0\/i=1){p:Pt}(ok:p.Ok) :
  ∃ d f S',Kr (k+2) d f S'/\JC [some (.ref τ.length),some (.int h),some (.int e),a,b,some (.int i),some p.D,t] (kS τ h e l K (.va A) C S r)=.ok (.nx [some (.ref τ.length),some (.int h),some (.int e),a,b,some (.int i),some p.D,some (.int 1)]) (kS τ h e l K (.va d) f S' r):=by
 obtain⟨u,v,w,q,e1⟩:=KL τ h e l K r s3 (by omega) a b g ok 0 p.l (λc=>pW p c);obtain⟨j,m,n,s,o⟩:=KL τ h e l K r q (by omega) a b g ok 1 p.r (λc=>xZ p c);refine⟨j,m,n,s,?_⟩;unfold JC;rw[Ov];simp only[Sw,B2,So,Zq,qc,ap,Ck,Oo,fX,W2,jf,Hw];rw[cu];simp only[Na,Oa];rw[e1,qc,vm,cu];simp only[Na,Oa];rw[o,qc,vm,vy]
theorem wJ(c:Nat)(fn:List D->M D)(a b d e:D)(σ:db):Fp c 5 fn [a,b,d,e] σ=Cv σ.length (fn [.ref σ.length,a,b,d,e] (σ++[.ins c []])):=cE rfl
theorem qV{p q:Pt}(t:Tw p q){e:Int}(u:1<=e)(g:e<=12)(h:Int)(σ:db):∃ A C S,Kr 4 A C S/\Fp 15 5 jq [.int h,.int e,PL p q,.lst []] σ=.ok (.ref σ.length) (kS σ h e 0 [] (.va A) C S []):=by
 have s:=λσ=>pX t u g h σ;obtain⟨B,E,F,y,e1⟩:=nI σ h e 0 [] [] Kr.nil (by omega) (some (PL p q)) (some (.lst [])) none (i:=0) (.inl rfl) t.op;obtain⟨b,c,f,z,n⟩:=nI σ h e 0 [] [] y (by omega) (some (PL p q)) (some (.lst [])) (some (.int 1)) (i:=1) (.inr rfl) t.oq;refine⟨b,c,f,z,?_⟩;have a:∀ σ,Dh σ (PL p q)=some [p.D,q.D]:=λσ=>rfl;have w:Xj (wt (PL p q)) (zo 2 (Bi (Ed 5) (Bi (Ed 6) bp))) JC 1001 0 [some (.ref σ.length),some (.int h),some (.int e),some (PL p q),some (.lst []),none,none,none] (kS σ h e 0 [] (.va []) [] [] [])=.ok (.nx [some (.ref σ.length),some (.int h),some (.int e),some (PL p q),some (.lst []),some (.int 1),some q.D,some (.int 1)]) (kS σ h e 0 [] (.va b) c f []):=by
  rw[Du (mD (a _) (i:=0) rfl) (ρ1:=[some (.ref σ.length),some (.int h),some (.int e),some (PL p q),some (.lst []),some (.int 0),some p.D,none]) (nr rfl),e1,qc,vm,Du (mD (a _) (i:=1) rfl) (ρ1:=[some (.ref σ.length),some (.int h),some (.int e),some (PL p q),some (.lst []),some (.int 1),some q.D,some (.int 1)]) (nr rfl),n,qc,vm];exact Qw (vI (a _))
 have v:=MK σ h e 0 [] (.va []) [] [] [] [] (by simp);have x:=λfs=>Rw σ h e 0 [] (.va []) [] [] [] (m:="learn") 2 Qb fs rfl;have o:∀ σ,xw (PL p q) σ=.ok (wt (PL p q)) σ:=λσ=>gJ (a σ);have r:∀ (l:D->Ev->Option Ev) (body:Ev->M Fl) (ρ:Ev) (nx:NX),zB l body ρ nx=Xj nx l body 1001 0 ρ:=λ_ _ _ _=>rfl;rw[wJ];have j:jq [.ref σ.length,.int h,.int e,PL p q,.lst []] (σ++[.ins 15 []])=.ok .Hb (kS σ h e 0 [] (.va b) c f []):=by
  unfold jq fN;rw[Jk,Ip];show Ai (wc _ _ [some (.ref σ.length),some (.int h),some (.int e),some (PL p q),some (.lst []),none,none,none] (σ++[.ins 15 []]))=_;generalize PL p q=L at *;rw[Ff];simp only[JB,ay,So,ui,yg,qc,ap,Ck,Oo,mM,s,jf,ZC,Cf];rw[Ff,NB (d:=.int h) rfl rfl σ [] _ (by simp),qc,Cf];rw[Ff,NB (d:=.int e) rfl rfl σ [] _ (by simp),qc,Cf];rw[Ff,NB (d:=.int 0) rfl rfl σ [] _ (by simp),qc,Cf];rw[Ff,NB (d:=.int 0) rfl rfl σ [] _ (by simp),qc,Cf];rw[Ff,my rfl rfl σ [],qc,Cf];rw[Ff,my rfl rfl σ _,qc,Cf];rw[Ff,my rfl rfl σ _,qc,Cf];rw[Ff,my rfl rfl σ _,qc,Cf];rw[Ff,my rfl rfl σ _,qc,Cf];rw[Ff,my rfl rfl σ _,qc,Cf];show Ai (wc _ _ [some (.ref σ.length),some (.int h),some (.int e),some L,some (.lst []),none,none,none] (kS σ h e 0 [] (.va []) [] [] []))=_;rw[Ff];have k:Qb [.ref σ.length,.lst []] (kS σ h e 0 [] (.va []) [] [] [])=.ok .Hb (kS σ h e 0 [] (.va []) [] [] []):=v;simp only[JB,Xt,ui,yg,qc,x,So,R0,sG,ku,Zq,ww,FV,lG,yA,ap,Ck,Oo,GB,k,jf,ZC,Cf];rw[uA];simp only[gY,ui,yg,qc,o,jf,r];rw[w,Xz]
 rw[j,Nz]
noncomputable def kn(b:Bool):Kv:=if b then [(.inl 9,.bl true)]else []
theorem cU(b:Bool)(w:Option Int):Pz (kn b) (wl w)=kn (b || w.isSome):=by
 cases b<;>cases w<;>rfl
theorem mK{c:D}(h:Ux c)(σ:db):Oe c (.int 0) σ=.ok (.str "held") σ:=by
 rcases h with rfl|rfl
 ·exact nr rfl
 ·simp
theorem K2{c:D}(h:Ux c)(x:D)(σ:db):Od [x,c] σ=.ok (.bl false) σ:=by
 have i:=mK h σ;have b:((("held" : qa) == ("laid" : qa)))=false:=by decide
 unfold Od yJ;simp[i,b]
theorem gZ(p s u v:Int)(σ:db):Tc [10,11,12,13] "may" (Mi p s u v) σ=.ok (.lst [Yj u v]) σ:=Rn (nF rfl) rfl rfl
theorem A3{c:D}(h:Ux c)(p s u v:Int)(σ:db):ze [Mi p s u v,c] σ=.ok (.lst [Yj u v]) σ:=by
 have i:=mK h σ;have m:=gZ p s u v σ;have a:cl (.lst [Yj u v])=true:=by unfold Yj;simp
 have b:((("held" : qa) == ("held" : qa)))=true:=by decide
 unfold ze bK;generalize D.lst [Yj u v]=L at *;generalize Mi p s u v=A at *;simp[i,m,a,b]
theorem RW{c:D}(h:Ux c)(p s u v:Int)(σ:db):Rf [Mi p s u v,c] σ=.ok (.lst []) σ:=by
 have g:=λσ=>A3 h p s u v σ;have ix:∀ σ,Oe (Yj u v) (.int 2) σ=.ok (.tup []) σ:=λσ=>by unfold Yj;simp
 have lc:∀ (a:Ev->M Bool) (b:Ev) (σ:db),Gi (Xb Oe (ya 3) (eC (.int 2))) b σ=.ok (.seq []) σ->Zi (mo (toN (Gi (Xb Oe (ya 3) (eC (.int 2))))) [0] (Ed 0) a (ya 0)) b σ=.ok (.lst []) σ:=λa b σ hs=>
  tO (s:=.seq []) (ds:=[]) (ix:=[0]) (λd=>d) (λ_=>true) hs (λ_ _=>rfl) (by simp) (λd hd=>nomatch hd) (λd hd=>nomatch hd)
 have hs:∀ σ,Gi (Xb Oe (ya 3) (eC (.int 2))) [some (Mi p s u v),some c,some (.ref σ.length),some (Yj u v)] (σ++[.lst []])=.ok (.seq []) (σ++[.lst []]):=λσ=>by
  generalize Mi p s u v=A at *;generalize Yj u v=S at *;simp[ix]
 have f:=λa=>lc a [some (Mi p s u v),some c,some (.ref σ.length),some (Yj u v)] (σ++[.lst []]) (hs σ);have ex:Kz (.ref σ.length) [.lst []] (σ++[.lst []])=.ok .Hb (σ++[.lst []]):=by
  have e:Dh (σ++[Ob.lst []]) (.lst [])=some []:=rfl;unfold Kz;simp only[YB,e];rw[da (by simp)];simp
 have fz:Xf σ (.ok (.ref σ.length) (σ++[.lst []]))=.ok (.lst []) σ:=Yt rfl;unfold Rf YO;generalize Mi p s u v=A at *;generalize Yj u v=S at *;simp[g,f,ex,fz,-zy]
section
variable(τ:db)(h e l:Int)(K A C S:Kv)(r:db)
theorem IG(a:Ob)(j:db):kS τ h e l K a C S r++j=kS τ h e l K a C S (r++j):=by unfold kS;simp
theorem bG(ρ:Ev):qz (Xd (Tc [15] "accounts") (ya 0)) (some (.ref τ.length)::ρ) (kS τ h e l K (.va A) C S r)=.ok (Fn A) (kS τ h e l K (.lb A) C S r):=by
 have a:=LC τ h e l K (.va A) C S r;show Fc (Xd (Tc [15] "accounts") (ya 0) _) zC _=_;rw[wm,vt,yg,qc,a,qc];unfold zC;simp only[QB];rw[aH]
theorem fZ(ρ:Ev):vv (Xd (Tc [15] "accounts") (ya 0)) (some (.ref τ.length)::ρ) (kS τ h e l K (.va A) C S r)=.ok (Aq A) (kS τ h e l K (.lb A) C S r):=by
 have a:=LC τ h e l K (.va A) C S r;show Fc (Xd (Tc [15] "accounts") (ya 0) _) Cy _=_;rw[wm,vt,yg,qc,a,qc];unfold Cy;simp only[QB];rw[aH]
theorem EC{ρ:Ev}{b:Ev}{src:Ev->M NX}{tg:D->Ev->Option Ev}{body:Ev->M Fl}{nx:NX}{c S':Kv}(hs:src (some (.ref τ.length)::ρ) (kS τ h e l K (.va A) C S r)=.ok nx (kS τ h e l K (.lb A) C S r))
  (d:Xj nx tg body 1001 0 (some (.ref τ.length)::ρ) (kS τ h e l K (.lb A) C S r)=.ok (.nx b) (kS τ h e l K (.lb A) c S' r)) :
  ms (Xd (Tc [15] "accounts") (ya 0)) (io src tg body) (some (.ref τ.length)::ρ) (kS τ h e l K (.va A) C S r)=.ok (.nx b) (kS τ h e l K (.va A) c S' r):=by
 have a:=LC τ h e l K (.va A) C S r;show Qv su (Xd (Tc [15] "accounts") (ya 0) _) (io src tg body _) _=_;unfold Qv;rw[vt,yg,qc,a];dsimp only;rw[QB];dsimp only;rw[uA,hs,jf];show Ou su _ (Xj nx tg body 1001 0 _ _)=_;rw[d];unfold Ou;simp only[su,ee,QB];rw[aH]
end
theorem QZ{A:Kv}{i:Nat}{q:Key × D}(h:A[i]?=some q)(σ:db):Fn A i σ=some (some (.tup [Yp q.1,q.2])):=by unfold Fn;rw[h]
theorem cS(A:Kv)(σ:db):Fn A A.length σ=some none:=by unfold Fn;simp
theorem UI{A:Kv}{i:Nat}{q:Key × D}(h:A[i]?=some q)(σ:db):Aq A i σ=some (some (Yp q.1)):=by unfold Aq;rw[h]
theorem jL(A:Kv)(σ:db):Aq A A.length σ=some none:=by unfold Aq;simp
theorem JE{A:Kv}{tg:D->Ev->Option Ev}{body:Ev->M Fl}{σ:db}{P:Ev->Prop}(s:A.length<=10)(r:∀ q∈A,∀ ρ,P ρ->∃ ρ1 a,tg (.tup [Yp q.1,q.2]) ρ=some ρ1/\body ρ1 σ=.ok (.nx a) σ/\P a):∀ (j i f:Nat) (ρ:Ev),i+j=A.length->f=1001 - i->P ρ->∃ a,P a/\Xj (Fn A) tg body f i ρ σ=.ok (.nx a) σ:=by
 intro j;induction j with
 |zero=>
  intro i f ρ c o d;obtain⟨b,rfl⟩:∃ b,f=b+1:=⟨f - 1,by omega⟩
  obtain rfl:i=A.length:=by omega
  exact⟨ρ,d,Qw (cS A σ)⟩
 |succ j p=>
  intro i f ρ c o d;obtain⟨b,rfl⟩:∃ b,f=b+1:=⟨f - 1,by omega⟩
  have g:i<A.length:=by omega
  obtain⟨ρ1,a,h,k,l⟩:=r A[i] (re g) ρ d;obtain⟨e,m,n⟩:=p (i+1) b a (by omega) (by omega) l;refine⟨e,m,?_⟩;rw[Du (QZ (jb g) σ) h,k,qc,vm,n]
section
variable{τ:db}{h e l:Int}{K A C S:Kv}{r:db}{d:Int}{p q:Pt}{s0 s1:Kv}(B:Bk τ d p q s0 s1)(R:Kr 4 A C S)
include B R
theorem VH{i:Int}{c:D}(b:ni C (.inl i)=some c)(a:Ob)(r:db):Nj (.ref (τ.length+3)) (.int i) (kS τ h e l K a C S r)=.ok c (kS τ h e l K a C S r):=by
 have g:(kS τ h e l K a C S r)[τ.length+3]?=some (.va C):=by unfold kS;rw[du];rfl
 unfold Nj qh;simp only[qm,g,b]
theorem iS:Mb [.ref τ.length,.ref 1] (kS τ h e l K (.va A) C S r)=.ok (.lst []) (kS τ h e l K (.va A) C S r):=by
 have w:∀ a r,Bk (kS τ h e l K a C S r) d p q s0 s1:=λa r=>B.app _;have ma:=λa r=>lI (w a r);have mm:=λa r fs=>vr (w a r) (m:="made_of") 1 Jb fs rfl;generalize Q:kS τ h e l K (.va A) C S r=X;have b:X++[.lst []]=kS τ h e l K (.va A) C S (r++[.lst []]):=by rw[<-Q,IG]
 have g:∀ k,Zi (mo (toN (Gi (Df [(9,Jb)] 1 "made_of" (ya 1) Ab))) [] (Ed 0) wo (Xb Oe (ya 0) (eC (.int 4)))) [some (.ref τ.length),some (.ref 1),k,none,none,none,none] (X++[.lst []])=.ok (.lst [.int p.t,.int q.t]) (X++[.lst []]):=λk=>by
  have y:=ma (.va A) (r++[.lst []]);have E:=mm (.va A) (r++[.lst []]);rw[<-b]at y E;have:=zH (s:=.seq [p.D,q.D]) (ix:=[]) (ρ:=[some (.ref τ.length),some (.ref 1),k,none,none,none,none]) (σ:=X++[.lst []]) (src:=Gi (Df [(9,Jb)] 1 "made_of" (ya 1) Ab)) (fe:=Xb Oe (ya 0) (eC (.int 4))) (ds:=[p.D,q.D])
   (λd=>match d with | .tup [_,_,_,_,x]=>x|_=>.Hb) (by
    have sq:∀ σ,ou (PL p q) σ=.ok (.seq [p.D,q.D]) σ:=λσ=>Nw _;generalize X++[.lst []]=Y at *;generalize PL p q=L at *;simp[y,E,sq]) (λ_ _=>rfl) (by simp) (λd hd j=>by
    have V:=λσ=>bE p σ;have W:=λσ=>bE q σ;rcases Ca.mp hd with rfl|hd
    ·show _=Out.ok (D.int p.t) _;generalize p.D=G at *;simp[V]
    ·have:d=q.D:=by simpa using hd
     subst this;show _=Out.ok (D.int q.t) _;generalize q.D=G at *;simp[W]) (λd hd=>by
    rcases Ca.mp hd with rfl|hd
    ·show cl (D.int p.t)=true;simp
    ·have:d=q.D:=by simpa using hd
     subst this;show cl (D.int q.t)=true;simp)
  exact this
 obtain⟨a0,O,Z⟩:=JE (A:=A) (tg:=zo 2 (Bi (Ed 4) (Bi (Ed 5) bp))) (body:=(wc (aj 6 (Xb Nj (Xd (Tc [9,15] "claims") (ya 0)) (ya 4))) (Ih (Wu (eT (bh 2 Od [] (ib (ya 5) (ib (ya 6) Ab)))) rA) Sr ti))) (σ:=kS τ h e l K (.lb A) C S (r++[.lst []]))
  (P:=λρ=>∃ n o f,ρ=[some (.ref τ.length),some (.ref 1),some (.ref X.length),some (.lst [.int p.t,.int q.t]),n,o,f]) (Qa R.la (by omega)) (λz U ρ T=>by
   obtain⟨n,o,f,rfl⟩:=T;obtain⟨i,s,u,v,rfl,hi,⟨c,M,N⟩,h3⟩:=R.acc z U;have H:=VB τ h e l K (.lb A) C S (r++[.lst []]);have I:=VH (h:=h) (e:=e) (l:=l) (K:=K) B R M (.lb A) (r++[.lst []]);have J:=λx σ=>K2 N x σ;refine⟨[some (.ref τ.length),some (.ref 1),some (.ref X.length),some (.lst [.int p.t,.int q.t]),some (.int i),some (Mi i s u v),f],[some (.ref τ.length),some (.ref 1),some (.ref X.length),some (.lst [.int p.t,.int q.t]),some (.int i),some (Mi i s u v),some c],rfl,?_,_,_,_,rfl⟩;generalize kS τ h e l K (.lb A) C S (r++[.lst []])=Y at *;generalize Mi i s u v=AC at *;simp[H,I,J]) A.length 0 1001 [some (.ref τ.length),some (.ref 1),some (.ref X.length),some (.lst [.int p.t,.int q.t]),none,none,none] (by omega) (by omega) ⟨none,none,none,rfl⟩
 obtain⟨n,o,f,rfl⟩:=O;have F:=EC τ h e l K A C S (r++[.lst []]) (bG τ h e l K A C S (r++[.lst []]) _) Z;rw[<-b]at F;have fz:Xf X (.ok (.ref X.length) (X++[.lst []]))=.ok (.lst []) X:=Yt rfl;have g:=g (some (.ref X.length));unfold Mb OL;rw[Jk,yes,Ip];show Xf X (Ai (wc _ _ [some (.ref τ.length),some (.ref 1),none,none,none,none,none] X))=_;rw[Ff,yo,HE,Ck,qc,eE,jf,jo,qc,Cf];show Xf X (Ai (wc _ _ [some (.ref τ.length),some (.ref 1),some (.ref X.length),none,none,none,none] (X++[.lst []])))=_;rw[Ff,yo,g,jf,jo,qc,Cf];show Xf X (Ai (wc _ _ [some (.ref τ.length),some (.ref 1),some (.ref X.length),some (.lst [.int p.t,.int q.t]),none,none,none] (X++[.lst []])))=_;rw[Ff,F,qc,Cf];simp only[Vu,ui,yg,jf,Xv,cw,fz]
end
section
variable{τ:db}{h e l:Int}{K A C S:Kv}{r:db}{d:Int}{p q:Pt}{s0 s1:Kv}(B:Bk τ d p q s0 s1)(R:Kr 4 A C S)
include B R
theorem sY:Sb [.ref τ.length,.ref 1] (kS τ h e l K (.va A) C S r)=.ok (.lst []) (kS τ h e l K (.va A) C S r):=by
 generalize q:kS τ h e l K (.va A) C S r=X;have b:X++[.lst []]=kS τ h e l K (.va A) C S (r++[.lst []]):=by rw[<-q,IG]
 obtain⟨D,p,x⟩:=JE (A:=A) (tg:=zo 2 (Bi (Ed 3) (Bi (Ed 4) bp))) (body:=(Cp (Gi (bh 2 Rf [] (ib (ya 4) (ib (Xb Nj (Xd (Tc [9,15] "claims") (ya 0)) (ya 3)) Ab)))) (Ed 5) Sr)) (σ:=kS τ h e l K (.lb A) C S (r++[.lst []]))
  (P:=λj=>∃ d f a,j=[some (.ref τ.length),some (.ref 1),some (.ref X.length),d,f,a]) (Qa R.la (by omega)) (λz w j t=>by
   obtain⟨d,f,a,rfl⟩:=t;obtain⟨i,s,u,v,rfl,G,⟨c,n,o⟩,F⟩:=R.acc z w;have k:=VB τ h e l K (.lb A) C S (r++[.lst []]);have m:=VH (h:=h) (e:=e) (l:=l) (K:=K) B R n (.lb A) (r++[.lst []]);have y:=λσ=>RW o i s u v σ;refine⟨[some (.ref τ.length),some (.ref 1),some (.ref X.length),some (.int i),some (Mi i s u v),a],[some (.ref τ.length),some (.ref 1),some (.ref X.length),some (.int i),some (Mi i s u v),a],rfl,?_,_,_,_,rfl⟩;generalize kS τ h e l K (.lb A) C S (r++[.lst []])=Y at *;generalize Mi i s u v=E at *;simp[k,m,y]) A.length 0 1001 [some (.ref τ.length),some (.ref 1),some (.ref X.length),none,none,none] (by omega) (by omega) ⟨none,none,none,rfl⟩
 obtain⟨d,f,a,rfl⟩:=p;have g:=EC τ h e l K A C S (r++[.lst []]) (bG τ h e l K A C S (r++[.lst []]) _) x;rw[<-b]at g;have fz:Xf X (.ok (.ref X.length) (X++[.lst []]))=.ok (.lst []) X:=Yt rfl;unfold Sb oJ;rw[Jk,yes,Ip];show Xf X (Ai (wc _ _ [some (.ref τ.length),some (.ref 1),none,none,none,none] X))=_;rw[Ff,yo,HE,Ck,qc,eE,jf,jo,qc,Cf];show Xf X (Ai (wc _ _ [some (.ref τ.length),some (.ref 1),some (.ref X.length),none,none,none] (X++[.lst []])))=_;rw[Ff,g,qc,Cf];simp only[Vu,ui,yg,jf,Xv,cw,fz]
theorem hY:jc [.ref τ.length,.ref 1] (kS τ h e l K (.va A) C S r)=.ok (.lst []) (kS τ h e l K (.va A) C S r):=by
 generalize n:kS τ h e l K (.va A) C S r=X;have a:X++[.lst []]=kS τ h e l K (.va A) C S (r++[.lst []]):=by rw[<-n,IG]
 obtain⟨t,m,q⟩:=JE (A:=A) (tg:=zo 2 (Bi (Ed 3) (Bi (Ed 4) bp))) (body:=(Ih (Wu (eT (Xb uy (ya 3) (Xd (Tc [15] "finishing") (ya 0)))) rA) Sr ti)) (σ:=kS τ h e l K (.lb A) C S (r++[.lst []]))
  (P:=λf=>∃ b c,f=[some (.ref τ.length),some (.ref 1),some (.ref X.length),b,c]) (Qa R.la (by omega)) (λz p f o=>by
   obtain⟨b,c,rfl⟩:=o;obtain⟨i,s,u,v,rfl,y,_,x⟩:=R.acc z p;have j:=ES τ h e l K (.lb A) C S (r++[.lst []]);have k:uy (.int i) (.ref (τ.length+6)) (kS τ h e l K (.lb A) C S (r++[.lst []]))=.ok (.bl false) (kS τ h e l K (.lb A) C S (r++[.lst []])):=by
    have g:(kS τ h e l K (.lb A) C S (r++[.lst []]))[τ.length+6]?=some (.va []):=by unfold kS;rw[du];rfl
    unfold uy qh;simp only[qm,g];rfl
   refine⟨[some (.ref τ.length),some (.ref 1),some (.ref X.length),some (.int i),some (Mi i s u v)],[some (.ref τ.length),some (.ref 1),some (.ref X.length),some (.int i),some (Mi i s u v)],rfl,?_,_,_,rfl⟩;generalize kS τ h e l K (.lb A) C S (r++[.lst []])=Y at *;generalize Mi i s u v=w at *;simp[j,k]) A.length 0 1001 [some (.ref τ.length),some (.ref 1),some (.ref X.length),none,none] (by omega) (by omega) ⟨none,none,rfl⟩
 obtain⟨b,c,rfl⟩:=m;have d:=EC τ h e l K A C S (r++[.lst []]) (bG τ h e l K A C S (r++[.lst []]) _) q;rw[<-a]at d;have fz:Xf X (.ok (.ref X.length) (X++[.lst []]))=.ok (.lst []) X:=Yt rfl;unfold jc gI;rw[Jk,yes,Ip];show Xf X (Ai (wc _ _ [some (.ref τ.length),some (.ref 1),none,none,none] X))=_;rw[Ff,yo,HE,Ck,qc,eE,jf,jo,qc,Cf];show Xf X (Ai (wc _ _ [some (.ref τ.length),some (.ref 1),some (.ref X.length),none,none] (X++[.lst []])))=_;rw[Ff,d,qc,Cf];simp only[Vu,ui,yg,jf,Xv,cw,fz]
end
section
variable{τ:db}{h e l:Int}{K A:Kv}{r:db}{d:Int}{p q:Pt}{s0 s1:Kv}(B:Bk τ d p q s0 s1)(c0:Nh (s0.map (·.2))=true)(c1:Nh (s1.map (·.2))=true)
include B c0 c1
theorem B1{C S:Kv}(R:Kr 4 A C S){z:Key × D}(hz:z∈A):∃ i:Int,z.1=.inl i/\∃ g S',Kr 4 A g S'/\gC [some (.ref τ.length),some (.ref 1),some (.int i)] (kS τ h e l K (.lb A) C S r)=.ok (.nx [some (.ref τ.length),some (.ref 1),some (.int i)]) (kS τ h e l K (.lb A) g S' r):=by
 have b:∀ C S,Bk (kS τ h e l K (.lb A) C S r) d p q s0 s1:=λC S=>B.app _;obtain⟨i,s,u,v,rfl,j,_,_⟩:=R.acc z hz;refine⟨i,rfl,?_⟩;have t:=KS (b C S) j;have n:=λfs=>vr (b C S) (m:="told") 2 me fs rfl;have k:=VB τ h e l K (.lb A) C S r;have lc:=R.lc;have ls:=R.ls;have c:=λa d=>IN (K:=K) (C:=C) (S:=S) τ h e l (.lb A) r a i d (by omega);obtain⟨x,G,w⟩:=kQ (b (Rg C (.inl i) (.tup [.str "held"])) S) j c0 c1;have o:=λfs=>vr (b (Rg C (.inl i) (.tup [.str "held"])) S) (m:="shown_for") 2 gc fs rfl;have k3:=kM τ h e l K (.lb A) (Rg C (.inl i) (.tup [.str "held"])) S r;have f:=λa d=>nO (K:=K) (C:=Rg C (.inl i) (.tup [.str "held"])) (S:=S) τ h e l (.lb A) r a i d (by omega);refine⟨_,_,R.look (d:=x) (.inr rfl) hz,?_⟩;unfold gC;have c:=λa=>c a (.tup [.str "held"]);have f:=λa=>f a x;generalize kS τ h e l K (.lb A) (Rg C (.inl i) (.tup [.str "held"])) (Rg S (.inl i) x) r=F at *;generalize kS τ h e l K (.lb A) (Rg C (.inl i) (.tup [.str "held"])) S r=E at *;generalize kS τ h e l K (.lb A) C S r=y at *;simp[t,n,k,c,w,o,k3,f]
theorem eZ:∀ (j i f:Nat) (C S:Kv) (b:Option D),i+j=A.length->f=1001 - i->A.length<=10->Kr 4 A C S->∃ g S' d,Kr 4 A g S'/\Xj (Aq A) (Ed 2) gC f i [some (.ref τ.length),some (.ref 1),b] (kS τ h e l K (.lb A) C S r)=.ok (.nx [some (.ref τ.length),some (.ref 1),d]) (kS τ h e l K (.lb A) g S' r):=by
 intro j;induction j with
 |zero=>
  intro i f C S b c v n R;obtain⟨a,rfl⟩:∃ a,f=a+1:=⟨f - 1,by omega⟩
  obtain rfl:i=A.length:=by omega
  exact⟨C,S,b,R,Qw (jL A _)⟩
 |succ j x=>
  intro i f C S b c v n R;obtain⟨a,rfl⟩:∃ a,f=a+1:=⟨f - 1,by omega⟩
  have m:i<A.length:=by omega
  obtain⟨k,w,o,s,q,e1⟩:=B1 (h:=h) (e:=e) (l:=l) (K:=K) (r:=r) B c0 c1 R (re m);obtain⟨p,t,d,R2,u⟩:=x (i+1) a o s (some (.int k)) (by omega) (by omega) n q;refine⟨p,t,d,R2,?_⟩;rw[Du (UI (jb m) _) (ρ1:=[some (.ref τ.length),some (.ref 1),some (.int k)]) (by rw[w];rfl),e1,qc,vm,u]
end
theorem RQ{τ:db}{h e l:Int}{b:Bool}{A C S:Kv}{r:db}{d:Int}{p q:Pt}{s0 s1:Kv}{w:Option Int}(W:Sh s0 s1 w)(B:Bk τ d p q s0 s1)(R:Kr 4 A C S):∃ c S',Kr 4 A c S'/\Yb [.ref τ.length,.ref 1] (kS τ h e l (kn b) (.va A) C S r)=.ok (.lst []) (kS τ h e d (kn (b || w.isSome)) (.va A) c S' r):=by
 obtain⟨u,v⟩:=W.cl;have f:∀ l K a C S,Bk (kS τ h e l K a C S r) d p q s0 s1:=λl K a C S=>B.app _;obtain⟨c,S',T,g,x⟩:=eZ (h:=h) (e:=e) (l:=d) (K:=kn b) (r:=r) B u v A.length 0 1001 C S none (by omega) (by omega) (Qa R.la (by omega)) R;refine⟨c,S',g,?_⟩;have M:=EC τ h e d (kn b) A C S r (fZ τ h e d (kn b) A C S r _) x;have J:=WE (f l (kn b) (.va A) C S);have y:=λfs=>vr (f l (kn b) (.va A) C S) (m:="today") 1 eb fs rfl;have I:∀ i,ft i [14,15] "last_look" (.int d) (.ref τ.length) (kS τ h e l (kn b) (.va A) C S r)=.ok (.nx i) (kS τ h e d (kn b) (.va A) C S r):=λi=>pz rfl (by show (10:Nat)<1000;decide);have L:=SQ W (f d (kn b) (.va A) c S');have z:=λfs=>vr (f d (kn b) (.va A) c S') (m:="all_shown") 1 ic fs rfl;have j:=MK τ h e d (kn b) (.va A) c S' r (wl w) (by cases b<;>cases w<;>exact ec rfl);rw[cU]at j;have E:=λfs=>Rw τ h e d (kn b) (.va A) c S' r (m:="learn") 2 Qb fs rfl;have n:=iS (h:=h) (e:=e) (l:=d) (K:=kn (b || w.isSome)) (r:=r) B g;have o:=sY (h:=h) (e:=e) (l:=d) (K:=kn (b || w.isSome)) (r:=r) B g;have s:=hY (h:=h) (e:=e) (l:=d) (K:=kn (b || w.isSome)) (r:=r) B g;have F:=λfs=>Rw τ h e d (kn (b || w.isSome)) (.va A) c S' r (m:="strike_all") 2 Mb fs rfl;have G:=λfs=>Rw τ h e d (kn (b || w.isSome)) (.va A) c S' r (m:="show_all") 2 Sb fs rfl;have H:=λfs=>Rw τ h e d (kn (b || w.isSome)) (.va A) c S' r (m:="lay_all") 2 jc fs rfl;have t:∀ σ:db,Yq (.lst []) (.lst []) σ=.ok (.lst []) σ:=λσ=>MT (by simp);unfold Yb zK;generalize kS τ h e d (kn (b || w.isSome)) (.va A) c S' r=Q at *;generalize kS τ h e d (kn b) (.va A) c S' r=P at *;generalize kS τ h e d (kn b) (.va A) C S r=O at *;generalize kS τ h e l (kn b) (.va A) C S r=k at *;generalize (wl w).map D.int=N at *;rw[Jk,Ip];show Ai (wc _ _ [some (.ref τ.length),some (.ref 1),none] k)=_;rw[Ff];simp only[Tv,Xt,ui,yg,qc,y,Ck,Yx,J,jf,Jv,I,Cf];rw[Ff,M,qc,Cf,Ff];simp only[JB,Xt,ui,yg,qc,E,So,z,Ck,Yx,L,ap,Oo,GB,j,jf,ZC,Cf];simp only[Vu,ku,Xt,ui,yg,qc,F,G,H,So,ap,Ck,Oo,GB,n,o,s,ww,t,jf,Xv,cw]
theorem EJ{ds:List D}{n k i:Nat}{fe:Ev->M D}{Jh:Ev}{σ a σ2:db}{o:Option D}{d y:D}(hd:ds[i]?=some d)(h:fe (some d::none::Jh) σ=.ok y a)(c:fu (.ref n) [y] a=.ok .Hb σ2) :
  bi (Src.seq ds).nx n (Ed 0) wo fe (k+1) i (o::none::Jh) σ=bi (Src.seq ds).nx n (Ed 0) wo fe k (i+1) (some d::none::Jh) σ2:=by
 rw[bi];have e:(Src.seq ds).nx i σ=some (some d):=by show some ds[i]?=_;rw[hd]
 have t:Ed 0 d (o::none::Jh)=some (some d::none::Jh):=rfl;have b:wo (some d::none::Jh) σ=.ok true σ:=rfl;simp only[e,t];rw[wm,Rz b,qc,da rfl,wm,Rz h,qc,wm,c,qc]
theorem WT{ds:List D}{n k i:Nat}{fe:Ev->M D}{ρ:Ev}{σ:db}(hd:ds[i]?=none):bi (Src.seq ds).nx n (Ed 0) wo fe (k+1) i ρ σ=.ok () σ:=by
 rw[bi];have e:(Src.seq ds).nx i σ=some none:=by show some ds[i]?=_;rw[hd]
 simp only[e]
theorem ZR{p q:Pt}(t:Tw p q):Fp 9 2 Po [PL p q] [.ins 16 []]=.ok (.ref 1) [.ins 16 [],.ins 9 (rm 0 p q),.lst [.ref 3,.ref 4],.va [],.va []]:=by
 have y:=λσ=>CV t σ;have o:∀ σ,ou (PL p q) σ=.ok (.seq [p.D,q.D]) σ:=λσ=>Nw _;have E:=λσ=>xN p σ;have F:=λσ=>xN q σ;have i:=λσ=>IK p.w σ;have k:=λσ=>IK q.w σ;have n:∀ fs:List (qa × D),fs.lookup ("pots" : qa)=some (PL p q)->∀ r,Tc [9,14,16] "pots" (.ref 1) (.ins 16 []::.ins 9 fs::r)=.ok (PL p q) (.ins 16 []::.ins 9 fs::r):=λfs C r=>Rn (c:=9) (fs:=fs) rfl rfl C;have h:Zi (mo (toN (Gi (Xd (Tc [9,14,16] "pots") (ya 0)))) [] (Ed 0) wo (Zi (jr 6 2 Sn (ib (bh 1 Je [] (ib (ya 0) Ab)) Ab)))) [some (.ref 1),some (PL p q)] [.ins 16 [],.ins 9 [("pots",PL p q),("day",.int 0)]]=.ok (CL p q) [.ins 16 [],.ins 9 [("pots",PL p q),("day",.int 0)]]:=by
  have g:=n [("pots",PL p q),("day",.int 0)] rfl [];have:=zH (s:=.seq [p.D,q.D]) (ix:=[]) (ρ:=[some (.ref 1),some (PL p q)]) (σ:=[.ins 16 [],.ins 9 [("pots",PL p q),("day",.int 0)]]) (src:=Gi (Xd (Tc [9,14,16] "pots") (ya 0))) (fe:=Zi (jr 6 2 Sn (ib (bh 1 Je [] (ib (ya 0) Ab)) Ab))) (ds:=[p.D,q.D])
   (λd=>match d with | .tup [_,_,.int u,.int v,_]=>.obj 6 ["whole"] [.int (u+v)]|_=>.Hb) (by
    generalize PL p q=L at *;simp[g,o]) (λ_ _=>rfl) (by simp) (λd hd j=>by
    rcases Ca.mp hd with rfl|hd
    ·show _=Out.ok (D.obj 6 ["whole"] [.int p.w]) _;generalize ([Ob.ins 16 [],Ob.ins 9 [("pots",PL p q),("day",D.int 0)]]++j:db)=σ;generalize p.D=x at *;generalize p.w=W at *;generalize D.obj 6 ["whole"] [.int W]=O at *;simp[E,i,-jC]
    ·have:d=q.D:=by simpa using hd
     subst this;show _=Out.ok (D.obj 6 ["whole"] [.int q.w]) _;generalize ([Ob.ins 16 [],Ob.ins 9 [("pots",PL p q),("day",D.int 0)]]++j:db)=σ;generalize q.D=x at *;generalize q.w=W at *;generalize D.obj 6 ["whole"] [.int W]=O at *;simp[F,k,-jC]) (λd hd=>by
    rcases Ca.mp hd with rfl|hd
    ·show cl (D.obj 6 ["whole"] [.int p.w])=true;simp[cl]
    ·have:d=q.D:=by simpa using hd
     subst this;show cl (D.obj 6 ["whole"] [.int q.w])=true;simp[cl])
  exact this
 have m:mo (toN (Gi (Xd (Tc [9,14,16] "pots") (ya 0)))) [] (Ed 0) wo Xo [some (.ref 1),some (PL p q)] [.ins 16 [],.ins 9 [("pots",PL p q),("day",.int 0),("claims",CL p q)]]=.ok (.ref 2) [.ins 16 [],.ins 9 [("pots",PL p q),("day",.int 0),("claims",CL p q)],.lst [.ref 3,.ref 4],.va [],.va []]:=by
  have g:=n [("pots",PL p q),("day",.int 0),("claims",CL p q)] rfl [];show Fc (Fc (Gi (Xd (Tc [9,14,16] "pots") (ya 0)) _) gE) (IC (Ed 0) wo Xo (Ks [] _)) _=_;rw[wm,wm];have hs:Gi (Xd (Tc [9,14,16] "pots") (ya 0)) [some (.ref 1),some (PL p q)] [.ins 16 [],.ins 9 [("pots",PL p q),("day",.int 0),("claims",CL p q)]]=.ok (.seq [p.D,q.D]) [.ins 16 [],.ins 9 [("pots",PL p q),("day",.int 0),("claims",CL p q)]]:=by
   generalize PL p q=L at *;simp[g,o]
  rw[hs,qc];show Fc (bi (Src.seq [p.D,q.D]).nx 2 (Ed 0) wo Xo 1001 0 [none,none]) (λ_=>ret (D.ref 2)) [.ins 16 [],.ins 9 [("pots",PL p q),("day",.int 0),("claims",CL p q)],.lst []]=_;rw[wm,EJ (d:=p.D) rfl (xy _ _) (σ2:=[.ins 16 [],.ins 9 [("pots",PL p q),("day",.int 0),("claims",CL p q)],.lst [.ref 3],.va []]) rfl,EJ (d:=q.D) rfl (xy _ _) (σ2:=[.ins 16 [],.ins 9 [("pots",PL p q),("day",.int 0),("claims",CL p q)],.lst [.ref 3,.ref 4],.va [],.va []]) rfl,WT rfl,qc];rfl
 have b:∀ (ρ:Ev) (e:List Nat) (f:qa) (d:D) (fs:List (qa × D)) (r:db),e.contains 9=true->fs.length<1000->ft ρ e f d (.ref 1) (.ins 16 []::.ins 9 fs::r)=.ok (.nx ρ) (.ins 16 []::.ins 9 (Ej f d fs)::r):=λρ e f d fs r i k=>pz (τ:=[.ins 16 []]) i k;rw[jC];show Cv 1 (Po [.ref 1,PL p q] [.ins 16 [],.ins 9 []])=_;have l:Po [.ref 1,PL p q] [.ins 16 [],.ins 9 []]=.ok .Hb [.ins 16 [],.ins 9 (rm 0 p q),.lst [.ref 3,.ref 4],.va [],.va []]:=by
  unfold Po WJ rm;generalize PL p q=L at *;generalize CL p q=a at *;rw[Jk,Ip];show Ai (wc _ _ [some (.ref 1),some L] [.ins 16 [],.ins 9 []])=_;have e1:Ej "pots" L []=([("pots",L)]:List (qa × D)):=rfl;have z:Ej "day" (.int 0) [("pots",L)]=([("pots",L),("day",.int 0)]:List (qa × D)):=rfl;have A:Ej "claims" a [("pots",L),("day",.int 0)]=([("pots",L),("day",.int 0),("claims",a)]:List (qa × D)):=rfl;have B:Ej "shown" (.ref 2) [("pots",L),("day",.int 0),("claims",a)]=([("pots",L),("day",.int 0),("claims",a),("shown",.ref 2)]:List (qa × D)):=rfl;rw[Ff];simp only[Tv,ay,So,ui,yg,qc,ap,Ck,Oo,UN,y,jf,Jv];rw[b _ _ _ _ _ _ rfl (by decide),e1,qc,Cf,Ff];simp only[Tv,Zq,yg,jf,Jv];rw[b _ _ _ _ _ _ rfl (by simp),z,qc,Cf,Ff];rw[Tv,h,jf,Jv,yg,jf,b _ _ _ _ _ _ rfl (by simp),A,qc,Cf];rw[Tv,m,jf,Jv,yg,jf,b _ _ _ _ _ _ rfl (by simp),B,Xz]
 rw[l,Nz]
structure Row where
 h:Int
 l:Int
 b:Bool
 A:Kv
 C:Kv
 S:Kv
noncomputable def rS(n:Nat)(e:Int)(r:Row):db:=[.ins 15 (lz n r.h e r.l),.va (kn r.b),.va r.A,.va r.C,.va r.S,.va [],.va []]
noncomputable def dh(e:Int):Nat->List Row->db
 |_,[]=>[]
 |n,r::rs=>rS n e r++dh e (n+7) rs
noncomputable def bc:Nat->List Row->Kv
 |_,[]=>[]
 |n,r::rs=>(.inl r.h,.ref n)::bc (n+7) rs
theorem EB(e:Int):∀ (n:Nat) (rs:List Row),(dh e n rs).length=7 * rs.length
 |_,[]=>rfl
 |n,r::rs=>by rw[dh,Ya,EB e (n+7) rs,Ha];show 7+_=_;omega
theorem fH(e:Int):∀ (n:Nat) (a b:List Row),dh e n (a++b)=dh e n a++dh e (n+7 * a.length) b
 |_,[],_=>rfl
 |n,r::a,b=>by rw[lg,dh,dh,fH e (n+7) a b,Ec,Ha,show n+7+7 * a.length=n+7 * (a.length+1) by omega]
theorem jy:∀ (n:Nat) (rs:List Row),(bc n rs).length=rs.length
 |_,[]=>rfl
 |n,r::rs=>by rw[bc,Ha,jy,Ha]
theorem jG:∀ (n:Nat) (a b:List Row),bc n (a++b)=bc n a++bc (n+7 * a.length) b
 |_,[],_=>rfl
 |n,r::a,b=>by rw[lg,bc,bc,jG (n+7) a b,Ha,show n+7+7 * a.length=n+7 * (a.length+1) by omega];rfl
theorem VJ{h:Int}:∀ (n:Nat) (a:List Row) (r:Row) (b:List Row),(∀ x∈a,x.h≠h)->r.h=h->ni (bc n (a++r::b)) (.inl h)=some (.ref (n+7 * a.length))
 |n,[],r,b,_,e=>by rw[Hg,bc,Vq,da (by rw[e])];rfl
 |n,x::a,r,b,c,e=>by
  rw[lg,bc,Vq,ga λz=>c x (Ba ..) (by injection z),VJ (n+7) a r b (λy d=>c y (wa _ d)) e,Ha,show n+7+7 * a.length=n+7 * (a.length+1) by omega]
theorem NG{h:Int}:∀ (n:Nat) (a:List Row),(∀ x∈a,x.h≠h)->ni (bc n a) (.inl h)=none
 |n,[],_=>rfl
 |n,x::a,b=>by
  rw[bc,Vq,ga λz=>b x (Ba ..) (by injection z),NG (n+7) a λy c=>b y (wa _ c)]
noncomputable def aE(p q:Pt)(e:Int):List (qa × D):=[("public",.ref 1),("pots",PL p q),("every",.int e),("keepers",.ref 5),("under_way",.lst []),("things",.ref 6)]
noncomputable def hH(d e:Int)(p q:Pt)(s0 s1:Kv)(a:Ob)(T:List (List Key)):db:=[.ins 16 (aE p q e),.ins 9 (rm d p q),.lst [.ref 3,.ref 4],.va s0,.va s1,a,.og T]
section
variable(d e:Int)(p q:Pt)(s0 s1:Kv)(ko:Ob)(T:List (List Key))(j:db)
theorem Rx:Fm (hH d e p q s0 s1 ko T++j) (.ref 0)=some (16,aE p q e):=rfl
theorem Ez:Tc [16] "public" (.ref 0) (hH d e p q s0 s1 ko T++j)=.ok (.ref 1) (hH d e p q s0 s1 ko T++j):=Rn (Rx ..) rfl rfl
theorem oX:Tc [9,14,16] "pots" (.ref 0) (hH d e p q s0 s1 ko T++j)=.ok (PL p q) (hH d e p q s0 s1 ko T++j):=Rn (Rx ..) rfl rfl
theorem PR:Tc [14,15,16] "every" (.ref 0) (hH d e p q s0 s1 ko T++j)=.ok (.int e) (hH d e p q s0 s1 ko T++j):=Rn (Rx ..) rfl rfl
theorem UB:Tc [16] "keepers" (.ref 0) (hH d e p q s0 s1 ko T++j)=.ok (.ref 5) (hH d e p q s0 s1 ko T++j):=Rn (Rx ..) rfl rfl
theorem iJ:Tc [16] "things" (.ref 0) (hH d e p q s0 s1 ko T++j)=.ok (.ref 6) (hH d e p q s0 s1 ko T++j):=Rn (Rx ..) rfl rfl
theorem dA:Bk (hH d e p q s0 s1 ko T++j) d p q s0 s1:=⟨rfl,rfl,rfl,rfl⟩
theorem Sv{m:qa}(k:Nat)(fn:List D->M D)(fs:M (List D))(hm:(aE p q e).lookup m=none):An [(16,fn)] k m fs (.ref 0) (hH d e p q s0 s1 ko T++j)=(fs (hH d e p q s0 s1 ko T++j)).bind (Ak k fn (.ref 0)):=MC (Rx ..) rfl hm
end
@[simp] theorem tJ(dds:List D)(fs:Ev->M (List D))(ρ:Ev)(σ:db):mx dds fs ρ σ=(fs ρ σ).bind (CB dds):=nr rfl
@[simp] theorem sO(dds ds:List D)(σ:db):CB dds ds σ=.ok (ds++dds) σ:=nr rfl
noncomputable def Fi:D:=.va [.inl 9] [.int 3]
theorem MN{f:Ev->M D}{ρ:Ev}{σ:db}(h:f ρ σ=.ok Fi σ):qw f ρ σ=.ok (Fn [(.inl 9,.int 3)]) σ:=by
 unfold qw;rw[wm,h];rfl
theorem gU{h:Int}(g:h≠3)(σ:db):Qf [.int h,Fi] σ=.ok (.lst []) σ:=by
 have b:((3:Int) == h)=false:=by simp;omega
 have a:Zi (mo (qw (ya 1)) [0] (zo 2 (Bi (Ed 0) (Bi (Ed 1) bp))) (eT (Xb oEq (ya 1) (ya 2))) (ya 0)) [some (.int h),some Fi] σ=.ok (.lst []) σ:=by
  show Xf σ (Fc (qw (ya 1) [some (.int h),some Fi]) (IC _ _ _ (Ks [0] [some (.int h),some Fi])) σ)=_;rw[wm,MN (by simp),qc];show Xf σ (Fc (bi (Fn [(.inl 9,.int 3)]) σ.length (zo 2 (Bi (Ed 0) (Bi (Ed 1) bp))) (eT (Xb oEq (ya 1) (ya 2))) (ya 0) 1001 0 [none,none,some (.int h)]) (λ_=>ret (D.ref σ.length)) (σ++[.lst []]))=_;rw[wm,bi];have t:zo 2 (Bi (Ed 0) (Bi (Ed 1) bp)) (.tup [.int 9,.int 3]) [none,none,some (.int h)]=some [some (.int 9),some (.int 3),some (.int h)]:=rfl;have e:Fn [((.inl 9:Key),D.int 3)] 0 (σ++[.lst []])=some (some (.tup [.int 9,.int 3])):=rfl;have f:Fn [((.inl 9:Key),D.int 3)] 1 (σ++[.lst []])=some none:=rfl;have c:eT (Xb oEq (ya 1) (ya 2)) [some (.int 9),some (.int 3),some (.int h)] (σ++[.lst []])=.ok false (σ++[.lst []]):=by simp[b]
  simp only[e,t];rw[wm,Rz c,qc,ga (by simp),bi];simp only[f];exact Yt rfl
 have d:cl (.lst [])=true:=rfl;unfold Qf VO;simp only[Jk,yes,Ip];show Xf σ (Ai (cg _ [some (.int h),some Fi] σ))=_;rw[Vu,a,jf,Xv,cw];exact fG d
theorem Pk{l:Kv}{k:Key}(d:D)(h:ni l k=none):Rg l k d=l++[(k,d)]:=by
 unfold Rg;rw[DA,h];rfl
section
variable{p q:Pt}(t:Tw p q){e:Int}(h1:1<=e)(h12:e<=12)
include t h1 h12
theorem W0{h:Int}(k:h≠3)(rs:List Row)(l:∀ x∈rs,x.h≠h)(v:rs.length<100)(c d f g i:Option D):∃ A C S,Kr 4 A C S/\aD [some (.ref 0),c,d,some (.int e),f,some Fi,some (.int h),g,i] (hH 0 e p q [] [] (.va (bc 7 rs)) []++dh e 7 rs)=.ok (.nx [some (.ref 0),c,d,some (.int e),f,some Fi,some (.int h),g,i]) (hH 0 e p q [] [] (.va (bc 7 (rs++[⟨h,0,false,A,C,S⟩]))) []++dh e 7 (rs++[⟨h,0,false,A,C,S⟩])):=by
 obtain⟨A,C,S,R,a⟩:=qV t h1 h12 h (hH 0 e p q [] [] (.va (bc 7 rs)) []++dh e 7 rs);have len:(hH 0 e p q [] [] (.va (bc 7 rs)) []++dh e 7 rs).length=7+7 * rs.length:=by rw[Ya,EB];rfl
 have w:=λo=>gU k o;have pl:=oX 0 e p q [] [] (.va (bc 7 rs)) [] (dh e 7 rs);rw[len]at a;have e1:kS (hH 0 e p q [] [] (.va (bc 7 rs)) []++dh e 7 rs) h e 0 [] (.va A) C S []=hH 0 e p q [] [] (.va (bc 7 rs)) []++dh e 7 (rs++[⟨h,0,false,A,C,S⟩]):=by
  unfold kS;rw[len,fH,Ec];rfl
 rw[e1]at a;refine⟨A,C,S,R,?_⟩;rw[jG];show _=Out.ok _ (hH 0 e p q [] [] (.va (bc 7 rs++[(.inl h,.ref (7+7 * rs.length))])) []++_);generalize dh e 7 (rs++[⟨h,0,false,A,C,S⟩])=j at *;have m:=UB 0 e p q [] [] (.va (bc 7 rs)) [] j;have n:∀ b,Wp b (.ref (7+7 * rs.length)) (.ref 5) (.int h) (hH 0 e p q [] [] (.va (bc 7 rs)) []++j)=.ok (.nx b) (hH 0 e p q [] [] (.va (bc 7 rs++[(.inl h,.ref (7+7 * rs.length))])) []++j):=λb=>by
  rw[av (kvs:=bc 7 rs) rfl (by rw[jy];omega),Pk _ (NG 7 rs l)];rfl
 unfold aD;generalize hH 0 e p q [] [] (.va (bc 7 rs)) []++dh e 7 rs=r at *;generalize hH 0 e p q [] [] (.va (bc 7 rs++[(.inl h,.ref (7+7 * rs.length))])) []++j=u at *;generalize hH 0 e p q [] [] (.va (bc 7 rs)) []++j=s at *;generalize PL p q=L at *;generalize Fi=W at *;simp only[yE,vE,tJ,So,ui,yg,qc,ap,vt,pl,ay,Ck,Oo,oM,w,sO,Qd,a,jf,MJ,m,XO,n]
theorem rM(d f g j k:Option D):∀ (ks:List Int) (rs:List Row) (i:Option D),(∀ h∈ks,h≠3)->ks.Nodup->(∀ x∈rs,x.h ∉ ks)->rs.length+ks.length<100->∃ a u,a.map Row.h=ks/\(∀ r∈a,Kr 4 r.A r.C r.S/\r.l=0/\r.b=false)/\Uk (Ed 6) aD (ks.map D.int) [some (.ref 0),d,f,some (.int e),g,some Fi,i,j,k] (hH 0 e p q [] [] (.va (bc 7 rs)) []++dh e 7 rs)=.ok (.nx [some (.ref 0),d,f,some (.int e),g,some Fi,u,j,k]) (hH 0 e p q [] [] (.va (bc 7 (rs++a))) []++dh e 7 (rs++a))
 |[],rs,i,_,_,_,_=>⟨[],i,rfl,by simp,by simp⟩
 |h::ks,rs,i,v,nd,c,B=>by
  rw[Ha]at B;obtain⟨A,C,S,R,F⟩:=W0 t h1 h12 (v h (Ba ..)) rs (λx n z=>c x n (by rw[z];exact Ba ..)) (by omega) d f g j k;obtain⟨o,s⟩:=gd.mp nd;obtain⟨a,u,m,ok,w⟩:=rM d f g j k ks (rs++[⟨h,0,false,A,C,S⟩]) (some (.int h)) (λz E=>v z (wa _ E)) s (λx n z=>by
   rcases Pd.mp n with y|y
   ·exact c x y (wa _ z)
   ·rw[xf.mp y]at z;exact o z) (by simp;omega)
  rw[Ec]at w;refine⟨⟨h,0,false,A,C,S⟩::a,u,by rw[za,m],λr c=>?_,?_⟩
  ·rcases Ca.mp c with rfl|y
   ·exact⟨R,rfl,rfl⟩
   ·exact ok r y
  rw[za,cu];simp only[Na,Oa];rw[F,qc,vm,w];rfl
end
noncomputable def Wf:List (List Key):=[[.inr "word",.inl 9]]
open Classical in
theorem hQ(d e:Int)(p q:Pt)(s0 s1:Kv)(rs:List Row)(v:∀ x∈rs,x.h≠3)(j:db)(m o r s t u:Option D):RB [some (.ref 0),m,o,r,s,t,u,some (.int 9),some (.int 3)] (hH d e p q s0 s1 (.va (bc 7 rs)) []++j)=.ok (.nx [some (.ref 0),m,o,r,s,t,u,some (.int 9),some (.int 3)]) (hH d e p q s0 s1 (.va (bc 7 rs)) Wf++j):=by
 have w:=UB d e p q s0 s1 (.va (bc 7 rs)) [] j;have A:=iJ d e p q s0 s1 (.va (bc 7 rs)) [] j;have n:jt (.int 3) (.ref 5) (hH d e p q s0 s1 (.va (bc 7 rs)) []++j)=.ok (.bl true) (hH d e p q s0 s1 (.va (bc 7 rs)) []++j):=by
  have g:(hH d e p q s0 s1 (.va (bc 7 rs)) []++j)[5]?=some (.va (bc 7 rs)):=rfl;unfold jt qh;simp only[qm,g,NG 7 rs v];rfl
 have z:∀ a,aB a (.ref 6) (.tup [.str "word",.int 9]) (hH d e p q s0 s1 (.va (bc 7 rs)) []++j)=.ok (.nx a) (hH d e p q s0 s1 (.va (bc 7 rs)) Wf++j):=λa=>by
  have g:(hH d e p q s0 s1 (.va (bc 7 rs)) []++j)[6]?=some (.og []):=rfl;have k:Wt [.str "word",.int 9]=some [.inr "word",.inl 9]:=rfl;have pt:eD [] [.inr "word",.inl 9]=Wf:=by unfold eD;rw[ga (by simp)];rfl
  unfold aB;simp only[k,g,pt];rw[da (show ([]:List (List Key)).length<Ch by decide)];rfl
 unfold RB;generalize hH d e p q s0 s1 (.va (bc 7 rs)) []++j=B at *;generalize hH d e p q s0 s1 (.va (bc 7 rs)) Wf++j=C at *;have y:∀ (f c b:Ev->M D) (a:Ev) (σ:db),xF f c b a σ=am a (hG a c b) (f a σ):=λ_ _ _ _ _=>Kn ..;have i:∀ (c b:Ev->M D) (a:Ev) (d:D) (σ:db),hG a c b d σ=am a (AG a b) (c a σ):=λ_ _ _ _ _=>Kn ..;have l:∀ (b:Ev->M D) (a:Ev) (d:D) (σ:db),AG a b d σ=am a (aB a d) (b a σ):=λ_ _ _ _=>Kn ..;simp[w,A,n,y,i,l,z]
theorem OV{σ:db}{x:D}{ns ks:List Int}(b:Dh σ x=some (ns.map D.int))(a:ns.length<64)(hs:Wm (Jj ns)=ks):Xf σ (Cw x σ)=.ok (.lst (ks.map D.int)) σ:=by
 have e:Cw x σ=.ok (.ref σ.length) (σ++[.lst (ks.map D.int)]):=by
  unfold Cw;rw[b];simp only[rh,aN];rw[da a,hs];rfl
 rw[e];exact Yt (by simp)
theorem EZ{ρ:Ev}{cs:List Nat}{f:qa}{d:D}{c:Nat}{fs:List (qa × D)}{r:db}(h:cs.contains c=true)(a:fs.length<1000):ft ρ cs f d (.ref 0) (.ins c fs::r)=.ok (.nx ρ) (.ins c (Ej f d fs)::r):=pz (τ:=[]) h a
theorem Kx{cs:List Nat}{f:qa}{c:Nat}{fs:List (qa × D)}{a:Ev->M D}{d:D}(b:cs.contains c=true)(e:Nat.ble (fs.length+1) 1000=true){ds es:db}{r:Ev}(g:a (some (.ref 0)::r) (.ins c fs::ds)=.ok d (.ins c fs::es)):zi cs f a (ya 0) (some (.ref 0)::r) (.ins c fs::ds)=.ok (.nx (some (.ref 0)::r)) (.ins c (Ej f d fs)::es):=by
 rw[Tv,g,jf,Jv,yg,jf,EZ b (ec e)]
theorem lX{p q:Pt}(t:Tw p q){e:Int}(u:1<=e)(f:e<=12){ns ks:List Int}(y:ns.length<64)(hs:Wm (Jj ns)=ks)(n:∀ h∈ks,h≠3)(nd:ks.Nodup)(w:ks.length<100):∃ rs:List Row,rs.map Row.h=ks/\(∀ r∈rs,Kr 4 r.A r.C r.S/\r.l=0/\r.b=false)/\Fp 16 5 To [PL p q,.lst (ns.map D.int),.int e,Fi] []=.ok (.ref 0) (hH 0 e p q [] [] (.va (bc 7 rs)) Wf++dh e 7 rs):=by
 have bk:=ZR t;have I:∀ σ,Xf σ (Cw (.lst (ns.map D.int)) σ)=.ok (.lst (ks.map D.int)) σ:=λσ=>OV rfl y hs;obtain⟨rs,j,m,ok,o⟩:=rM t u f (some (PL p q)) (some (.lst (ns.map D.int))) (some Fi) none none ks [] none n nd (by simp) (by simpa using w);rw[Hg]at o;refine⟨rs,m,ok,?_⟩;have H:∀ x∈rs,x.h≠3:=λx E=>n _ (by rw[<-m];exact Dc.mpr ⟨x,E,rfl⟩);have J:=hQ 0 e p q [] [] rs H (dh e 7 rs) (some (PL p q)) (some (.lst (ns.map D.int))) (some (.int e)) (some Fi) (some Fi) j;have B:∀ fs,Bk [.ins 16 fs,.ins 9 (rm 0 p q),.lst [.ref 3,.ref 4],.va [],.va []] 0 p q [] []:=λfs=>⟨rfl,rfl,rfl,rfl⟩
 have s:Tc [16] "public" (.ref 0) [.ins 16 [("public",.ref 1)],.ins 9 (rm 0 p q),.lst [.ref 3,.ref 4],.va [],.va []]=.ok (.ref 1) [.ins 16 [("public",.ref 1)],.ins 9 (rm 0 p q),.lst [.ref 3,.ref 4],.va [],.va []]:=Rn (c:=16) (fs:=[("public",.ref 1)]) rfl rfl rfl;have F:=lI (B [("public",.ref 1)]);have G:=λfs=>vr (B [("public",.ref 1)]) (m:="made_of") 1 Jb fs rfl;rw[wJ];show Cv 0 (To [.ref 0,PL p q,.lst (ns.map D.int),.int e,Fi] [.ins 16 []])=_;have g:To [.ref 0,PL p q,.lst (ns.map D.int),.int e,Fi] [.ins 16 []]=.ok .Hb (hH 0 e p q [] [] (.va (bc 7 rs)) Wf++dh e 7 rs):=by
  unfold To RI;rw[Jk,Ip];show Ai (wc _ _ [some (.ref 0),some (PL p q),some (.lst (ns.map D.int)),some (.int e),some Fi,none,none,none,none] [.ins 16 []])=_;generalize v:PL p q=L at *;generalize D.lst (ns.map D.int)=a at *;rw[Ff,Kx (d:=.ref 1) rfl rfl (by
   simp only[vE,So,ui,yg,qc,ap,Ck,Oo];exact bk),qc,Cf]
  show Ai (wc _ _ [some (.ref 0),some L,some a,some (.int e),some Fi,none,none,none,none] [.ins 16 [("public",.ref 1)],.ins 9 (rm 0 p q),.lst [.ref 3,.ref 4],.va [],.va []])=_;rw[Ff,Kx (d:=L) (es:=[.ins 9 (rm 0 p q),.lst [.ref 3,.ref 4],.va [],.va []]) rfl rfl (by
   simp only[Xt,vt,yg,qc,s,G,Ck,Yx,F]),qc,Cf]
  rw[Ff,Kx (d:=.int e) rfl rfl (by simp;rfl),qc,Cf];rw[Ff,Kx (d:=.ref 5) (es:=[.ins 9 (rm 0 p q),.lst [.ref 3,.ref 4],.va [],.va [],.va []]) rfl rfl (nr rfl),qc,Cf];rw[Ff,Kx (d:=.lst []) rfl rfl (by simp;rfl),qc,Cf];rw[Ff,Kx (d:=.ref 6) (es:=[.ins 9 (rm 0 p q),.lst [.ref 3,.ref 4],.va [],.va [],.va [],.og []]) rfl rfl (nr rfl),qc,Cf];subst v;show Ai (wc _ _ [some (.ref 0),some (PL p q),some a,some (.int e),some Fi,none,none,none,none] (hH 0 e p q [] [] (.va (bc 7 [])) []++dh e 7 []))=_;generalize PL p q=L at *;generalize hH 0 e p q [] [] (.va (bc 7 [])) []++dh e 7 []=Y1 at *;have z:wy (eT (Xb Zr (ya 4) (eC .Hb))) (eC (.va [] [])) (ya 4) [some (.ref 0),some L,some a,some (.int e),some Fi,none,none,none,none] Y1=.ok Fi Y1:=by
   have i:Zr Fi .Hb Y1=.ok (.bl false) Y1:=nr rfl;generalize Fi=W at *;simp[i]
  rw[Ff,yo,z,jf,jo,qc,Cf];show Ai (wc _ _ [some (.ref 0),some L,some a,some (.int e),some Fi,some Fi,none,none,none] Y1)=_;rw[Ff,Ov,Sw,zy,vt];simp only[ui,yg,qc,I,Nw,jf,Hw];rw[o,qc,Cf,uA,MN (by simp only[ui,yg]),jf];generalize hH 0 e p q [] [] (.va (bc 7 rs)) []++dh e 7 rs=k at *;show Ai (Xj (Fn [(.inl 9,.int 3)]) (zo 2 (Bi (Ed 7) (Bi (Ed 8) bp))) RB 1001 0 [some (.ref 0),some L,some a,some (.int e),some Fi,some Fi,j,none,none] k)=_;rw[Du (show Fn [((.inl 9:Key),D.int 3)] 0 k=some (some (.tup [.int 9,.int 3]))from rfl) (ρ1:=[some (.ref 0),some L,some a,some (.int e),some Fi,some Fi,j,some (.int 9),some (.int 3)]) rfl,J,qc,vm];rw[Qw rfl,Xz]
 rw[g,Nz]
theorem eN{σ:db}{n:Nat}(h:n<σ.length):Xf σ (.ok (.ref n) σ)=.ok (.ref n) σ:=by
 unfold Xf;dsimp only;rw[da xu];have:fz σ.length σ 6 (.ref n)=some (.ref n):=by unfold fz;rw[ga (by simp[cl])];dsimp only;rw[da h]
 rw[this]
section
variable(d e:Int)(p q:Pt)(s0 s1:Kv)(ko:Ob)(a b:List Row)(j:db)
noncomputable abbrev hS(rs:List Row):db:=hH d e p q s0 s1 ko Wf++(dh e 7 rs++j)
theorem zt:(hH d e p q s0 s1 ko Wf++dh e 7 a).length=7+7 * a.length:=by rw[Ya,EB];rfl
theorem gy(r:Row):hS d e p q s0 s1 ko j (a++r::b)=kS (hH d e p q s0 s1 ko Wf++dh e 7 a) r.h e r.l (kn r.b) (.va r.A) r.C r.S (dh e (7+7 * a.length+7) b++j):=by
 unfold hS kS;rw[zt,fH,Ec,Ec];rfl
theorem zQ:Bk (hH d e p q s0 s1 ko Wf++dh e 7 a) d p q s0 s1:=dA ..
variable(r:Row)
theorem U2:Tc [14,15] "last_look" (.ref (7+7 * a.length)) (hS d e p q s0 s1 ko j (a++r::b))=.ok (.int r.l) (hS d e p q s0 s1 ko j (a++r::b)):=by
 have:=MS (hH d e p q s0 s1 ko Wf++dh e 7 a) r.h e r.l (kn r.b) (.va r.A) r.C r.S (dh e (7+7 * a.length+7) b++j)
 rwa [<-gy,zt]at this
theorem K1:Tc [14,15] "known" (.ref (7+7 * a.length)) (hS d e p q s0 s1 ko j (a++r::b))=.ok (.ref (7+7 * a.length+1)) (hS d e p q s0 s1 ko j (a++r::b)):=by
 have:=sK (hH d e p q s0 s1 ko Wf++dh e 7 a) r.h e r.l (kn r.b) (.va r.A) r.C r.S (dh e (7+7 * a.length+7) b++j)
 rwa [<-gy,zt]at this
theorem Fz{m:qa}(k:Nat)(fn:List D->M D)(fs:M (List D))(hm:∀ n,(lz n r.h e r.l).lookup m=none):An [(15,fn)] k m fs (.ref (7+7 * a.length)) (hS d e p q s0 s1 ko j (a++r::b))=(fs (hS d e p q s0 s1 ko j (a++r::b))).bind (Ak k fn (.ref (7+7 * a.length))):=by
 have:=Rw (hH d e p q s0 s1 ko Wf++dh e 7 a) r.h e r.l (kn r.b) (.va r.A) r.C r.S (dh e (7+7 * a.length+7) b++j) k fn fs (hm _)
 rwa [<-gy,zt]at this
theorem jP:Bb [.ref (7+7 * a.length)] (hS d e p q s0 s1 ko j (a++r::b))=.ok (.int r.l) (hS d e p q s0 s1 ko j (a++r::b)):=by
 have l:=U2 d e p q s0 s1 ko a b j r;unfold Bb lN;generalize hS d e p q s0 s1 ko j (a++r::b)=Y at *;simp[l]
theorem E2:Wb [.ref (7+7 * a.length)] (hS d e p q s0 s1 ko j (a++r::b))=.ok (.lst ((if r.b then [9]else []:List Int).map D.int)) (hS d e p q s0 s1 ko j (a++r::b)):=by
 have l:=K1 d e p q s0 s1 ko a b j r;have g:(hS d e p q s0 s1 ko j (a++r::b))[7+7 * a.length+1]?=some (.va (kn r.b)):=by
  rw[gy,<-zt d e p q s0 s1 ko a];unfold kS;rw[du];rfl
 have f:Xf (hS d e p q s0 s1 ko j (a++r::b)) (Av [.ref (7+7 * a.length+1)] (hS d e p q s0 s1 ko j (a++r::b)))=.ok (.lst ((if r.b then [9]else []:List Int).map D.int)) (hS d e p q s0 s1 ko j (a++r::b)):=
  fK (kvs:=kn r.b) (by unfold Dh Hi;simp only[g]) (by unfold qh;simp only[g]) (by cases r.b<;>rfl) (by cases r.b<;>exact ec rfl) (by cases r.b<;>exact XF (Jr _) (by simp))
 have c:cl (.lst ((if r.b then [9]else []:List Int).map D.int))=true:=by simp
 unfold Wb KJ;generalize D.lst ((if r.b then [9]else []:List Int).map D.int)=L at *;generalize hS d e p q s0 s1 ko j (a++r::b)=Y at *;simp[l,f,c]
theorem iP{w:Option Int}(W:Sh s0 s1 w)(R:Kr 4 r.A r.C r.S):∃ c S',Kr 4 r.A c S'/\Yb [.ref (7+7 * a.length),.ref 1] (hS d e p q s0 s1 ko j (a++r::b))=.ok (.lst []) (hS d e p q s0 s1 ko j (a++⟨r.h,d,r.b || w.isSome,r.A,c,S'⟩::b)):=by
 obtain⟨c,S',f,lk⟩:=RQ (h:=r.h) (e:=e) (l:=r.l) (b:=r.b) (r:=dh e (7+7 * a.length+7) b++j) W (zQ d e p q s0 s1 ko a) R;refine⟨c,S',f,?_⟩;rw[gy,gy,<-lk,zt]
theorem PM{h:Int}(i:r.h=h)(f:∀ x∈a,x.h≠h):gb [.ref 0,.int h] (hS d e p q s0 s1 (.va (bc 7 (a++r::b))) j (a++r::b))=.ok (.ref (7+7 * a.length)) (hS d e p q s0 s1 (.va (bc 7 (a++r::b))) j (a++r::b)):=by
 have k:Tc [16] "keepers" (.ref 0) (hS d e p q s0 s1 (.va (bc 7 (a++r::b))) j (a++r::b))=.ok (.ref 5) (hS d e p q s0 s1 (.va (bc 7 (a++r::b))) j (a++r::b)):=UB ..;have g:(hS d e p q s0 s1 (.va (bc 7 (a++r::b))) j (a++r::b))[5]?=some (.va (bc 7 (a++r::b))):=rfl;have c:=VJ 7 a r b f i;have n:jt (.int h) (.ref 5) (hS d e p q s0 s1 (.va (bc 7 (a++r::b))) j (a++r::b))=.ok (.bl false) (hS d e p q s0 s1 (.va (bc 7 (a++r::b))) j (a++r::b)):=by
  unfold jt qh;simp only[qm,g,c];rfl
 have gt:Nj (.ref 5) (.int h) (hS d e p q s0 s1 (.va (bc 7 (a++r::b))) j (a++r::b))=.ok (.ref (7+7 * a.length)) (hS d e p q s0 s1 (.va (bc 7 (a++r::b))) j (a++r::b)):=by
  unfold Nj qh;simp only[qm,g,c]
 have fz:Xf (hS d e p q s0 s1 (.va (bc 7 (a++r::b))) j (a++r::b)) (.ok (.ref (7+7 * a.length)) (hS d e p q s0 s1 (.va (bc 7 (a++r::b))) j (a++r::b)))=.ok (.ref (7+7 * a.length)) (hS d e p q s0 s1 (.va (bc 7 (a++r::b))) j (a++r::b)):=eN (by
  unfold hS;rw[Ya,Ya,EB,Ya,Ha];show _<7+_;omega)
 unfold gb zI;generalize hS d e p q s0 s1 (.va (bc 7 (a++r::b))) j (a++r::b)=Y at *;simp[k,n,gt,fz]
theorem sR:Db [.ref 0] (hH d e p q s0 s1 ko Wf++j)=.ok (.ref 1) (hH d e p q s0 s1 ko Wf++j):=by
 have a:=Ez d e p q s0 s1 ko Wf j;have fz:Xf (hH d e p q s0 s1 ko Wf++j) (.ok (.ref 1) (hH d e p q s0 s1 ko Wf++j))=.ok (.ref 1) (hH d e p q s0 s1 ko Wf++j):=eN (by rw[Ya];show _<7+_;omega);unfold Db dJ;generalize hH d e p q s0 s1 ko Wf++j=Y at *;simp[a,fz]
theorem KZ(k:Nat):∀ ρ:Ev,ya k ρ (hH d e p q s0 s1 ko Wf++j)=.ok (.ref 0) (hH d e p q s0 s1 ko Wf++j)->Df [(9,eb)] 1 "today" (Df [(16,Db)] 1 "book" (ya k) Ab) Ab ρ (hH d e p q s0 s1 ko Wf++j)=.ok (.int d) (hH d e p q s0 s1 ko Wf++j):=λρ b=>by
 have B:=dA d e p q s0 s1 ko Wf j;have c:=λfs=>Sv d e p q s0 s1 ko Wf j (m:="book") 1 Db fs rfl;have a:=sR d e p q s0 s1 ko j;have f:=λfs=>vr B (m:="today") 1 eb fs rfl;have t:=WE B;generalize hH d e p q s0 s1 ko Wf++j=Y at *;simp only[Xt,b,qc,c,Ck,Yx,a,f,t]
end
theorem VS(d e:Int)(p q:Pt)(s0 s1:Kv)(a b:List Row)(j:db)(r:Row){w:Option Int}(W:Sh s0 s1 w)(R:Kr 4 r.A r.C r.S){h:Int}(i:r.h=h)(g:∀ x∈a,x.h≠h):∃ c S',Kr 4 r.A c S'/\Kc [.ref 0,.int h] (hS d e p q s0 s1 (.va (bc 7 (a++r::b))) j (a++r::b))=.ok (.lst []) (hS d e p q s0 s1 (.va (bc 7 (a++r::b))) j (a++⟨r.h,d,r.b || w.isSome,r.A,c,S'⟩::b)):=by
 obtain⟨c,S',f,lk⟩:=iP d e p q s0 s1 (.va (bc 7 (a++r::b))) a b j r W R;refine⟨c,S',f,?_⟩;have kp:=PM d e p q s0 s1 a b j r i g;have k:∀ fs,An [(16,gb)] 2 "keeper" fs (.ref 0) (hS d e p q s0 s1 (.va (bc 7 (a++r::b))) j (a++r::b))=(fs (hS d e p q s0 s1 (.va (bc 7 (a++r::b))) j (a++r::b))).bind (Ak 2 gb (.ref 0)):=λfs=>Sv (m:="keeper") d e p q s0 s1 _ Wf _ 2 gb fs rfl;have l:=λfs=>Fz d e p q s0 s1 (.va (bc 7 (a++r::b))) a b j r (m:="look") 2 Yb fs (λ_=>rfl);have n:Tc [16] "public" (.ref 0) (hS d e p q s0 s1 (.va (bc 7 (a++r::b))) j (a++r::b))=.ok (.ref 1) (hS d e p q s0 s1 (.va (bc 7 (a++r::b))) j (a++r::b)):=Ez ..;unfold Kc yL;generalize hS d e p q s0 s1 (.va (bc 7 (a++r::b))) j (a++r::b)=Y at *;generalize hS d e p q s0 s1 (.va (bc 7 (a++r::b))) j (a++⟨r.h,d,r.b || w.isSome,r.A,c,S'⟩::b)=o at *;rw[Jk,Ip];show Ai (cg _ [some (.ref 0),some (.int h)] Y)=_;simp only[Vu,Xt,ui,yg,qc,k,So,ap,Ck,Oo,GB,kp,l,vt,n,lk,jf,Xv,cw]
open Classical in
theorem KY(d e:Int)(p q:Pt)(a:Ob)(j:db){i:Int}(b:i=0\/i=1):∃ s0 s1,Sh s0 s1 (some d)/\Lc [.ref 0,.int i,.int 9] (hH d e p q [] [] a Wf++j)=.ok .Hb (hH d e p q s0 s1 a Wf++j):=by
 have B:=dA d e p q [] [] a Wf j;have sh:=uR B b;have h:=λfs=>vr B (m:="show") 3 pe fs rfl;have l:=Ez d e p q [] [] a Wf j;have n:=iJ d e p q [] [] a Wf j;have f:=λfs=>Sv d e p q [] [] a Wf j (m:="band_can") 2 Cc fs rfl;have c:Cc [.ref 0,.tup [.str "word",.int 9]] (hH d e p q [] [] a Wf++j)=.ok (.bl true) (hH d e p q [] [] a Wf++j):=by
  have o:xz (.tup [.str "word",.int 9]) (.ref 6) (hH d e p q [] [] a Wf++j)=.ok (.bl true) (hH d e p q [] [] a Wf++j):=by
   have g:(hH d e p q [] [] a Wf++j)[6]?=some (.og Wf):=rfl;have k:Wt [.str "word",.int 9]=some [.inr "word",.inl 9]:=rfl;unfold xz;simp only[k,g];rw[Fg (by unfold Wf;simp)]
  unfold Cc hO;generalize hH d e p q [] [] a Wf++j=Y at *;simp[n,o]
 obtain⟨s0,s1,S,hs⟩:∃ s0 s1,Sh s0 s1 (some d)/\(hH d e p q [] [] a Wf++j).set (if i=0 then 3 else 4) (.va [(.inl 9,.int d)])=hH d e p q s0 s1 a Wf++j:=by
  rcases b with rfl|rfl
  ·exact⟨_,_,.left d,rfl⟩
  ·exact⟨_,_,.right d,rfl⟩
 refine⟨s0,s1,S,?_⟩;rw[hs]at sh;unfold Lc uN;generalize hH d e p q [] [] a Wf++j=Y at *;generalize hH d e p q s0 s1 a Wf++j=r at *;simp[f,c,l,h,sh]
theorem EA:∀ (n:Nat) (a b:List Row),a.map Row.h=b.map Row.h->bc n a=bc n b
 |_,[],[],_=>rfl
 |n,x::a,y::b,h=>by
  rw[za,za]at h;injection h with h1 h2;rw[bc,bc,h1,EA (n+7) a b h2]
theorem w1(n:Nat)(a:List Row)(r:Row)(b:List Row):(bc n (a++r::b))[a.length]?=some (.inl r.h,.ref (n+7 * a.length)):=by
 rw[jG,Cd (by rw[jy];omega),jy];simp[bc]
noncomputable def Nx(d e:Int)(w:Option Int)(r a:Row):Prop:=a.h=r.h/\Kr 4 a.A a.C a.S/\a.l=(if e<=d - r.l then d else r.l)/\a.b=(if e<=d - r.l then r.b || w.isSome else r.b)
inductive Jq(d e:Int)(w:Option Int):List Row->List Row->Prop
 |nil:Jq d e w [] []
 |cons {r r':Row} {b b':List Row}:Nx d e w r r'->Jq d e w b b'->Jq d e w (r::b) (r'::b')
section
variable(d e:Int)(p q:Pt){s0 s1:Kv}{w:Option Int}(W:Sh s0 s1 w)(KD:Kv)(j:db)
include W
theorem IQ(a b:List Row)(r:Row)(R:Kr 4 r.A r.C r.S):∃ u,Nx d e w r u/\Mv [some (.ref 0),some (.ref (7+7 * a.length))] (hS d e p q s0 s1 (.lb KD) j (a++r::b))=.ok (.nx [some (.ref 0),some (.ref (7+7 * a.length))]) (hS d e p q s0 s1 (.lb KD) j (a++u::b)):=by
 obtain⟨g,i,v,lk⟩:=iP d e p q s0 s1 (.lb KD) a b j r W R;have s:Tc [16] "public" (.ref 0) (hS d e p q s0 s1 (.lb KD) j (a++r::b))=.ok (.ref 1) (hS d e p q s0 s1 (.lb KD) j (a++r::b)):=Ez ..;have k:Tc [14,15,16] "every" (.ref 0) (hS d e p q s0 s1 (.lb KD) j (a++r::b))=.ok (.int e) (hS d e p q s0 s1 (.lb KD) j (a++r::b)):=PR ..;have B:Bk (hS d e p q s0 s1 (.lb KD) j (a++r::b)) d p q s0 s1:=dA ..;have n:=λfs=>vr B (m:="today") 1 eb fs rfl;have t:=WE B;have o:=λfs=>Fz d e p q s0 s1 (.lb KD) a b j r (m:="looked") 1 Bb fs (λ_=>rfl);have x:=λfs=>Fz d e p q s0 s1 (.lb KD) a b j r (m:="look") 2 Yb fs (λ_=>rfl);have l:=jP d e p q s0 s1 (.lb KD) a b j r;unfold Mv;by_cases c:e<=d - r.l
 ·refine⟨⟨r.h,d,r.b || w.isSome,r.A,g,i⟩,⟨rfl,v,by rw[da c],by rw[da c]⟩,?_⟩;have f:decide (d - r.l ≥ e)=true:=by simpa using c
  generalize hS d e p q s0 s1 (.lb KD) j (a++⟨r.h,d,r.b || w.isSome,r.A,g,i⟩::b)=y at *;generalize hS d e p q s0 s1 (.lb KD) j (a++r::b)=Y at *;simp[s,k,n,t,o,x,l,lk,f]
 ·refine⟨r,⟨rfl,R,by rw[ga c],by rw[ga c]⟩,?_⟩;have f:decide (d - r.l ≥ e)=false:=by simpa using c
  generalize hS d e p q s0 s1 (.lb KD) j (a++r::b)=Y at *;simp[s,k,n,t,o,l,f]
theorem YI:∀ (b a:List Row) (f:Nat) (i:Option D),KD=bc 7 (a++b)->(∀ r∈b,Kr 4 r.A r.C r.S)->f=1001 - a.length->a.length+b.length<100->∃ g l,Jq d e w b g/\Xj (Xr KD) (Ed 1) Mv f a.length [some (.ref 0),i] (hS d e p q s0 s1 (.lb KD) j (a++b))=.ok (.nx [some (.ref 0),l]) (hS d e p q s0 s1 (.lb KD) j (a++g))
 |[],a,f,i,h,_,hf,k=>by
  obtain⟨c,rfl⟩:∃ c,f=c+1:=⟨f - 1,by rw[di]at k;omega⟩
  refine⟨[],i,.nil,Qw ?_⟩;unfold Xr;rw[h,Qd,eg (by rw[jy];omega)];simp[jy]
 |r::b,a,f,i,h,m,hf,k=>by
  rw[Ha]at k;obtain⟨c,rfl⟩:∃ c,f=c+1:=⟨f - 1,by omega⟩
  obtain⟨s,n,u⟩:=IQ d e p q W KD j a b r (m r (Ba ..));obtain⟨g,l,F,o⟩:=YI b (a++[s]) c (some (.ref (7+7 * a.length))) (by rw[h];exact EA _ _ _ (by simp[n.1])) (λx t=>m x (wa _ t)) (by simp;omega) (by simp;omega);rw[Ec,Ec,Ya]at o;refine⟨s::g,l,.cons n F,?_⟩;have nx:Xr KD a.length (hS d e p q s0 s1 (.lb KD) j (a++r::b))=some (some (.ref (7+7 * a.length))):=by unfold Xr;rw[h,w1]
  rw[Du nx (ρ1:=[some (.ref 0),some (.ref (7+7 * a.length))]) rfl,u,qc,vm];exact o
theorem zY(rs:List Row)(i:KD=bc 7 rs)(k:∀ r∈rs,Kr 4 r.A r.C r.S)(l:rs.length<100):∃ rs',Jq d e w rs rs'/\Kb [.ref 0] (hS d e p q s0 s1 (.va KD) j rs)=.ok .Hb (hS (d+1) e p q s0 s1 (.va KD) j rs'):=by
 obtain⟨rs',h,F,n⟩:=YI d e p q W KD j rs [] 1001 none i k (by simp) (by simpa using l);refine⟨rs',F,?_⟩;have f:Tc [16] "keepers" (.ref 0) (hS d e p q s0 s1 (.va KD) j rs)=.ok (.ref 5) (hS d e p q s0 s1 (.va KD) j rs):=UB ..;have g:(hS d e p q s0 s1 (.va KD) j rs)[5]?=some (.va KD):=rfl;have g2:(hS d e p q s0 s1 (.lb KD) j rs')[5]?=some (.lb KD):=rfl;have b:(hS d e p q s0 s1 (.va KD) j rs).set 5 (.lb KD)=hS d e p q s0 s1 (.lb KD) j rs:=rfl;have c:(hS d e p q s0 s1 (.lb KD) j rs').set 5 (.va KD)=hS d e p q s0 s1 (.va KD) j rs':=rfl;have t:ms (Xd (Tc [16] "keepers") (ya 0)) (io (CD (Xd (Tc [16] "keepers") (ya 0))) (Ed 1) Mv) [some (.ref 0),none] (hS d e p q s0 s1 (.va KD) j rs)=.ok (.nx [some (.ref 0),h]) (hS d e p q s0 s1 (.va KD) j rs'):=by
  show Qv su (Xd (Tc [16] "keepers") (ya 0) _) (io _ (Ed 1) Mv _) _=_;unfold Qv;rw[vt,yg,qc,f];dsimp only;rw[g];dsimp only;have hs:CD (Xd (Tc [16] "keepers") (ya 0)) [some (.ref 0),none] (hS d e p q s0 s1 (.va KD) j rs)=.ok (Xr KD) (hS d e p q s0 s1 (.lb KD) j rs):=by
   show Fc (Xd (Tc [16] "keepers") (ya 0) _) yD _=_;rw[wm,vt,yg,qc,f,qc];unfold yD;simp only[g];rw[b]
  rw[uA,hs,jf];show Ou su _ (Xj (Xr KD) (Ed 1) Mv 1001 0 [some (.ref 0),none] _)=_;have a:Xj (Xr KD) (Ed 1) Mv 1001 0 [some (.ref 0),none] (hS d e p q s0 s1 (.lb KD) j rs)=.ok (.nx [some (.ref 0),h]) (hS d e p q s0 s1 (.lb KD) j rs'):=n;rw[a];unfold Ou;simp only[su,ee,g2];rw[c]
 have s:Tc [16] "public" (.ref 0) (hS d e p q s0 s1 (.va KD) j rs')=.ok (.ref 1) (hS d e p q s0 s1 (.va KD) j rs'):=Ez ..;have B:Bk (hS d e p q s0 s1 (.va KD) j rs') d p q s0 s1:=dA ..;have o:=λfs=>vr B (m:="next_day") 1 Zb fs rfl;have nx:Zb [.ref 1] (hS d e p q s0 s1 (.va KD) j rs')=.ok .Hb (hS (d+1) e p q s0 s1 (.va KD) j rs'):=lW B;unfold Kb LO;generalize hS (d+1) e p q s0 s1 (.va KD) j rs'=v at *;generalize hS d e p q s0 s1 (.va KD) j rs'=u at *;generalize hS d e p q s0 s1 (.va KD) j rs=Y at *;rw[Jk,Ip];show Ai (wc _ _ [some (.ref 0),none] Y)=_;rw[Ff,t,qc,Cf];simp only[JB,Xt,vt,yg,qc,s,o,Ck,Yx,nx,jf,ZC,Xz]
end
noncomputable def dV(hs:List Int)(f:Int->D):Kv:=hs.map λh=>((.inl h:Key),f h)
noncomputable def upd{α:Type}(f:Int->α)(h:Int)(x:α):Int->α:=λz=>if z=h then x else f z
theorem yy(hs:List Int)(f:Int->D):(dV hs f).length=hs.length:=by unfold dV;simp
theorem YC(f:Int->D){h:Int}:∀ {hs:List Int},h∈hs->ni (dV hs f) (.inl h)=some (f h)
 |x::hs,hm=>by
  show ni ((.inl x,f x)::dV hs f) _=_;rw[Vq];by_cases e:x=h
  ·rw[da (by rw[e]),e]
  ·rw[ga λz=>e (by injection z),YC f ((Ca.mp hm).resolve_left λz=>e z.symm)]
theorem AY(f:Int->D){h:Int}{hs:List Int}(hm:h∈hs)(x:D):Rg (dV hs f) (.inl h) x=dV hs (upd f h x):=by
 unfold Rg;rw[DA,YC f hm,bj,da rfl];unfold dV upd;rw[Mg];refine Ir λz _=>?_;show (if (Sum.inl z:Key)=.inl h then ((.inl z:Key),x)else (.inl z,f z))=_;by_cases e:z=h
 ·rw[da (by rw[e]),da e]
 ·rw[ga (λy=>e (by injection y)),ga e]
theorem oF(f:Int->D){h:Int}:∀ {hs:List Int},h ∉ hs->ni (dV hs f) (.inl h)=none
 |[],_=>rfl
 |x::hs,hm=>by
  show ni ((.inl x,f x)::dV hs f) _=_;rw[Vq,ga λz=>hm (by injection z with z;rw[z];exact Ba ..),oF f λz=>hm (wa _ z)]
noncomputable def Nd(lk:Int->Int):Int->D:=λh=>.int (lk h)
noncomputable def ig(kw:Int->Bool):Int->D:=λh=>.bl (kw h)
theorem aK(lk:Int->Int)(h x:Int):upd (Nd lk) h (.int x)=Nd (upd lk h x):=by
 funext z;simp only[upd,Nd];split<;>rfl
theorem XI(kw:Int->Bool)(h:Int)(x:Bool):upd (ig kw) h (.bl x)=ig (upd kw h x):=by
 funext z;simp only[upd,ig];split<;>rfl
section
variable(d e:Int)(p q:Pt)(s0 s1:Kv)(ko:Ob)(rs:List Row)(a b:Ob)
theorem oy:hS d e p q s0 s1 ko [a,b] rs=(hH d e p q s0 s1 ko Wf++dh e 7 rs)++[a,b]:=by unfold hS;rw[Ec]
theorem ju:(hS d e p q s0 s1 ko [a,b] rs)[7+7 * rs.length]?=some a:=by
 rw[oy,<-zt d e p q s0 s1 ko rs];exact du _ _ 0
theorem Pw:(hS d e p q s0 s1 ko [a,b] rs)[7+7 * rs.length+1]?=some b:=by
 rw[oy,<-zt d e p q s0 s1 ko rs];exact du _ _ 1
theorem SA(o:Ob):(hS d e p q s0 s1 ko [a,b] rs).set (7+7 * rs.length) o=hS d e p q s0 s1 ko [o,b] rs:=by
 rw[oy,<-zt d e p q s0 s1 ko rs,oy];exact cx _ _ 0 _
theorem aA(o:Ob):(hS d e p q s0 s1 ko [a,b] rs).set (7+7 * rs.length+1) o=hS d e p q s0 s1 ko [a,o] rs:=by
 rw[oy,<-zt d e p q s0 s1 ko rs,oy];exact cx _ _ 1 _
end
theorem Lz{σ:db}{n:Nat}{hs:List Int}{f:Int->D}(g:σ[n]?=some (.va (dV hs f))\/σ[n]?=some (.lb (dV hs f))){h:Int}(hm:h∈hs):Nj (.ref n) (.int h) σ=.ok (f h) σ:=by
 unfold Nj qh;rcases g with g|g<;>simp only[qm,g,YC f hm]
theorem kD{σ:db}{n:Nat}{hs:List Int}{f:Int->D}(g:σ[n]?=some (.va (dV hs f)))(a:hs.length<100){h:Int}(hm:h∈hs)(ρ:Ev)(x:D):Wp ρ x (.ref n) (.int h) σ=.ok (.nx ρ) (σ.set n (.va (dV hs (upd f h x)))):=by
 rw[av g (by rw[yy];omega),AY f hm]
noncomputable def Am(d e:Int)(ks:List Int)(lk:Int->Int):Int->Int:=λz=>if z∈ks/\e<=d - lk z then d else lk z
section
variable(d e:Int)(p q:Pt)(s0 s1:Kv)(ko b:Ob)(rs:List Row){hs:List Int}(hl:hs.length<100)
include hl
theorem pV(lk:Int->Int){h:Int}(hm:h∈hs)(i:Option D):UC [i,some (.ref (7+7 * rs.length)),some (.int e),some (.int d),some (.int h)] (hS d e p q s0 s1 ko [.va (dV hs (Nd lk)),b] rs)=.ok (.nx [i,some (.ref (7+7 * rs.length)),some (.int e),some (.int d),some (.int h)]) (hS d e p q s0 s1 ko [.va (dV hs (Nd (if e<=d - lk h then upd lk h d else lk))),b] rs):=by
 have g:=Lz (.inl (ju d e p q s0 s1 ko rs (.va (dV hs (Nd lk))) b)) hm;have f:=λj=>kD (ju d e p q s0 s1 ko rs (.va (dV hs (Nd lk))) b) hl hm j (.int d);rw[SA,aK]at f;have g:Nj (.ref (7+7 * rs.length)) (.int h) _=.ok (.int (lk h)) _:=g;unfold UC;by_cases c:e<=d - lk h
 ·rw[da c];have a:decide (d - lk h ≥ e)=true:=by simpa using c
  generalize hS d e p q s0 s1 ko [.va (dV hs (Nd (upd lk h d))),b] rs=k at *;generalize hS d e p q s0 s1 ko [.va (dV hs (Nd lk)),b] rs=Y at *;simp[g,f,a]
 ·rw[ga c];have a:decide (d - lk h ≥ e)=false:=by simpa using c
  generalize hS d e p q s0 s1 ko [.va (dV hs (Nd lk)),b] rs=Y at *;simp[g,a]
theorem eO(a:Option D):∀ (ks:List Int) (lk:Int->Int) (f:Option D),ks.Nodup->(∀ h∈ks,h∈hs)->∃ j,Uk (Ed 4) UC (ks.map D.int) [a,some (.ref (7+7 * rs.length)),some (.int e),some (.int d),f] (hS d e p q s0 s1 ko [.va (dV hs (Nd lk)),b] rs)=.ok (.nx [a,some (.ref (7+7 * rs.length)),some (.int e),some (.int d),j]) (hS d e p q s0 s1 ko [.va (dV hs (Nd (Am d e ks lk))),b] rs)
 |[],lk,f,_,_=>⟨f,by
  have:Am d e [] lk=lk:=by funext z;unfold Am;rw[ga (by simp)]
  rw[this,Vd,vy]⟩
 |h::ks,lk,f,nd,hm=>by
  obtain⟨g,i⟩:=gd.mp nd;have o:=pV d e p q s0 s1 ko b rs hl lk (hm h (Ba ..)) a;obtain⟨j,k⟩:=eO a ks (if e<=d - lk h then upd lk h d else lk) (some (.int h)) i (λz n=>hm z (wa _ n));refine⟨j,?_⟩;have e1:Am d e ks (if e<=d - lk h then upd lk h d else lk)=Am d e (h::ks) lk:=by
   funext z;unfold Am;by_cases y:z=h
   ·subst y;rw[ga (λw=>g w.1)];by_cases c:e<=d - lk z
    ·rw[da c,da ⟨Ba ..,c⟩];unfold upd;rw[da rfl]
    ·rw[ga c,ga λw=>c w.2]
   ·have l:(if e<=d - lk h then upd lk h d else lk) z=lk z:=by
     split
     ·unfold upd;rw[ga y]
     ·rfl
    rw[l];by_cases m:z∈ks
    ·by_cases c:e<=d - lk z
     ·rw[da ⟨m,c⟩,da ⟨wa _ m,c⟩]
     ·rw[ga λw=>c w.2,ga λw=>c w.2]
    ·rw[ga λw=>m w.1,ga λw=>m ((Ca.mp w.1).resolve_left y)]
  rw[e1]at k;rw[za,cu];simp only[Na,Oa];rw[o,qc,vm,k]
end
theorem Jq.len{d e:Int}{w:Option Int}:∀ {a b:List Row},Jq d e w a b->b.length=a.length
 |_,_,.nil=>rfl
 |_,_,.cons _ t=>by rw[Ha,Ha,t.len]
theorem Jq.hs{d e:Int}{w:Option Int}:∀ {a b:List Row},Jq d e w a b->b.map Row.h=a.map Row.h
 |_,_,.nil=>rfl
 |_,_,.cons n t=>by rw[za,za,t.hs,n.1]
theorem IA(d e:Int)(p q:Pt)(s0 s1:Kv)(a:Ob)(j:db)(rs:List Row)(k:Nat){ρ:Ev}(b:ya k ρ (hS d e p q s0 s1 a j rs)=.ok (.ref 0) (hS d e p q s0 s1 a j rs)):Df [(9,eb)] 1 "today" (Df [(16,Db)] 1 "book" (ya k) Ab) Ab ρ (hS d e p q s0 s1 a j rs)=.ok (.int d) (hS d e p q s0 s1 a j rs):=KZ d e p q s0 s1 a (dh e 7 rs++j) k ρ b
theorem WX(d:Int){e:Int}(p q:Pt){s0 s1:Kv}{w:Option Int}(W:Sh s0 s1 w){KD:Kv}{rs:List Row}(k:KD=bc 7 rs)(l:∀ r∈rs,Kr 4 r.A r.C r.S)(n:rs.length<100){hs:List Int}(i:hs.length<100)(nd:hs.Nodup)(lk:Int->Int)(b:Ob):∃ a,Jq d e w rs a/\Ie [.ref 0,.ref (7+7 * rs.length),.int e] (hS d e p q s0 s1 (.va KD) [.va (dV hs (Nd lk)),b] rs)=.ok (.bl true) (hS (d+1) e p q s0 s1 (.va KD) [.va (dV hs (Nd (Am d e hs lk))),b] a):=by
 obtain⟨f,t⟩:=eO d e p q s0 s1 (.va KD) b rs i (some (.ref 0)) hs lk none nd (λ_ h=>h);obtain⟨a,F,v⟩:=zY d e p q W KD [.va (dV hs (Nd (Am d e hs lk))),b] rs k l n;refine⟨a,F,?_⟩;have ld:Xf (hS d e p q s0 s1 (.va KD) [.va (dV hs (Nd lk)),b] rs) (Zx [.ref (7+7 * rs.length)] (hS d e p q s0 s1 (.va KD) [.va (dV hs (Nd lk)),b] rs))=.ok (.lst (hs.map D.int)) (hS d e p q s0 s1 (.va KD) [.va (dV hs (Nd lk)),b] rs):=by
  have g:=ju d e p q s0 s1 (.va KD) rs (.va (dV hs (Nd lk))) b;have c:qh (hS d e p q s0 s1 (.va KD) [.va (dV hs (Nd lk)),b] rs) (.ref (7+7 * rs.length))=some (dV hs (Nd lk)):=by unfold qh;simp only[g]
  have o:Zx [.ref (7+7 * rs.length)] (hS d e p q s0 s1 (.va KD) [.va (dV hs (Nd lk)),b] rs)=.ok (.ref (hS d e p q s0 s1 (.va KD) [.va (dV hs (Nd lk)),b] rs).length) (hS d e p q s0 s1 (.va KD) [.va (dV hs (Nd lk)),b] rs++[.lst (hs.map D.int)]):=by
   unfold Zx;simp only[c];rw[da (show (dV hs (Nd lk)).length<=Ch by rw[yy];exact Qa (Qc i) (by decide))];have e:(dV hs (Nd lk)).map (λs=>Yp s.1)=hs.map D.int:=by unfold dV;rw[Mg];rfl
   rw[e];rfl
  rw[o];exact Yt (by simp)
 have u:∀ fs,An [(16,Kb)] 1 "next_day" fs (.ref 0) (hS d e p q s0 s1 (.va KD) [.va (dV hs (Nd (Am d e hs lk))),b] rs)=(fs (hS d e p q s0 s1 (.va KD) [.va (dV hs (Nd (Am d e hs lk))),b] rs)).bind (Ak 1 Kb (.ref 0)):=λfs=>Sv (m:="next_day") d e p q s0 s1 (.va KD) Wf _ 1 Kb fs rfl;have x:=IA d e p q s0 s1 (.va KD) [.va (dV hs (Nd lk)),b] rs 0 (ρ:=[some (.ref 0),some (.ref (7+7 * rs.length)),some (.int e),none,none]) (yg ..);have y:=IA (d+1) e p q s0 s1 (.va KD) [.va (dV hs (Nd (Am d e hs lk))),b] a 0 (ρ:=[some (.ref 0),some (.ref (7+7 * rs.length)),some (.int e),some (.int d),f]) (yg ..);unfold Ie BK;generalize hS (d+1) e p q s0 s1 (.va KD) [.va (dV hs (Nd (Am d e hs lk))),b] a=Y3 at *;generalize hS d e p q s0 s1 (.va KD) [.va (dV hs (Nd (Am d e hs lk))),b] rs=j at *;generalize hS d e p q s0 s1 (.va KD) [.va (dV hs (Nd lk)),b] rs=Y at *;generalize 7+7 * rs.length=N at *;rw[Jk,Ip];show Ai (wc _ _ [some (.ref 0),some (.ref N),some (.int e),none,none] Y)=_;rw[Ff,yo];rw[x,jf,jo,qc,Cf];show Ai (wc _ _ [some (.ref 0),some (.ref N),some (.int e),some (.int d),none] Y)=_;rw[Ff,Ov];simp only[Sw,zy,jD,So,ui,yg,qc,ap,Ck,Oo,ld,Nw,jf,Hw];rw[t,qc,Cf,Vu,AZ];have z:Df [(16,Kb)] 1 "next_day" (ya 0) Ab [some (.ref 0),some (.ref N),some (.int e),some (.int d),f] j=.ok .Hb Y3:=by
  simp only[Xt,yg,qc,u,Ck,Yx,v]
 rw[ku,z];simp only[qc,ww,Zq,BX];have B:Xb oEq (Df [(9,eb)] 1 "today" (Df [(16,Db)] 1 "book" (ya 0) Ab) Ab) (Xb Yq (ya 3) (eC (.int 1))) [some (.ref 0),some (.ref N),some (.int e),some (.int d),f] Y3=.ok (.bl true) Y3:=by
  rw[ku,y];simp
 simp[B,-ku]
theorem gM{A:Kv}{tg:D->Ev->Option Ev}{body:Ev->M Fl}{σ:db}{P:Ev->Prop}(s:A.length<100)(r:∀ q∈A,∀ ρ,P ρ->∃ ρ1 a,tg (Yp q.1) ρ=some ρ1/\body ρ1 σ=.ok (.nx a) σ/\P a):∀ (j i f:Nat) (ρ:Ev),i+j=A.length->f=1001 - i->P ρ->∃ a,P a/\Xj (Aq A) tg body f i ρ σ=.ok (.nx a) σ:=by
 intro j;induction j with
 |zero=>
  intro i f ρ c o d;obtain⟨b,rfl⟩:∃ b,f=b+1:=⟨f - 1,by omega⟩
  obtain rfl:i=A.length:=by omega
  exact⟨ρ,d,Qw (jL A σ)⟩
 |succ j p=>
  intro i f ρ c o d;obtain⟨b,rfl⟩:∃ b,f=b+1:=⟨f - 1,by omega⟩
  have g:i<A.length:=by omega
  obtain⟨ρ1,a,h,k,l⟩:=r A[i] (re g) ρ d;obtain⟨e,m,n⟩:=p (i+1) b a (by omega) (by omega) l;refine⟨e,m,?_⟩;rw[Du (UI (jb g) σ) h,k,qc,vm,n]
theorem NO{k n:Nat}{ρ a:Ev}{σ σf:db}{A:Kv}{tg:D->Ev->Option Ev}{body:Ev->M Fl}(b:ya k ρ σ=.ok (.ref n) σ)(g:σ[n]?=some (.va A))(s:σ.set n (.lb A)=σf)(c:σf[n]?=some (.lb A))(e:σf.set n (.va A)=σ)(d:Xj (Aq A) tg body 1001 0 ρ σf=.ok (.nx a) σf):ms (ya k) (io (vv (ya k)) tg body) ρ σ=.ok (.nx a) σ:=by
 show Qv su (ya k ρ) (io (vv (ya k)) tg body ρ) σ=_;unfold Qv;rw[b];dsimp only;rw[g];dsimp only;have hs:vv (ya k) ρ σ=.ok (Aq A) σf:=by
  show Fc (ya k ρ) Cy σ=_;rw[wm,b,qc];unfold Cy;simp only[g];rw[s]
 rw[uA,hs,jf];show Ou su _ (Xj (Aq A) tg body 1001 0 ρ σf)=_;rw[d];unfold Ou;simp only[su,ee,c];rw[e]
noncomputable def Inv(hs:List Int)(rs:List Row)(lk:Int->Int)(kw:Int->Bool):Prop:=∀ h∈hs,∃ a r b,rs=a++r::b/\r.h=h/\(∀ x∈a,x.h≠h)/\r.l=lk h/\r.b=kw h
noncomputable def Cn:Option Int->D
 |none=>.Hb
 |some y=>.int y
section
variable{d e:Int}{p q:Pt}{s0 s1:Kv}{rs:List Row}{hs:List Int}{lk:Int->Int}{kw:Int->Bool}
theorem DN(I:Inv hs rs lk kw)(j:db){h:Int}(hm:h∈hs):∃ n,gb [.ref 0,.int h] (hS d e p q s0 s1 (.va (bc 7 rs)) j rs)=.ok (.ref n) (hS d e p q s0 s1 (.va (bc 7 rs)) j rs)
  /\(∀ fs,An [(15,Bb)] 1 "looked" fs (.ref n) (hS d e p q s0 s1 (.va (bc 7 rs)) j rs)=(fs (hS d e p q s0 s1 (.va (bc 7 rs)) j rs)).bind (Ak 1 Bb (.ref n)))
  /\Bb [.ref n] (hS d e p q s0 s1 (.va (bc 7 rs)) j rs)=.ok (.int (lk h)) (hS d e p q s0 s1 (.va (bc 7 rs)) j rs)
  /\(∀ fs,An [(15,Wb)] 1 "words" fs (.ref n) (hS d e p q s0 s1 (.va (bc 7 rs)) j rs)=(fs (hS d e p q s0 s1 (.va (bc 7 rs)) j rs)).bind (Ak 1 Wb (.ref n)))
  /\Wb [.ref n] (hS d e p q s0 s1 (.va (bc 7 rs)) j rs)=.ok (.lst ((if kw h then [9]else []:List Int).map D.int)) (hS d e p q s0 s1 (.va (bc 7 rs)) j rs):=by
 obtain⟨a,r,b,rfl,c,f,g,i⟩:=I h hm;refine⟨7+7 * a.length,PM d e p q s0 s1 a b j r c f,λfs=>Fz _ _ _ _ _ _ _ _ _ _ _ _ _ _ (λ_=>rfl),?_,λfs=>Fz _ _ _ _ _ _ _ _ _ _ _ _ _ _ (λ_=>rfl),?_⟩
 ·rw[<-g];exact jP ..
 ·rw[<-i];exact E2 ..
variable(I:Inv hs rs lk kw)(hl:hs.length<100)
include I hl
theorem xR(hd:∀ h∈hs,d - lk h<=e){w:Option Int}(l:∀ y,w=some y->y<=d)(b:Ob):Re [.ref 0,.ref (7+7 * rs.length),.int e,Cn w] (hS d e p q s0 s1 (.va (bc 7 rs)) [.va (dV hs (Nd lk)),b] rs)=.ok (.bl true) (hS d e p q s0 s1 (.va (bc 7 rs)) [.va (dV hs (Nd lk)),b] rs):=by
 obtain⟨C,i,t⟩:=gM (A:=dV hs (Nd lk)) (tg:=Ed 5) (body:=DF) (σ:=hS d e p q s0 s1 (.va (bc 7 rs)) [.lb (dV hs (Nd lk)),b] rs)
  (P:=λρ=>∃ f a,ρ=[some (.ref 0),some (.ref (7+7 * rs.length)),some (.int e),some (Cn w),some (.int d),f,a]) (by rw[yy];exact hl) (λz o ρ j=>by
   obtain⟨f,a,rfl⟩:=j;obtain⟨h,hm,rfl⟩:=Dc.mp o;obtain⟨n,r,v,s,_,_⟩:=DN (d:=d) (e:=e) (p:=p) (q:=q) (s0:=s0) (s1:=s1) I [.lb (dV hs (Nd lk)),b] hm;have u:∀ fs,An [(16,gb)] 2 "keeper" fs (.ref 0) (hS d e p q s0 s1 (.va (bc 7 rs)) [.lb (dV hs (Nd lk)),b] rs)=(fs (hS d e p q s0 s1 (.va (bc 7 rs)) [.lb (dV hs (Nd lk)),b] rs)).bind (Ak 2 gb (.ref 0)):=λfs=>Sv (m:="keeper") d e p q s0 s1 _ Wf _ 2 gb fs rfl;have g:Nj (.ref (7+7 * rs.length)) (.int h) (hS d e p q s0 s1 (.va (bc 7 rs)) [.lb (dV hs (Nd lk)),b] rs)=.ok (.int (lk h)) (hS d e p q s0 s1 (.va (bc 7 rs)) [.lb (dV hs (Nd lk)),b] rs):=Lz (.inr (ju ..)) hm;have c:decide (d - lk h > e)=false:=by have:=hd h hm;simp;omega
   refine⟨[some (.ref 0),some (.ref (7+7 * rs.length)),some (.int e),some (Cn w),some (.int d),some (.int h),a],[some (.ref 0),some (.ref (7+7 * rs.length)),some (.int e),some (Cn w),some (.int d),some (.int h),some (.ref n)],rfl,?_,_,_,rfl⟩;unfold DF;generalize hS d e p q s0 s1 (.va (bc 7 rs)) [.lb (dV hs (Nd lk)),b] rs=Y at *;generalize 7+7 * rs.length=N at *;generalize Cn w=D at *;simp[u,r,v,s,g,c]) (dV hs (Nd lk)).length 0 1001 [some (.ref 0),some (.ref (7+7 * rs.length)),some (.int e),some (Cn w),some (.int d),none,none] (by omega) (by omega) ⟨none,none,rfl⟩
 obtain⟨f,a,rfl⟩:=i;have B:=NO (k:=1) (n:=7+7 * rs.length) (σ:=hS d e p q s0 s1 (.va (bc 7 rs)) [.va (dV hs (Nd lk)),b] rs) (by simp only[ui,yg]) (ju ..) (SA ..) (ju ..) (SA ..) t;have x:=IA d e p q s0 s1 (.va (bc 7 rs)) [.va (dV hs (Nd lk)),b] rs 0 (ρ:=[some (.ref 0),some (.ref (7+7 * rs.length)),some (.int e),some (Cn w),none,none,none]) (yg ..);unfold Re mI;generalize hS d e p q s0 s1 (.va (bc 7 rs)) [.va (dV hs (Nd lk)),b] rs=Y at *;generalize 7+7 * rs.length=N at *;rw[Jk,yes,Ip];show Xf Y (Ai (wc _ _ [some (.ref 0),some (.ref N),some (.int e),some (Cn w),none,none,none] Y))=_;rw[Ff,yo,x,jf,jo,qc,Cf];show Xf Y (Ai (wc _ _ [some (.ref 0),some (.ref N),some (.int e),some (Cn w),some (.int d),none,none] Y))=_;rw[Ff,B,qc,Cf];cases w with
 |none=>simp[Cn]
 |some y=>
  have c:decide (d ≥ y)=true:=by have:=l y rfl;simpa using this
  simp[Cn,c]
theorem HY(a:Ob):Gc [.ref 0,.ref (7+7 * rs.length+1)] (hS d e p q s0 s1 (.va (bc 7 rs)) [a,.va (dV hs (ig kw))] rs)=.ok (.bl true) (hS d e p q s0 s1 (.va (bc 7 rs)) [a,.va (dV hs (ig kw))] rs):=by
 obtain⟨w,f,r⟩:=gM (A:=dV hs (ig kw)) (tg:=Ed 2) (body:=CH) (σ:=hS d e p q s0 s1 (.va (bc 7 rs)) [a,.lb (dV hs (ig kw))] rs)
  (P:=λc=>∃ b,c=[some (.ref 0),some (.ref (7+7 * rs.length+1)),b]) (by rw[yy];exact hl) (λz j c i=>by
   obtain⟨b,rfl⟩:=i;obtain⟨h,hm,rfl⟩:=Dc.mp j;obtain⟨n,l,_,_,t,o⟩:=DN (d:=d) (e:=e) (p:=p) (q:=q) (s0:=s0) (s1:=s1) I [a,.lb (dV hs (ig kw))] hm;have s:∀ fs,An [(16,gb)] 2 "keeper" fs (.ref 0) (hS d e p q s0 s1 (.va (bc 7 rs)) [a,.lb (dV hs (ig kw))] rs)=(fs (hS d e p q s0 s1 (.va (bc 7 rs)) [a,.lb (dV hs (ig kw))] rs)).bind (Ak 2 gb (.ref 0)):=λfs=>Sv (m:="keeper") d e p q s0 s1 _ Wf _ 2 gb fs rfl;have g:Nj (.ref (7+7 * rs.length+1)) (.int h) (hS d e p q s0 s1 (.va (bc 7 rs)) [a,.lb (dV hs (ig kw))] rs)=.ok (.bl (kw h)) (hS d e p q s0 s1 (.va (bc 7 rs)) [a,.lb (dV hs (ig kw))] rs):=Lz (.inr (Pw ..)) hm;refine⟨[some (.ref 0),some (.ref (7+7 * rs.length+1)),some (.int h)],[some (.ref 0),some (.ref (7+7 * rs.length+1)),some (.int h)],rfl,?_,_,rfl⟩;have u:∀ σ,bx false (.int 9) (.lst ((if kw h then [9]else []:List Int).map D.int)) σ=.ok (.bl (kw h)) σ:=λσ=>by
    rw[CO (ws:=(if kw h then [9]else []:List Int)) rfl];cases kw h<;>rfl
   unfold CH;generalize D.lst ((if kw h then [9]else []:List Int).map D.int)=L at *;generalize hS d e p q s0 s1 (.va (bc 7 rs)) [a,.lb (dV hs (ig kw))] rs=Y at *;generalize 7+7 * rs.length+1=N at *;simp[s,l,t,o,g,u]) (dV hs (ig kw)).length 0 1001 [some (.ref 0),some (.ref (7+7 * rs.length+1)),none] (by omega) (by omega) ⟨none,rfl⟩
 obtain⟨b,rfl⟩:=f;have v:=NO (k:=1) (n:=7+7 * rs.length+1) (σ:=hS d e p q s0 s1 (.va (bc 7 rs)) [a,.va (dV hs (ig kw))] rs) (by simp only[ui,yg]) (Pw ..) (aA ..) (Pw ..) (aA ..) r;unfold Gc OI;generalize hS d e p q s0 s1 (.va (bc 7 rs)) [a,.va (dV hs (ig kw))] rs=Y at *;generalize 7+7 * rs.length+1=N at *;rw[Jk,yes,Ip];show Xf Y (Ai (wc _ _ [some (.ref 0),some (.ref N),none] Y))=_;rw[Ff,v,qc,Cf];simp
end
noncomputable def Dm(hs:List Int)(lk:Int->Int):D:=.va (hs.map λh=>(.inl h:Key)) (hs.map (Nd lk))
theorem n0(lk:Int->Int){hs:List Int}{h:Int}(hm:h∈hs)(σ:db):Nj (Dm hs lk) (.int h) σ=.ok (.int (lk h)) σ:=by
 have z:(hs.map λh=>(.inl h:Key)).zip (hs.map (Nd lk))=dV hs (Nd lk):=by unfold dV;rw[List.zip_map']
 have c:qh σ (Dm hs lk)=some (dV hs (Nd lk)):=by unfold Dm qh;dsimp only;rw[da (by simp),z]
 unfold Nj;simp only[qm,c,YC (Nd lk) hm];rfl
noncomputable abbrev Xh(ns hs:List Int)(b:Option D)(e:Int)(m:Nat)(c:Option D)(w:Option Int)(d a:Option D):Ev:=[some (.Pi ns),b,some (.lst (hs.map D.int)),some (.int e),some (.ref 0),some (.ref (7+7 * m)),some (.ref (7+7 * m+1)),c,some (Cn w),d,a]
noncomputable def px(lk a:Int->Int)(w:Option Int)(kw:Int->Bool)(h:Int):Int->Bool:=if lk h≠a h/\w.isSome=true then upd kw h true else kw
noncomputable def bq(lk a:Int->Int)(w:Option Int)(ks:List Int)(kw:Int->Bool):Int->Bool:=ks.foldl (px lk a w) kw
theorem L0(lk a:Int->Int)(w:Option Int)(kw:Int->Bool)(h z:Int):px lk a w kw h z=if z=h/\lk z≠a z/\w.isSome=true then true else kw z:=by
 unfold px;by_cases c:lk h≠a h/\w.isSome=true
 ·rw[da c];unfold upd;by_cases y:z=h
  ·subst y;rw[da rfl,da ⟨rfl,c⟩]
  ·rw[ga y,ga λx=>y x.1]
 ·rw[ga c,ga λx=>c (by rw[<-x.1];exact x.2)]
theorem vD(lk a:Int->Int)(w:Option Int)(z:Int):∀ (ks:List Int) (kw:Int->Bool),bq lk a w ks kw z=if z∈ks/\lk z≠a z/\w.isSome=true then true else kw z
 |[],kw=>by rw[ga (by simp)];rfl
 |h::ks,kw=>by
  show bq lk a w ks (px lk a w kw h) z=_;rw[vD lk a w z ks,L0];by_cases c:lk z≠a z/\w.isSome=true
  ·by_cases y:z=h
   ·rw[da (⟨y,c⟩:z=h/\_),da (⟨by rw[y];exact Ba ..,c⟩:z∈h::ks/\_)];split<;>rfl
   ·rw[ga (λx=>y x.1:¬ (z=h/\_))];by_cases m:z∈ks
    ·rw[da ⟨m,c⟩,da ⟨wa _ m,c⟩]
    ·rw[ga λx=>m x.1,ga λx=>m ((Ca.mp x.1).resolve_left y)]
  ·rw[ga λx=>c x.2,ga λx=>c x.2,ga λx=>c x.2]
section
variable(d e:Int)(p q:Pt)(s0 s1:Kv)(ko:Ob)(rs:List Row){hs:List Int}(hl:hs.length<100)(lk lk0:Int->Int)(w:Option Int)(ns:List Int)(x1 x9:Option D)
include hl
theorem W1(kw:Int->Bool){h:Int}(hm:h∈hs):lF (Xh ns hs x1 e rs.length (some (.int h)) w x9 (some (Dm hs lk0))) (hS d e p q s0 s1 ko [.va (dV hs (Nd lk)),.va (dV hs (ig kw))] rs)=.ok (.nx (Xh ns hs x1 e rs.length (some (.int h)) w x9 (some (Dm hs lk0)))) (hS d e p q s0 s1 ko [.va (dV hs (Nd lk)),.va (dV hs (ig (px lk lk0 w kw h)))] rs):=by
 have g:Nj (.ref (7+7 * rs.length)) (.int h) (hS d e p q s0 s1 ko [.va (dV hs (Nd lk)),.va (dV hs (ig kw))] rs)=.ok (.int (lk h)) (hS d e p q s0 s1 ko [.va (dV hs (Nd lk)),.va (dV hs (ig kw))] rs):=Lz (.inl (ju ..)) hm;have g2:=λi=>n0 lk0 hm i;have b:=λf=>kD (Pw d e p q s0 s1 ko rs (.va (dV hs (Nd lk))) (.va (dV hs (ig kw)))) hl hm f (.bl true);rw[aA,XI]at b;unfold lF Xh px;generalize D.lst (hs.map D.int)=k at *;generalize Dm hs lk0=j at *;by_cases c:lk h=lk0 h
 ·rw[ga λx=>x.1 c];have a:(lk h == lk0 h)=true:=by simpa using c
  generalize hS d e p q s0 s1 ko [.va (dV hs (Nd lk)),.va (dV hs (ig kw))] rs=Y at *;generalize 7+7 * rs.length=N at *;simp[g,g2,a]
 ·have a:(lk h == lk0 h)=false:=by simpa using c
  cases w with
  |none=>
   rw[ga λx=>by cases x.2];generalize hS d e p q s0 s1 ko [.va (dV hs (Nd lk)),.va (dV hs (ig kw))] rs=Y at *;generalize 7+7 * rs.length=N at *;simp[g,g2,a,Cn]
  |some y=>
   rw[da ⟨c,rfl⟩];generalize hS d e p q s0 s1 ko [.va (dV hs (Nd lk)),.va (dV hs (ig (upd kw h true)))] rs=l at *;generalize hS d e p q s0 s1 ko [.va (dV hs (Nd lk)),.va (dV hs (ig kw))] rs=Y at *;generalize 7+7 * rs.length=N at *;simp[g,g2,a,Cn,b]
theorem zL:∀ (ks:List Int) (kw:Int->Bool) (a:Option D),(∀ h∈ks,h∈hs)->∃ b,Uk (Ed 7) lF (ks.map D.int) (Xh ns hs x1 e rs.length a w x9 (some (Dm hs lk0))) (hS d e p q s0 s1 ko [.va (dV hs (Nd lk)),.va (dV hs (ig kw))] rs)=.ok (.nx (Xh ns hs x1 e rs.length b w x9 (some (Dm hs lk0)))) (hS d e p q s0 s1 ko [.va (dV hs (Nd lk)),.va (dV hs (ig (bq lk lk0 w ks kw)))] rs)
 |[],kw,a,_=>⟨a,by rw[Vd,vy];rfl⟩
 |h::ks,kw,a,hm=>by
  have g:=W1 d e p q s0 s1 ko rs hl lk lk0 w ns x1 x9 kw (hm h (Ba ..));obtain⟨b,f⟩:=zL ks (px lk lk0 w kw h) (some (.int h)) (λz c=>hm z (wa _ c));refine⟨b,?_⟩;rw[za,cu];simp only[Xh,Na,Oa];rw[g,qc,vm,f];rfl
end
theorem tE(d e:Int)(p q:Pt)(s0 s1:Kv)(rs:List Row){hs:List Int}(b:hs.length<100)(lk a:Int->Int)(kw:Int->Bool)(w:Option Int)(ns:List Int)(c i f:Option D)(I:Inv hs rs lk (bq lk a w hs kw))(hd:∀ h∈hs,d - lk h<=e)(j:∀ y,w=some y->y<=d) :
  ∃ g,wc (Cp (Gi (ya 2)) (Ed 7) lF) lE (Xh ns hs c e rs.length i w f (some (Dm hs a))) (hS d e p q s0 s1 (.va (bc 7 rs)) [.va (dV hs (Nd lk)),.va (dV hs (ig kw))] rs)=.ok (.nx (Xh ns hs c e rs.length g w f (some (Dm hs a)))) (hS d e p q s0 s1 (.va (bc 7 rs)) [.va (dV hs (Nd lk)),.va (dV hs (ig (bq lk a w hs kw)))] rs):=by
 obtain⟨g,k⟩:=zL d e p q s0 s1 (.va (bc 7 rs)) rs b lk a w ns c f hs kw i (λ_ h=>h);refine⟨g,?_⟩;have l:=xR (d:=d) (e:=e) (p:=p) (q:=q) (s0:=s0) (s1:=s1) I b hd j (.va (dV hs (ig (bq lk a w hs kw))));have m:=HY (d:=d) (e:=e) (p:=p) (q:=q) (s0:=s0) (s1:=s1) I b (.va (dV hs (Nd lk)));rw[Ff,Ov,Sw];simp only[Xh,ui,yg,qc,Nw,jf,Hw];rw[k,qc,Cf];unfold lE Xh;generalize hS d e p q s0 s1 (.va (bc 7 rs)) [.va (dV hs (Nd lk)),.va (dV hs (ig (bq lk a w hs kw)))] rs=Y at *;generalize D.lst (hs.map D.int)=o at *;generalize Dm hs a=n at *;generalize 7+7 * rs.length=N at *;generalize Cn w=r at *;simp[l,m]
noncomputable abbrev lS(d e:Int)(p q:Pt)(s0 s1:Kv)(rs:List Row)(hs:List Int)(lk:Int->Int)(kw:Int->Bool):db:=hS d e p q s0 s1 (.va (bc 7 rs)) [.va (dV hs (Nd lk)),.va (dV hs (ig kw))] rs
theorem Oq{σ:db}(fn:List D->M D)(x a b:D):Ak 3 fn x [a,b] σ=fn [x,a,b] σ:=Qz rfl
section
variable(d e:Int)(p q:Pt){s0 s1:Kv}{w:Option Int}(W:Sh s0 s1 w){rs:List Row}(hR:∀ r∈rs,Kr 4 r.A r.C r.S)(hr:rs.length<100){hs:List Int}(hl:hs.length<100){lk:Int->Int}{kw:Int->Bool}(ns:List Int)(x1 x7 x10:Option D){k z:Int}(hz:∀ σ,Oe (.Pi ns) (.int k) σ=.ok (.int z) σ)
include hz
theorem cZ:∃ a b,Sh a b (some d)/\lA (Xh ns hs x1 e rs.length x7 none (some (.int k)) x10) (lS d e p q [] [] rs hs lk kw)=.ok (.nx (Xh ns hs x1 e rs.length x7 (some d) (some (.int k)) x10)) (lS d e p q a b rs hs lk kw):=by
 obtain⟨a,b,S,sh⟩:=KY d e p q (.va (bc 7 rs)) (dh e 7 rs++[.va (dV hs (Nd lk)),.va (dV hs (ig kw))]) (i:=z / 8 % 2) (by omega);refine⟨a,b,S,?_⟩;have sh:Lc [.ref 0,.int (z / 8 % 2),.int 9] (lS d e p q [] [] rs hs lk kw)=.ok .Hb (lS d e p q a b rs hs lk kw):=sh;have m:∀ fs,An [(16,Lc)] 3 "show" fs (.ref 0) (lS d e p q [] [] rs hs lk kw)=(fs (lS d e p q [] [] rs hs lk kw)).bind (Ak 3 Lc (.ref 0)):=λfs=>Sv (m:="show") d e p q [] [] _ Wf _ 3 Lc fs rfl;have t:Df [(9,eb)] 1 "today" (Df [(16,Db)] 1 "book" (ya 4) Ab) Ab (Xh ns hs x1 e rs.length x7 none (some (.int k)) x10) (lS d e p q a b rs hs lk kw)=.ok (.int d) (lS d e p q a b rs hs lk kw):=IA d e p q a b _ _ rs 4 (by simp only[Xh,ui,yg]);unfold lA;unfold Xh at t ⊢;generalize lS d e p q [] [] rs hs lk kw=Y at *;generalize lS d e p q a b rs hs lk kw=f at *;generalize D.lst (hs.map D.int)=c at *;generalize 7+7 * rs.length=N at *;rw[Ff];simp only[NA,sG,ku,Xt,ui,yg,qc,m,So,hz,ww,Zq,GD _ 8 (by decide) (by decide),bC _ 2 (by decide),ap,Ck,Oo,Oq,sh,xW,lG,jf,yA,UH,Cf];rw[yo,t,jf,jo];rfl
include W hR hr hl
theorem GZ(nd:hs.Nodup):∃ a,Jq d e w rs a/\lB (Xh ns hs x1 e rs.length x7 w (some (.int k)) x10) (lS d e p q s0 s1 rs hs lk kw)=.ok (.nx (Xh ns hs x1 e rs.length x7 w (some (.int k)) x10)) (lS (d+1) e p q s0 s1 a hs (Am d e hs lk) kw):=by
 obtain⟨a,F,nx⟩:=WX d (e:=e) p q W rfl hR hr hl nd lk (.va (dV hs (ig kw)));refine⟨a,F,?_⟩;rw[EA 7 rs a F.hs.symm]at nx;have nx:Ie [.ref 0,.ref (7+7 * rs.length),.int e] (lS d e p q s0 s1 rs hs lk kw)=.ok (.bl true) (lS (d+1) e p q s0 s1 a hs (Am d e hs lk) kw):=by
  have e1:lS d e p q s0 s1 rs hs lk kw=hS d e p q s0 s1 (.va (bc 7 a)) [.va (dV hs (Nd lk)),.va (dV hs (ig kw))] rs:=by unfold lS;rw[EA 7 rs a F.hs.symm]
  rw[e1];exact nx
 unfold lB Xh;generalize lS d e p q s0 s1 rs hs lk kw=Y at *;generalize lS (d+1) e p q s0 s1 a hs (Am d e hs lk) kw=c at *;generalize D.lst (hs.map D.int)=b at *;generalize 7+7 * rs.length=N at *;simp[nx]
omit hr in
theorem eQ(I:Inv hs rs lk kw)(h0:0<hs.length):∃ h a r b c S',h∈hs/\rs=a++r::b/\r.h=h/\r.b=kw h/\(∀ x∈a,x.h≠h)/\Kr 4 r.A c S'/\lC (Xh ns hs x1 e rs.length x7 w (some (.int k)) x10) (lS d e p q s0 s1 rs hs lk kw)=.ok (.nx (Xh ns hs x1 e rs.length (some (.int h)) w (some (.int k)) x10)) (lS d e p q s0 s1 (a++⟨r.h,d,r.b || w.isSome,r.A,c,S'⟩::b) hs (upd lk h d) (upd kw h (kw h || w.isSome))):=by
 have l:0<(hs.length:Int):=by omega
 have H:∀ σ,Oe (.lst (hs.map D.int)) (.int (z / 8 % (hs.length:Int))) σ=.ok (.int (hs.getD (z / 8 % (hs.length:Int)).toNat 0)) σ:=λσ=>iC (MM (gw _ (by omega)) (Ot _ l));have hm:hs.getD (z / 8 % (hs.length:Int)).toNat 0∈hs:=by
  have v:(z / 8 % (hs.length:Int)).toNat<hs.length:=by have:=gw (z / 8) (show (hs.length:Int)≠0 by omega);have:=Ot (z / 8) l;omega
  rw[Dd,jb v];exact re v
 generalize hs.getD (z / 8 % (hs.length:Int)).toNat 0=h at *;obtain⟨a,r,b,rfl,s,u,S,F⟩:=I h hm;obtain⟨c,S',C,n⟩:=VS d e p q s0 s1 a b [.va (dV hs (Nd (upd lk h d))),.va (dV hs (ig kw))] r W (hR r (by simp)) s u;refine⟨h,a,r,b,c,S',hm,rfl,s,F,u,C,?_⟩;have J:bc 7 (a++r::b)=bc 7 (a++⟨r.h,d,r.b || w.isSome,r.A,c,S'⟩::b):=EA _ _ _ (by simp);have y:(a++r::b).length=(a++(⟨r.h,d,r.b || w.isSome,r.A,c,S'⟩:Row)::b).length:=by simp
 have o:Kc [.ref 0,.int h] (lS d e p q s0 s1 (a++r::b) hs (upd lk h d) kw)=.ok (.lst []) (lS d e p q s0 s1 (a++⟨r.h,d,r.b || w.isSome,r.A,c,S'⟩::b) hs (upd lk h d) kw):=by
  unfold lS;rw[<-J];exact n
 have j:=λi=>kD (ju d e p q s0 s1 (.va (bc 7 (a++r::b))) (a++r::b) (.va (dV hs (Nd lk))) (.va (dV hs (ig kw)))) hl hm i (.int d);rw[SA,aK]at j;have j:∀ i,Wp i (.int d) (.ref (7+7 * (a++r::b).length)) (.int h) (lS d e p q s0 s1 (a++r::b) hs lk kw)=.ok (.nx i) (lS d e p q s0 s1 (a++r::b) hs (upd lk h d) kw):=j;have t:Df [(9,eb)] 1 "today" (Df [(16,Db)] 1 "book" (ya 4) Ab) Ab (Xh ns hs x1 e (a++r::b).length (some (.int h)) w (some (.int k)) x10) (lS d e p q s0 s1 (a++r::b) hs lk kw)=.ok (.int d) (lS d e p q s0 s1 (a++r::b) hs lk kw):=IA d e p q s0 s1 _ _ _ 4 (by simp only[Xh,ui,yg]);have m:∀ fs,An [(16,Kc)] 2 "look" fs (.ref 0) (lS d e p q s0 s1 (a++r::b) hs (upd lk h d) kw)=(fs (lS d e p q s0 s1 (a++r::b) hs (upd lk h d) kw)).bind (Ak 2 Kc (.ref 0)):=λfs=>Sv (m:="look") d e p q s0 s1 _ Wf _ 2 Kc fs rfl;have g:Nj (.ref (7+7 * (a++r::b).length+1)) (.int h) (lS d e p q s0 s1 (a++⟨r.h,d,r.b || w.isSome,r.A,c,S'⟩::b) hs (upd lk h d) kw)=.ok (.bl (kw h)) (lS d e p q s0 s1 (a++⟨r.h,d,r.b || w.isSome,r.A,c,S'⟩::b) hs (upd lk h d) kw):=by
  rw[y];exact Lz (.inl (Pw ..)) hm
 have f:=λi x=>kD (Pw d e p q s0 s1 (.va (bc 7 (a++(⟨r.h,d,r.b || w.isSome,r.A,c,S'⟩:Row)::b))) (a++⟨r.h,d,r.b || w.isSome,r.A,c,S'⟩::b) (.va (dV hs (Nd (upd lk h d)))) (.va (dV hs (ig kw)))) hl hm i (.bl x);simp only[aA,XI]at f;have f:∀ i x,Wp i (.bl x) (.ref (7+7 * (a++r::b).length+1)) (.int h) (lS d e p q s0 s1 (a++⟨r.h,d,r.b || w.isSome,r.A,c,S'⟩::b) hs (upd lk h d) kw)=.ok (.nx i) (lS d e p q s0 s1 (a++⟨r.h,d,r.b || w.isSome,r.A,c,S'⟩::b) hs (upd lk h d) (upd kw h x)):=by
  rw[y];exact f
 have L:∀ σ,mw (Cn w) .Hb σ=.ok (.bl w.isSome) σ:=λσ=>by cases w<;>exact nr rfl
 have K:∀ σ,Ao [.lst (hs.map D.int)] σ=.ok (.int hs.length) σ:=λσ=>by rw[OQ,Ta]
 have f:=λi=>f i (kw h || w.isSome);unfold lC;unfold Xh at t ⊢;generalize lS d e p q s0 s1 (a++⟨r.h,d,r.b || w.isSome,r.A,c,S'⟩::b) hs (upd lk h d) (upd kw h (kw h || w.isSome))=R at *;generalize lS d e p q s0 s1 (a++⟨r.h,d,r.b || w.isSome,r.A,c,S'⟩::b) hs (upd lk h d) kw=Q at *;generalize lS d e p q s0 s1 (a++r::b) hs (upd lk h d) kw=P at *;generalize lS d e p q s0 s1 (a++r::b) hs lk kw=Y at *;generalize D.lst (hs.map D.int)=M at *;generalize 7+7 * (a++r::b).length=N at *;generalize Cn w=O at *;generalize (hs.length:Int)=B at *;rw[Ff];simp only[yo,ku,ui,yg,qc,ww,hz,Zq,GD _ 8 (by decide) (by decide),jD,So,ap,Ck,Oo,K,bC _ B l,H,jf,jo,Cf,Na,Oa];rw[Ff,yE,t,jf];simp only[MJ,XO,ui,yg,jf,j,qc,Cf];have E:∀ σ,iq (.lst []) (.lst []) σ=.ok (.bl false) σ:=λσ=>rE (show Vp σ 8 (.lst []) (.lst [])=some true from rfl);cases G:kw h<;>simp only[G,Sy,qg]at g f<;>simp[m,o,E,g,L,f]
end
structure LI(hs ks:List Int)(e d:Int)(w:Option Int)(s0 s1:Kv)(rs:List Row)(lk:Int->Int)(kw:Int->Bool):Prop where
 sh:Sh s0 s1 w
 hd:rs.map Row.h=ks
 kr:∀ r∈rs,Kr 4 r.A r.C r.S
 rw:∀ r∈rs,r.l=lk r.h/\r.b=kw r.h
 le:∀ h∈hs,d - lk h<=e
 wd:∀ y,w=some y->y<=d
theorem VM{h:Int}:∀ {rs:List Row},h∈rs.map Row.h->∃ a r b,rs=a++r::b/\r.h=h/\∀ x∈a,x.h≠h
 |x::rs,hm=>by
  by_cases y:x.h=h
  ·exact⟨[],x,rs,rfl,y,λ_ z=>by cases z⟩
  ·rw[za]at hm;obtain⟨a,r,b,e1,d,e⟩:=VM ((Ca.mp hm).resolve_left λz=>y z.symm);exact⟨x::a,r,b,by rw[e1];rfl,d,λz c=>by
    rcases Ca.mp c with rfl|c
    ·exact y
    ·exact e z c⟩
section
variable{hs ks:List Int}{e d:Int}{w:Option Int}{s0 s1:Kv}{rs:List Row}{lk:Int->Int}{kw:Int->Bool}(L:LI hs ks e d w s0 s1 rs lk kw)(sub:∀ h,h∈hs ↔ h∈ks)(nd:ks.Nodup)
include L sub
theorem LI.inv:Inv hs rs lk kw:=λh hm=>by
 obtain⟨a,r,b,e1,c,d⟩:=VM (rs:=rs) (h:=h) (by rw[L.hd];exact(sub h).mp hm);have:=L.rw r (by rw[e1];simp);exact⟨a,r,b,e1,c,d,by rw[<-c];exact this.1,by rw[<-c];exact this.2⟩
theorem LI.mem{r:Row}(a:r∈rs):r.h∈hs:=(sub _).mpr (by rw[<-L.hd];exact Dc.mpr ⟨r,a,rfl⟩)
omit L sub in
theorem Jq.all{d e:Int}{w:Option Int}{P:Row->Prop}:∀ {a b:List Row},Jq d e w a b->(∀ r∈a,∀ f,Nx d e w r f->P f)->∀ f∈b,P f
 |_,_,.nil,_=>λr c=>by cases c
 |_,_,.cons n t,h=>λr c=>by
  rcases Ca.mp c with rfl|c
  ·exact h _ (Ba ..) _ n
  ·exact t.all (λr c=>h r (wa _ c)) r c
theorem LI.next(o:1<=e){a:List Row}(F:Jq d e w rs a):LI hs ks e (d+1) w s0 s1 a (Am d e hs lk) (bq (Am d e hs lk) lk w hs kw) where
 sh:=L.sh
 hd:=by rw[F.hs,L.hd]
 kr:=F.all λr b m n=>n.2.1
 rw:=F.all λr b m n=>by
  obtain⟨j,_,k,l⟩:=n;obtain⟨g,i⟩:=L.rw r b;have hm:=L.mem sub b;rw[j,k,l,vD];unfold Am;rw[g,i];by_cases c:e<=d - lk r.h
  ·rw[da c,da c,da ⟨hm,c⟩];refine⟨rfl,?_⟩;cases w with
   |none=>rw[ga λx=>by cases x.2.2];simp
   |some y=>rw[da ⟨hm,by omega,rfl⟩];simp
  ·rw[ga c,ga c,ga λx=>c x.2];exact⟨rfl,by rw[ga λx=>x.2.1 rfl]⟩
 le:=λh hm=>by
  have:=L.le h hm;unfold Am;by_cases c:e<=d - lk h
  ·rw[da ⟨hm,c⟩];omega
  ·rw[ga λx=>c x.2];omega
 wd:=λy f=>by have:=L.wd y f;omega
include nd
theorem LI.look{h:Int}(hm:h∈hs){a b:List Row}{r:Row}(e1:rs=a++r::b)(l:r.h=h)(o:r.b=kw h){i S':Kv}(R:Kr 4 r.A i S')(B:1<=e):LI hs ks e d w s0 s1 (a++⟨r.h,d,r.b || w.isSome,r.A,i,S'⟩::b) (upd lk h d) (bq (upd lk h d) lk w hs (upd kw h (kw h || w.isSome))):=by
 subst e1;have k:∀ x:Row,x∈a\/x∈b->x.h≠h:=λx f z=>by
  have j:=nd;rw[<-L.hd,im,za,l]at j;rw[Zj]at j;obtain⟨_,t,u⟩:=j;obtain⟨v,_⟩:=gd.mp t;rcases f with f|f
  ·exact u h (Dc.mpr ⟨x,f,z⟩) h (Ba ..) rfl
  ·exact v (Dc.mpr ⟨x,f,z⟩)
 have m:∀ x:Row,x∈a\/x∈b->x∈a++r::b:=λx f=>by
  rcases f with f|f
  ·exact Pa _ f
  ·exact vb _ (wa _ f)
 have g:∀ x,x∈a++(⟨r.h,d,r.b || w.isSome,r.A,i,S'⟩:Row)::b->x=⟨r.h,d,r.b || w.isSome,r.A,i,S'⟩\/(x∈a\/x∈b):=λx f=>by
  rcases Pd.mp f with y|y
  ·exact .inr (.inl y)
  ·rcases Ca.mp y with y|y
   ·exact .inl y
   ·exact .inr (.inr y)
 refine⟨L.sh,by rw[<-L.hd];simp,λx f=>?_,λx f=>?_,λz p=>?_,L.wd⟩
 ·rcases g x f with rfl|y
  ·exact R
  ·exact L.kr x (m x y)
 ·rw[vD];rcases g x f with rfl|y
  ·show d=upd lk h d r.h/\(r.b || w.isSome)=_;rw[l,o];unfold upd;rw[da rfl,da rfl];refine⟨rfl,?_⟩;split
   ·rename_i c;rw[c.2.2];simp
   ·rfl
  ·have n:=k x y;obtain⟨q,s⟩:=L.rw x (m x y);unfold upd;rw[ga n,ga n,q,s];exact⟨rfl,by rw[ga λc=>c.2.1 rfl]⟩
 ·have:=L.le z p;unfold upd;split<;>omega
omit nd in
theorem LI.show{a b:Kv}(S:Sh a b (some d)):LI hs ks e d (some d) a b rs lk (bq lk lk (some d) hs kw) where
 sh:=S
 hd:=L.hd
 kr:=L.kr
 rw:=λr g=>by rw[vD,ga λc=>c.2.1 rfl];exact L.rw r g
 le:=L.le
 wd:=λy f=>by injection f with f;omega
end
structure Fx(hs ks:List Int)(e:Int):Prop where
 sub:∀ h,h∈hs ↔ h∈ks
 nk:ks.Nodup
 nh:hs.Nodup
 lh:hs.length<64
 lk:ks.length<64
 h0:0<hs.length
 e1:1<=e
 IS:e<=12
 k3:∀ h∈ks,h≠3
theorem ZF{hs ks:List Int}{e:Int}(X:Fx hs ks e){d:Int}{w:Option Int}{s0 s1:Kv}{rs:List Row}{lk:Int->Int}{kw:Int->Bool}(L:LI hs ks e d w s0 s1 rs lk kw)(p q:Pt)(ns:List Int)(f i B:Option D){k z:Int}(hz:∀ σ,Oe (.Pi ns) (.int k) σ=.ok (.int z) σ) :
  ∃ d' H l m j x v t G,LI hs ks e d' H l m j x v/\Wx (Xh ns hs f e ks.length i w (some (.int k)) B) (lS d e p q s0 s1 rs hs lk kw)=.ok (.nx (Xh ns hs f e ks.length t H (some (.int k)) G)) (lS d' e p q l m j hs x v):=by
 have C:∀ {rs:List Row},rs.map Row.h=ks->rs.length=ks.length:=λh=>by rw[<-h,Ta]
 have u:hs.length<100:=Tf X.lh (by decide);have A:=C L.hd;have P:rs.length<100:=by rw[A];exact Tf X.lk (by decide)
 have cp:Nu [.ref (7+7 * ks.length)] (lS d e p q s0 s1 rs hs lk kw)=.ok (Dm hs lk) (lS d e p q s0 s1 rs hs lk kw):=by
  have g:=ju d e p q s0 s1 (.va (bc 7 rs)) rs (.va (dV hs (Nd lk))) (.va (dV hs (ig kw)));rw[A]at g;have c:qh (lS d e p q s0 s1 rs hs lk kw) (.ref (7+7 * ks.length))=some (dV hs (Nd lk)):=by unfold qh;simp only[g]
  unfold Nu;simp only[c];unfold dV Dm;rw[Mg,Mg];rfl
 have hd:Wx (Xh ns hs f e ks.length i w (some (.int k)) B) (lS d e p q s0 s1 rs hs lk kw)=(Ih cA lA (Ih cB lB lC) (Xh ns hs f e ks.length i w (some (.int k)) (some (Dm hs lk))) (lS d e p q s0 s1 rs hs lk kw)).bind (VA (wc (Cp (Gi (ya 2)) (Ed 7) lF) lE)):=by
  unfold Wx Xh;rw[Ff];simp only[yo,jD,So,ui,yg,qc,ap,Ck,Oo,cp,jf,jo,Cf,Na,Oa];rw[Ff]
 rw[hd];have ca:∀ σ,cA (Xh ns hs f e ks.length i w (some (.int k)) (some (Dm hs lk))) σ=.ok (!w.isSome && (z % 8 == 7)) σ:=λσ=>by
  unfold cA Xh;generalize Dm hs lk=I at *;generalize D.lst (hs.map D.int)=J at *;cases w with
  |none=>simp[Cn,hz]
  |some y=>simp[Cn]
 have M:∀ σ,cB (Xh ns hs f e ks.length i w (some (.int k)) (some (Dm hs lk))) σ=.ok (decide (z % 8<6)) σ:=λσ=>by
  unfold cB Xh;generalize Dm hs lk=I at *;generalize D.lst (hs.map D.int)=J at *;simp[hz]
 rw[NA,ca,jf];cases K:(!w.isSome && (z % 8 == 7))
 ·rw[yA,NA,M,jf];cases U:decide (z % 8<6)
  ·rw[yA];obtain⟨h,a,r,b,Q,T,hm,e1,N,O,V,R,n⟩:=eQ d e p q L.sh L.kr u ns f i (some (Dm hs lk)) hz (L.inv X.sub) X.h0;have L2:=L.look X.sub X.nk hm e1 N O R X.e1;have s:=C L2.hd;obtain⟨t,o⟩:=tE d e p q s0 s1 _ u _ lk _ w ns f (some (.int h)) (some (.int k)) (L2.inv X.sub) L2.le L2.wd;rw[s]at o;rw[A]at n;exact⟨_,_,_,_,_,_,_,t,_,L2,by rw[n,qc,Cf,o]⟩
  ·rw[tM];obtain⟨j,F,n⟩:=GZ d e p q L.sh L.kr P u ns f i (some (Dm hs lk)) hz X.nh (kw:=kw);have L2:=L.next X.sub X.e1 F;have s:=C L2.hd;obtain⟨t,o⟩:=tE (d+1) e p q s0 s1 j u (Am d e hs lk) lk kw w ns f i (some (.int k)) (L2.inv X.sub) L2.le L2.wd;rw[s]at o;rw[A]at n;exact⟨_,_,_,_,_,_,_,t,_,L2,by rw[n,qc,Cf,o]⟩
 ·rw[tM];cases w with
  |some y=>cases K
  |none=>
   have E:s0=[]/\s1=[]:=by cases L.sh;exact⟨rfl,rfl⟩
   obtain⟨rfl,rfl⟩:=E;obtain⟨l,m,S,n⟩:=cZ d e p q ns f i (some (Dm hs lk)) hz (rs:=rs) (hs:=hs) (lk:=lk) (kw:=kw);have L2:=L.show X.sub S;obtain⟨t,o⟩:=tE d e p q l m rs u lk lk kw (some d) ns f i (some (.int k)) (L2.inv X.sub) L2.le L2.wd;rw[A]at n o;exact⟨_,_,_,_,_,_,_,t,_,L2,by rw[n,qc,Cf,o]⟩
theorem turns{hs ks:List Int}{e:Int}(X:Fx hs ks e)(p q:Pt)(ns:List Int)(f:Option D):∀ (c:List Int),(∀ k∈c,0<=k/\k<ns.length)->∀ {d:Int} {w:Option Int} {s0 s1:Kv} {rs:List Row} {lk:Int->Int} {kw:Int->Bool} (b g a:Option D),LI hs ks e d w s0 s1 rs lk kw->∃ ρ σ,Uk (Ed 9) Wx (c.map D.int) (Xh ns hs f e ks.length b w g a) (lS d e p q s0 s1 rs hs lk kw)=.ok (.nx ρ) σ
 |[],_,d,w,s0,s1,rs,lk,kw,b,g,a,_=>⟨_,_,by rw[Vd,vy]⟩
 |k::c,i,d,w,s0,s1,rs,lk,kw,b,g,a,L=>by
  obtain⟨m,n⟩:=i k (Ba ..);obtain⟨A,B,u,v,t,r,o,y,h,j,x⟩:=ZF X L p q ns f b a (k:=k) (λσ=>uO m n);obtain⟨ρ,σ,s⟩:=turns X p q ns f c (λz l=>i z (wa _ l)) y (some (.int k)) h j;refine⟨ρ,σ,?_⟩;rw[za,cu];simp only[Xh,Na,Oa];rw[x,qc,vm,s]
noncomputable def wE(ns:List Int)(k:Nat):Int:=ns.getD k 0
theorem JS(ns:List Int)(k:Int)(a:0<=k)(σ:db):ce [.Pi ns,.int k] σ=.ok (.int (wE ns k.toNat)) σ:=by
 unfold ce UJ wE;by_cases h:k<ns.length
 ·simp[h,uO a h]
 ·have e:ns.length<=k.toNat:=by omega
  simp[h,eg e]
theorem OT(ρ:Ev)(σ:db):Zi (ID [.inl 9] (ib (eC (.int 3)) Ab)) ρ σ=.ok Fi σ:=by
 have h:(ib (eC (.int 3)) Ab) ρ (σ++[.va []])=.ok [.int 3] (σ++[.va []]):=by simp
 have d:ID [.inl 9] (ib (eC (.int 3)) Ab) ρ σ=.ok (.ref σ.length) (σ++[.va [(.inl 9,.int 3)]]):=by
  show Fc (ib (eC (.int 3)) Ab ρ) (OB σ.length [.inl 9]) (σ++[.va []])=_;rw[wm,h,qc];unfold OB;have:(σ++[Ob.va []])[σ.length]?=some (.va []):=by simp
  simp only[this];rw[da (by decide),LG];rfl
 rw[zy,d];unfold Xf;dsimp only;rw[da (by simp)];have f:fz σ.length (σ++[.va [(.inl 9,.int 3)]]) 6 (.ref σ.length)=some Fi:=by
  unfold fz;rw[ga (by simp[cl])];dsimp only;rw[ga (by omega)];have:(σ++[Ob.va [((.inl 9:Key),D.int 3)]])[σ.length]?=some (.va [(.inl 9,.int 3)]):=by simp
  rw[this];dsimp only;have a:qo (fz σ.length (σ++[.va [(.inl 9,.int 3)]]) 5) [D.int 3]=some [.int 3]:=by
   unfold qo fz;rfl
  show (qo (fz σ.length (σ++[.va [(.inl 9,.int 3)]]) 5) [D.int 3]).map _=_;rw[a];rfl
 rw[f]
theorem HS(c:Int):∃ p q,Tw p q/\∀ σ,ff [.int c] σ=.ok (PL p q) σ:=by
 have fz:∀ (σ:db) (p q:Pt),Xf σ (.ok (.ref σ.length) (σ++[.lst [p.D,q.D]]))=.ok (PL p q) σ:=λσ p q=>Yt (by simp);refine⟨if c % 2 == 1 then ⟨1,0,60,50,13⟩else ⟨0,1,50,60,13⟩,if c / 2 % 2 == 1 then ⟨2,1,80,70,20⟩else ⟨1,2,70,80,20⟩,?_,λσ=>?_⟩
 ·cases c % 2 == 1<;>cases c / 2 % 2 == 1<;>exact⟨⟨by decide,by decide,by decide,by decide,by decide,by decide⟩,⟨by decide,by decide,by decide,by decide,by decide,by decide⟩,by decide,by decide⟩
 ·rw[<-fz σ];unfold ff tK Pt.D;cases a:(c % 2 == 1)<;>cases b:(c / 2 % 2 == 1)<;>simp[a,b,-fG]
noncomputable abbrev kl:List (List Int):=[[0],[1],[2],[0,1],[1,2],[2,0],[0,1,2]]
theorem kX{i e:Int}(h0:0<=i)(p:i<7)(d:1<=e/\e<=12):∃ hs ks,Fx hs ks e/\Wm (Jj hs)=ks/\∀ σ,Oe (.lst (kl.map λl=>D.lst (l.map D.int))) (.int i) σ=.ok (.lst (hs.map D.int)) σ:=by
 have a:∀ σ,Oe (.lst (kl.map λl=>D.lst (l.map D.int))) (.int i) σ=.ok (.lst ((kl.getD i.toNat []).map D.int)) σ:=λσ=>by
  have g:i.toNat<kl.length:=by show _<7;omega
  have:=iC (σ:=σ) (lP (xs:=kl.map λl=>D.lst (l.map D.int)) h0 (by simp;omega));rw[this,Dd,Xa,Dd,jb g];rfl
 have F:∀ hs ks:List Int,hs.Perm ks->ks.Pairwise (·<=·)->hs.Nodup->ks.Nodup->hs.length<64->0<hs.length->(∀ h∈ks,h≠3)->Jj hs=hs->Fx hs ks e/\Wm (Jj hs)=ks:=λhs ks b o k m l j n f=>
  ⟨⟨λh=>b.mem_iff,m,k,l,by rw[<-b.length_eq];exact l,j,d.1,d.2,n⟩,by rw[f];exact XF b o⟩
 refine⟨kl.getD i.toNat [],if i=5 then [0,2]else kl.getD i.toNat [],?_⟩;rw[<-and_assoc];refine⟨?_,a⟩;have c:i=0\/i=1\/i=2\/i=3\/i=4\/i=5\/i=6:=by omega
 rcases c with rfl|rfl|rfl|rfl|rfl|rfl|rfl
 ·exact F [0] [0] (.refl _) (by simp) (by simp) (by simp) (by simp) (by simp) (by simp) rfl
 ·exact F [1] [1] (.refl _) (by simp) (by simp) (by simp) (by simp) (by simp) (by simp) rfl
 ·exact F [2] [2] (.refl _) (by simp) (by simp) (by simp) (by simp) (by simp) (by simp) rfl
 ·exact F [0,1] [0,1] (.refl _) (by simp) (by simp) (by simp) (by simp) (by simp) (by simp) rfl
 ·exact F [1,2] [1,2] (.refl _) (by simp) (by simp) (by simp) (by simp) (by simp) (by simp) rfl
 ·exact F [2,0] [0,2] (.swap ..) (by simp) (by simp) (by simp) (by simp) (by simp) (by simp) rfl
 ·exact F [0,1,2] [0,1,2] (.refl _) (by simp) (by simp) (by simp) (by simp) (by simp) (by simp) rfl
theorem SN(hs:List Int)(h:Int)(f:Int->D):dV (hs++[h]) f=dV hs f++[(.inl h,f h)]:=by unfold dV;rw[im];rfl
section
variable(e:Int)(p q:Pt)(ko:Ob)(rs:List Row)(x0 x1 x2 x3 x4:Option D)
theorem DW{hs:List Int}{h:Int}(hn:h ∉ hs)(g:hs.length<100):YA [x0,x1,x2,x3,x4,some (.ref (7+7 * rs.length)),some (.ref (7+7 * rs.length+1)),some (.int h),none,none,none] (hS 0 e p q [] [] ko [.va (dV hs (Nd λ_=>0)),.va (dV hs (ig λ_=>false))] rs)=.ok (.nx [x0,x1,x2,x3,x4,some (.ref (7+7 * rs.length)),some (.ref (7+7 * rs.length+1)),some (.int h),none,none,none]) (hS 0 e p q [] [] ko [.va (dV (hs++[h]) (Nd λ_=>0)),.va (dV (hs++[h]) (ig λ_=>false))] rs):=by
 have b:∀ a,Wp a (.int 0) (.ref (7+7 * rs.length)) (.int h) (hS 0 e p q [] [] ko [.va (dV hs (Nd λ_=>0)),.va (dV hs (ig λ_=>false))] rs)=.ok (.nx a) (hS 0 e p q [] [] ko [.va (dV (hs++[h]) (Nd λ_=>0)),.va (dV hs (ig λ_=>false))] rs):=λa=>by
  rw[av (ju ..) (by rw[yy];omega),SA,Pk _ (oF _ hn),SN];rfl
 have c:∀ a,Wp a (.bl false) (.ref (7+7 * rs.length+1)) (.int h) (hS 0 e p q [] [] ko [.va (dV (hs++[h]) (Nd λ_=>0)),.va (dV hs (ig λ_=>false))] rs)=.ok (.nx a) (hS 0 e p q [] [] ko [.va (dV (hs++[h]) (Nd λ_=>0)),.va (dV (hs++[h]) (ig λ_=>false))] rs):=λa=>by
  rw[av (Pw ..) (by rw[yy];omega),aA,Pk _ (oF _ hn),SN hs h (ig λ_=>false)];rfl
 unfold YA;generalize hS 0 e p q [] [] ko [.va (dV (hs++[h]) (Nd λ_=>0)),.va (dV (hs++[h]) (ig λ_=>false))] rs=f at *;generalize hS 0 e p q [] [] ko [.va (dV (hs++[h]) (Nd λ_=>0)),.va (dV hs (ig λ_=>false))] rs=d at *;generalize hS 0 e p q [] [] ko [.va (dV hs (Nd λ_=>0)),.va (dV hs (ig λ_=>false))] rs=Y at *;simp[b,c]
theorem WH:∀ (a hs:List Int) (b:Option D),(∀ h∈hs,h ∉ a)->a.Nodup->hs.length+a.length<100->∃ f,Uk (Ed 7) YA (a.map D.int) [x0,x1,x2,x3,x4,some (.ref (7+7 * rs.length)),some (.ref (7+7 * rs.length+1)),b,none,none,none] (hS 0 e p q [] [] ko [.va (dV hs (Nd λ_=>0)),.va (dV hs (ig λ_=>false))] rs)=.ok (.nx [x0,x1,x2,x3,x4,some (.ref (7+7 * rs.length)),some (.ref (7+7 * rs.length+1)),f,none,none,none]) (hS 0 e p q [] [] ko [.va (dV (hs++a) (Nd λ_=>0)),.va (dV (hs++a) (ig λ_=>false))] rs)
 |[],hs,b,_,_,_=>⟨b,by rw[Vd,vy,Qd]⟩
 |h::a,hs,b,hn,nd,i=>by
  rw[Ha]at i;obtain⟨c,d⟩:=gd.mp nd;have k:=DW e p q ko rs x0 x1 x2 x3 x4 (hs:=hs) (h:=h) (λz=>hn h z (Ba ..)) (by omega);obtain⟨f,g⟩:=WH a (hs++[h]) (some (.int h)) (λx j z=>by
   rcases Pd.mp j with y|y
   ·exact hn x y (wa _ z)
   ·rw[xf.mp y]at z;exact c z) d (by simp;omega)
  rw[Ec]at g;refine⟨f,?_⟩;rw[za,cu];simp only[Na,Oa];rw[k,qc,vm,g];rfl
end
theorem WY(ns:List Int)(l:ns.length<=63)(r:Ev)(σ:db):∃ e:List Int,(∀ k∈e,0<=k/\k<ns.length)/\wC (eC (.int 2)) (Tj nA (ib (Tj Ao (ib (ya 0) Ab)) (ib (eC (.int 42)) Ab))) (some (.Pi ns)::r) σ=.ok (.seq (e.map D.int)) σ:=by
 have e1:bB (.int 2) (.int (min (ns.length:Int) 42)) σ=.ok (.seq (Hv 2 (min (ns.length:Int) 42 - 2).toNat)) σ:=by
  unfold bB;dsimp only;rw[da (by simp only[Lw,Jk,Ma,nc];omega)]
 have c:∀ (f g:Ev->M D) (b:Ev) (σ:db),wC f g b σ=(f b σ).bind (tG (g b)):=λf g b σ=>nr rfl;have d:∀ (m:M D) (a:D) (σ:db),tG m a σ=(m σ).bind (bB a):=λm a σ=>nr rfl;refine⟨(List.range (min (ns.length:Int) 42 - 2).toNat).map λ(i:Nat)=>2+(i:Int),λk j=>?_,?_⟩
 ·obtain⟨i,h,rfl⟩:=Dc.mp j;rw[Wg]at h;omega
 ·simp[c,d,e1,Hv]
theorem AJ(ρ:Ev)(σ:db):ME ρ σ=.ok (.lst (kl.map λl=>D.lst (l.map D.int))) σ:=nr rfl
theorem kt(ns:List Int)(m:ns.length<=63):∃ σ,cn [.Pi ns] []=.ok (.bl true) σ:=by
 have B:=λσ=>JS ns 0 (by decide) σ;generalize wE ns (0:Int).toNat=c at *;obtain⟨p,q,t,I⟩:=HS c;obtain⟨hs,w,X,o,G⟩:=kX (i:=c / 4 % 7) (e:=1+c / 28 % 12) (by omega) (by omega) (by omega);have M:=λσ:db=>bC (σ:=σ) (c / 4) 7 (by decide);have s:=λσ:db=>bC (σ:=σ) (c / 28) 12 (by decide);have C:=λσ:db=>GD (σ:=σ) c 4 (by decide) (by decide);have g:=λσ:db=>GD (σ:=σ) c 28 (by decide) (by decide);have A:=λσ:db=>OW (σ:=σ) 1 (c / 28 % 12);generalize c / 4 % 7=T at *;generalize 1+c / 28 % 12=e at *;have H:hs.length<100:=Tf X.lh (by decide);obtain⟨rs,a,b,N⟩:=lX t X.e1 X.IS X.lh o X.k3 X.nk (Tf X.lk (by decide));have O:rs.length=w.length:=by rw[<-a,Ta]
 obtain⟨u,v⟩:=WH e p q (.va (bc 7 rs)) rs (some (.Pi ns)) (some (.int c)) (some (.lst (hs.map D.int))) (some (.int e)) (some (.ref 0)) hs [] none (by simp) X.nh (by simpa using H);rw[Hg]at v;have z:LI hs w e 0 none [] [] rs (λ_=>0) (λ_=>false):=⟨.none,a,λr n=>(b r n).1,λr n=>(b r n).2,λh _=>by have:=X.e1;show (0:Int) - 0<=e;omega,λy J=>by cases J⟩
 obtain⟨Q,K,P⟩:=WY ns m [some (.int c),some (.lst (hs.map D.int)),some (.int e),some (.ref 0),some (.ref (7+7 * rs.length)),some (.ref (7+7 * rs.length+1)),u,some (.Hb),none,none] (lS 0 e p q [] [] rs hs (λ_=>0) (λ_=>false));obtain⟨f,σ,x⟩:=turns X p q ns (some (.int c)) Q K u none none z;rw[<-O]at x;have j:hH 0 e p q [] [] (.va (bc 7 rs)) Wf++dh e 7 rs++[.va []]++[.va []]=hS 0 e p q [] [] (.va (bc 7 rs)) [.va (dV [] (Nd λ_=>0)),.va (dV [] (ig λ_=>false))] rs:=by unfold hS;simp[dV]
 have len:=zt 0 e p q [] [] (.va (bc 7 rs)) rs;have d:(hH 0 e p q [] [] (.va (bc 7 rs)) Wf++dh e 7 rs++[Ob.va []]).length=7+7 * rs.length+1:=by rw[Ya,len];rfl
 refine⟨σ,?_⟩;have E:=λf σ=>OT f σ;have U:=λf σ=>AJ f σ;unfold cn WO;rw[Ip];show Ai (wc _ _ [some (.Pi ns),none,none,none,none,none,none,none,none,none,none] [])=_;rw[Ff];simp only[yo,ay,So,ui,yg,qc,ap,Zq,Ck,Oo,oM,B,jf,jo,Cf,Na,Oa];rw[Ff,yo,ku];change Ai (Out.bind (am _ _ (Out.bind (ME _ _) _)) _)=_;rw[AJ,qc];generalize D.lst (kl.map λl=>D.lst (l.map D.int))=R at *;simp only[ww,ku,ui,yg,qc,Zq,C,M,G,jf,jo,Cf,Na,Oa];rw[Ff];simp only[yo,ku,Zq,qc,ww,ui,yg,g,s,A,jf,jo,Cf,Na,Oa];rw[Ff];generalize k:D.lst (hs.map D.int)=S at *;generalize F:PL p q=L at *;simp only[yo,vE,tJ,So,ay,ui,yg,qc,ap,Ck,Oo,UN,I,E,sO,Qd,N,jf,jo,Cf,Na,Oa];rw[Ff];simp only[yo,xy,jf,jo,qc,Cf,len,Na,Oa];rw[Ff];simp only[yo,xy,jf,jo,qc,Cf,d,j,Na,Oa];rw[Ff,Ov,Sw];subst k;simp only[ui,yg,qc,Nw,jf,Hw];change Ai (Out.bind (Uk (Ed 7) YA _ _ _) _)=_;rw[v,qc,Cf,Ff];simp only[yo,Zq,jf,jo,qc,Cf,Na,Oa];rw[Ff,Ov,P,jf,Hw];change Ai (Out.bind (Uk (Ed 9) Wx _ (Xh ns hs (some (.int c)) e rs.length u none none none) (lS 0 e p q [] [] rs hs (λ_=>0) (λ_=>false))) _)=_;rw[x,qc,Cf,Vu,Zq,jf,Xv,cw]
end K53
open PySem PySem.W PyProof.Rows
set_option maxRecDepth 100000 in
set_option maxHeartbeats 0 in
theorem PySem.Challenge.cw_sidebook_k53_days_and_looks_holds : PySem.Challenge.rw_sidebook_k53_days_and_looks.Holds := by
 w_on;refine hd ?_
 k_fill
 refine L4.t4 (l:=PySem.Challenge.rw_sidebook_k53_days_and_looks) (k:=12) (x:="_law_script") (fn:=K53.cn) rfl rfl ⟨rfl,by decide,by decide⟩ (λw h Y=>km_in_of Y) ?F K53.kt;case F=>
  intro w mg h KX G;have h__law_cell_at:L4.ng (L2.La KX) mg "_law_cell_at" (K53.top 101) ["_law_script", "_law_k"]:=by
   dsimp only[L2.La];refine' L4.Nk KX G K53.DX ?a ?l ?c ?k;(case a|l|c|k=>k_is)
  have h_is_whole:L4.ng (L2.La KX) mg "is_whole" (K53.top 8) ["thing"]:=by
   dsimp only[L2.La];refine' L4.Nk KX G K53.eW ?a ?l ?c ?k;(case a|l|c|k=>k_is)
  have h_is_between:L4.ng (L2.La KX) mg "is_between" (K53.top 9) ["thing", "least", "most"]:=by
   dsimp only[L2.La];refine' L4.Nk KX G K53.E3 ?a ?l ?c ?k;(case a|l|c|k=>k_is)
  have h_is_hand:L4.ng (L2.La KX) mg "is_hand" (K53.top 11) ["thing"]:=by
   dsimp only[L2.La];refine' L4.Nk KX G K53.Y2 ?a ?l ?c ?k;(case a|l|c|k=>k_is)
  have h_makes_a_pot:L4.ng (L2.La KX) mg "makes_a_pot" (K53.top 49) ["thing"]:=by
   dsimp only[L2.La];refine' L4.Nk KX G K53.jT ?a ?l ?c ?k;(case a|l|c|k=>k_is)
  have h_checked_pots:L4.ng (L2.La KX) mg "checked_pots" (K53.top 50) ["pots"]:=by
   dsimp only[L2.La];refine' L4.Nk KX G K53.JR ?a ?l ?c ?k;(case a|l|c|k=>k_is)
  have h_whole_of:L4.ng (L2.La KX) mg "whole_of" (K53.top 51) ["made"]:=by
   dsimp only[L2.La];refine' L4.Nk KX G K53.S1 ?a ?l ?c ?k;(case a|l|c|k=>k_is)
  have h_check_span:L4.ng (L2.La KX) mg "check_span" (K53.top 92) ["hand", "every", "pots"]:=by
   dsimp only[L2.La];refine' L4.Nk KX G K53.UZ ?a ?l ?c ?k;(case a|l|c|k=>k_is)
  have h_are_ties:L4.ng (L2.La KX) mg "are_ties" (K53.top 29) ["thing"]:=by
   dsimp only[L2.La];refine' L4.Nk KX G K53.uY ?a ?l ?c ?k;(case a|l|c|k=>k_is)
  have h_are_shares:L4.ng (L2.La KX) mg "are_shares" (K53.top 28) ["thing"]:=by
   dsimp only[L2.La];refine' L4.Nk KX G K53.WW ?a ?l ?c ?k;(case a|l|c|k=>k_is)
  have h_is_number:L4.ng (L2.La KX) mg "is_number" (K53.top 14) ["thing"]:=by
   dsimp only[L2.La];refine' L4.Nk KX G K53.aV ?a ?l ?c ?k;(case a|l|c|k=>k_is)
  have h_is_stand:L4.ng (L2.La KX) mg "is_stand" (K53.top 30) ["thing"]:=by
   dsimp only[L2.La];refine' L4.Nk KX G K53.m4 ?a ?l ?c ?k;(case a|l|c|k=>k_is)
  have h_stand:L4.nD (L2.La KX) mg "stand" (K53.top 31) ["number", "shares", "ties"] [Sa]:=by
   dsimp only[L2.La];refine' L4.i0 KX G K53.vR ?a ?l ?c ?k ?d;(case a|l|c|k|d=>k_is)
  have h_first:L4.ng (L2.La KX) mg "first" (K53.top 32) ["left", "right"]:=by
   dsimp only[L2.La];refine' L4.Nk KX G K53.GR ?a ?l ?c ?k;(case a|l|c|k=>k_is)
  have h_first_account:L4.ng (L2.La KX) mg "first_account" (K53.top 67) ["pot", "side", "left", "right"]:=by
   dsimp only[L2.La];refine' L4.Nk KX G K53.QW ?a ?l ?c ?k;(case a|l|c|k=>k_is)
  have h_words_of:L4.ng (L2.La KX) mg "words_of" (K53.top 98) ["hand", "words"]:=by
   dsimp only[L2.La];refine' L4.Nk KX G K53.GV ?a ?l ?c ?k;(case a|l|c|k=>k_is)
  have h__law_pots:L4.ng (L2.La KX) mg "_law_pots" (K53.top 102) ["_law_cell"]:=by
   dsimp only[L2.La];refine' L4.Nk KX G K53.WU ?a ?l ?c ?k;(case a|l|c|k=>k_is)
  have h_is_word:L4.ng (L2.La KX) mg "is_word" (K53.top 12) ["thing"]:=by
   dsimp only[L2.La];refine' L4.Nk KX G K53.ZY ?a ?l ?c ?k;(case a|l|c|k=>k_is)
  have h_is_given_up:L4.ng (L2.La KX) mg "is_given_up" (K53.top 95) ["account", "claim"]:=by
   dsimp only[L2.La];refine' L4.Nk KX G K53.G3 ?a ?l ?c ?k;(case a|l|c|k=>k_is)
  have h_stands_told:L4.ng (L2.La KX) mg "stands_told" (K53.top 93) ["account", "claim"]:=by
   dsimp only[L2.La];refine' L4.Nk KX G K53.rR ?a ?l ?c ?k;(case a|l|c|k=>k_is)
  have h_ties_to:L4.ng (L2.La KX) mg "ties_to" (K53.top 94) ["account", "claim"]:=by
   dsimp only[L2.La];refine' L4.Nk KX G K53.eR ?a ?l ?c ?k;(case a|l|c|k=>k_is)
  have h__law_next:L4.ng (L2.La KX) mg "_law_next" (K53.top 103) ["_law_hall", "_law_looks", "_law_every"]:=by
   dsimp only[L2.La];refine' L4.Nk KX G K53.HU ?a ?l ?c ?k;(case a|l|c|k=>k_is)
  have h__law_right:L4.ng (L2.La KX) mg "_law_right" (K53.top 104) ["_law_hall", "_law_looks", "_law_every", "_law_shown"]:=by
   dsimp only[L2.La];refine' L4.Nk KX G K53.gR ?a ?l ?c ?k;(case a|l|c|k=>k_is)
  have h__law_words_right:L4.ng (L2.La KX) mg "_law_words_right" (K53.top 105) ["_law_hall", "_law_knows"]:=by
   dsimp only[L2.La];refine' L4.Nk KX G K53.cV ?a ?l ?c ?k;(case a|l|c|k=>k_is)
  have h_law:L4.ng (L2.La KX) mg "law" (K53.top 106) ["_law_script"]:=by
   dsimp only[L2.La];refine' L4.Nk KX G K53.OY ?a ?l ?c ?k;(case a|l|c|k=>k_is)
  have Ls:mg "all" = none:=by
   refine' Sd KX G ?a;(case a=>k_is)
  have kq:mg "bool" = none:=by
   refine' Sd KX G ?a;(case a=>k_is)
  have En:mg "dict" = none:=by
   refine' Sd KX G ?a;(case a=>k_is)
  have Sg:mg "enumerate" = none:=by
   refine' Sd KX G ?a;(case a=>k_is)
  have Us:mg "int" = none:=by
   refine' Sd KX G ?a;(case a=>k_is)
  have Ld:mg "isinstance" = none:=by
   refine' Sd KX G ?a;(case a=>k_is)
  have Ah:mg "len" = none:=by
   refine' Sd KX G ?a;(case a=>k_is)
  have Ni:mg "list" = none:=by
   refine' Sd KX G ?a;(case a=>k_is)
  have Ts:mg "min" = none:=by
   refine' Sd KX G ?a;(case a=>k_is)
  have yn:mg "range" = none:=by
   refine' Sd KX G ?a;(case a=>k_is)
  have Kq:mg "set" = none:=by
   refine' Sd KX G ?a;(case a=>k_is)
  have Th:mg "sorted" = none:=by
   refine' Sd KX G ?a;(case a=>k_is)
  have oi:mg "tuple" = none:=by
   refine' Sd KX G ?a;(case a=>k_is)
  have pq:L4.hD (L2.La KX) mg "HELD" ["held"]:=by
   dsimp only[L2.La];refine' L4.BY KX G ?a ?b;(case a=>k_is);(case b=>kernel_rfl)
  have kf:∃ t,mg "MOST_COIN" = some (.int 1000000000000 t):=by
   refine' L4.Fu KX G ?a;(case a=>k_is)
  have Ag:∃ t,mg "MOST_EVERY" = some (.int 50 t):=by
   refine' L4.Fu KX G ?a;(case a=>k_is)
  have Ug:∃ t,mg "MOST_HAND" = some (.int 3 t):=by
   refine' L4.Fu KX G ?a;(case a=>k_is)
  have Yf:∃ t,mg "MOST_NUMBER" = some (.int 1000000 t):=by
   refine' L4.Fu KX G ?a;(case a=>k_is)
  have wh:∃ t,mg "MOST_POT" = some (.int 2 t):=by
   refine' L4.Fu KX G ?a;(case a=>k_is)
  have Qe:∃ t,mg "MOST_SHARE" = some (.int 2000000000000 t):=by
   refine' L4.Fu KX G ?a;(case a=>k_is)
  have Qg:∃ t,mg "MOST_TIES" = some (.int 6 t):=by
   refine' L4.Fu KX G ?a;(case a=>k_is)
  have Tg:∃ t,mg "MOST_WAIT" = some (.int 100 t):=by
   refine' L4.Fu KX G ?a;(case a=>k_is)
  have Vg:∃ t,mg "MOST_WORD" = some (.int 59 t):=by
   refine' L4.Fu KX G ?a;(case a=>k_is)
  refine' (have q0:nsIn (L2.La KX) mainGlobals "NoStand" = some (some (.ref ?C1)):=?p0;have q1:excIn (L2.La KX) ?C1 L4.Gy "ValueError.__new__" = true:=?p1;have q2:nsIn (L2.La KX) mainGlobals "NoDeed" = some (some (.ref ?C2)):=?p2;have q3:excIn (L2.La KX) ?C2 L4.Gy "ValueError.__new__" = true:=?p3;have q4:nsIn (L2.La KX) mainGlobals "NoSpan" = some (some (.ref ?C4)):=?p4;have q5:excIn (L2.La KX) ?C4 L4.Gy "ValueError.__new__" = true:=?p5;have q6:nsIn (L2.La KX) mainGlobals "Claim" = some (some (.ref ?C5)):=?p6;have q7:nsIn (L2.La KX) mainGlobals "Held" = some (some (.ref ?C6)):=?p7;have q8:nsIn (L2.La KX) mainGlobals "Laid" = some (some (.ref ?C7)):=?p8;have q9:nsIn (L2.La KX) mainGlobals "Taken" = some (some (.ref ?C8)):=?p9;?_);(case p0|p1|p2|p3|p4|p5|p6|p7|p8|p9=>dsimp only[L2.La];first|k_is|k_exc|rfl)
  refine' (have q10:nsIn (L2.La KX) mainGlobals "Book" = some (some (.ref ?C9)):=?p10;have q11:nsIn (L2.La KX) mainGlobals "Account" = some (some (.ref ?C10)):=?p11;have q12:nsIn (L2.La KX) mainGlobals "Calm" = some (some (.ref ?C11)):=?YM;have q13:nsIn (L2.La KX) mainGlobals "Offered" = some (some (.ref ?C12)):=?p13;have q14:nsIn (L2.La KX) mainGlobals "Waiting" = some (some (.ref ?C13)):=?p14;have q15:nsIn (L2.La KX) mainGlobals "View" = some (some (.ref ?C14)):=?p15;have q16:nsIn (L2.La KX) mainGlobals "Keeper" = some (some (.ref ?C15)):=?p16;have q17:nsIn (L2.La KX) mainGlobals "Hall" = some (some (.ref ?C16)):=?p17;have q18:findIn (L2.La KX) (.ref ?C5) "__init__" = some (some (.ref ?C17)):=?p18;have q19:L4.Jc (L2.La KX) ?C5 "__init__" "Claim.__init__" (L4.Yd (K53.top 42) 0) ["self", "whole"] ?C17:=?p19;?_);(case p10|p11|YM|p13|p14|p15|p16|p17|p18=>dsimp only[L2.La];first|k_is|k_exc|rfl);(case p19=>dsimp only[L2.La];refine' L4.Uj K53.tR ?l ?c ?k;(case l|c|k=>k_is))
  refine' (have q20:findIn (L2.La KX) (.ref ?C9) "__init__" = some (some (.ref ?C30)):=?p20;have q21:L4.Jc (L2.La KX) ?C9 "__init__" "Book.__init__" (L4.Yd (K53.top 54) 0) ["self", "pots"] ?C30:=?p21;have q22:findIn (L2.La KX) (.ref ?C9) "made_of" = some (some (.ref ?C44)):=?p22;have q23:L4.Jc (L2.La KX) ?C9 "made_of" "Book.made_of" (L4.Yd (K53.top 54) 14) ["self"] ?C44:=?p23;have q24:findIn (L2.La KX) (.ref ?C15) "learn" = some (some (.ref ?C57)):=?p24;have q25:L4.Jc (L2.La KX) ?C15 "learn" "Keeper.learn" (L4.Yd (K53.top 96) 2) ["self", "words"] ?C57:=?p25;have q26:findIn (L2.La KX) (.ref ?C15) "hold" = some (some (.ref ?C56)):=?p26;have q27:L4.Jc (L2.La KX) ?C15 "hold" "Keeper.hold" (L4.Yd (K53.top 96) 1) ["self", "account", "claim", "seen"] ?C56:=?p27;have q28:findIn (L2.La KX) (.ref ?C10) "__init__" = some (some (.ref ?C45)):=?p28;have q29:L4.Jc (L2.La KX) ?C10 "__init__" "Account.__init__" (L4.Yd (K53.top 63) 0) ["self", "pot", "side", "mine", "grant", "may", "strikes"] ?C45:=?p29;?_);(case p20=>dsimp only[L2.La];first|k_is|k_exc|rfl);(case p21=>dsimp only[L2.La];refine' L4.Uj K53.mU ?l ?c ?k;(case l|c|k=>k_is));(case p22=>dsimp only[L2.La];first|k_is|k_exc|rfl);(case p23=>dsimp only[L2.La];refine' L4.Uj K53.XT ?l ?c ?k;(case l|c|k=>k_is));(case p24=>dsimp only[L2.La];first|k_is|k_exc|rfl);(case p25=>dsimp only[L2.La];refine' L4.Uj K53.SR ?l ?c ?k;(case l|c|k=>k_is));(case p26=>dsimp only[L2.La];first|k_is|k_exc|rfl);(case p27=>dsimp only[L2.La];refine' L4.Uj K53.TZ ?l ?c ?k;(case l|c|k=>k_is));(case p28=>dsimp only[L2.La];first|k_is|k_exc|rfl);(case p29=>dsimp only[L2.La];refine' L4.Uj K53.iQ ?l ?c ?k;(case l|c|k=>k_is))
  refine' (have q30:findIn (L2.La KX) (.ref ?C15) "__init__" = some (some (.ref ?C55)):=?p30;have q31:L4.Ym (L2.La KX) ?C15 "__init__" "Keeper.__init__" (L4.Yd (K53.top 96) 0) ["self", "hand", "every", "pots", "words"] [.none] ?C55:=?p31;have q32:findIn (L2.La KX) (.ref ?C16) "__init__" = some (some (.ref ?C79)):=?p32;have q33:L4.Ym (L2.La KX) ?C16 "__init__" "Hall.__init__" (L4.Yd (K53.top 99) 0) ["self", "pots", "keeps", "every", "words"] [.none] ?C79:=?p33;have q34:findIn (L2.La KX) (.ref ?C16) "band_can" = some (some (.ref ?C87)):=?p34;have q35:L4.Jc (L2.La KX) ?C16 "band_can" "Hall.band_can" (L4.Yd (K53.top 99) 8) ["self", "thing"] ?C87:=?p35;have q36:findIn (L2.La KX) (.ref ?C9) "check_pot" = some (some (.ref ?C31)):=?p36;have q37:L4.Jc (L2.La KX) ?C9 "check_pot" "Book.check_pot" (L4.Yd (K53.top 54) 1) ["self", "pot"] ?C31:=?p37;have q38:findIn (L2.La KX) (.ref ?C9) "show" = some (some (.ref ?C34)):=?p38;have q39:L4.Jc (L2.La KX) ?C9 "show" "Book.show" (L4.Yd (K53.top 54) 4) ["self", "pot", "word"] ?C34:=?p39;?_);(case p30=>dsimp only[L2.La];first|k_is|k_exc|rfl);(case p31=>dsimp only[L2.La];refine' L4.hI K53.kU ?l ?c ?d;(case l|c|d=>k_is));(case p32=>dsimp only[L2.La];first|k_is|k_exc|rfl);(case p33=>dsimp only[L2.La];refine' L4.hI K53.A0 ?l ?c ?d;(case l|c|d=>k_is));(case p34=>dsimp only[L2.La];first|k_is|k_exc|rfl);(case p35=>dsimp only[L2.La];refine' L4.Uj K53.sT ?l ?c ?k;(case l|c|k=>k_is));(case p36=>dsimp only[L2.La];first|k_is|k_exc|rfl);(case p37=>dsimp only[L2.La];refine' L4.Uj K53.M2 ?l ?c ?k;(case l|c|k=>k_is));(case p38=>dsimp only[L2.La];first|k_is|k_exc|rfl);(case p39=>dsimp only[L2.La];refine' L4.Uj K53.UY ?l ?c ?k;(case l|c|k=>k_is))
  refine' (have q40:findIn (L2.La KX) (.ref ?C16) "show" = some (some (.ref ?C97)):=?CM;have q41:L4.Jc (L2.La KX) ?C16 "show" "Hall.show" (L4.Yd (K53.top 99) 18) ["self", "P", "W"] ?C97:=?p41;have q42:findIn (L2.La KX) (.ref ?C16) "book" = some (some (.ref ?C80)):=?p42;have q43:L4.Jc (L2.La KX) ?C16 "book" "Hall.book" (L4.Yd (K53.top 99) 1) ["self"] ?C80:=?p43;have q44:findIn (L2.La KX) (.ref ?C9) "today" = some (some (.ref ?C32)):=?p44;have q45:L4.Jc (L2.La KX) ?C9 "today" "Book.today" (L4.Yd (K53.top 54) 2) ["self"] ?C32:=?p45;have q46:findIn (L2.La KX) (.ref ?C15) "looked" = some (some (.ref ?C59)):=?p46;have q47:L4.Jc (L2.La KX) ?C15 "looked" "Keeper.looked" (L4.Yd (K53.top 96) 4) ["self"] ?C59:=?p47;have q48:findIn (L2.La KX) (.ref ?C6) "told" = some (some (.ref ?C18)):=?p48;have q49:L4.Jc (L2.La KX) ?C6 "told" "Held.told" (L4.Yd (K53.top 43) 0) ["self"] ?C18:=?p49;?_);(case CM=>dsimp only[L2.La];first|k_is|k_exc|rfl);(case p41=>dsimp only[L2.La];refine' L4.Uj K53.iT ?l ?c ?k;(case l|c|k=>k_is));(case p42=>dsimp only[L2.La];first|k_is|k_exc|rfl);(case p43=>dsimp only[L2.La];refine' L4.Uj K53.iU ?l ?c ?k;(case l|c|k=>k_is));(case p44=>dsimp only[L2.La];first|k_is|k_exc|rfl);(case p45=>dsimp only[L2.La];refine' L4.Uj K53.yX ?l ?c ?k;(case l|c|k=>k_is));(case p46=>dsimp only[L2.La];first|k_is|k_exc|rfl);(case p47=>dsimp only[L2.La];refine' L4.Uj K53.jZ ?l ?c ?k;(case l|c|k=>k_is));(case p48=>dsimp only[L2.La];first|k_is|k_exc|rfl);(case p49=>dsimp only[L2.La];refine' L4.Uj K53.EV ?l ?c ?k;(case l|c|k=>k_is))
  refine' (have q50:findIn (L2.La KX) (.ref ?C9) "told" = some (some (.ref ?C38)):=?p50;have q51:L4.Jc (L2.La KX) ?C9 "told" "Book.told" (L4.Yd (K53.top 54) 8) ["self", "pot"] ?C38:=?p51;have q52:findIn (L2.La KX) (.ref ?C9) "shown_for" = some (some (.ref ?C39)):=?p52;have q53:L4.Jc (L2.La KX) ?C9 "shown_for" "Book.shown_for" (L4.Yd (K53.top 54) 9) ["self", "pot"] ?C39:=?p53;have q54:findIn (L2.La KX) (.ref ?C9) "all_shown" = some (some (.ref ?C43)):=?p54;have q55:L4.Jc (L2.La KX) ?C9 "all_shown" "Book.all_shown" (L4.Yd (K53.top 54) 13) ["self"] ?C43:=?p55;have q56:findIn (L2.La KX) (.ref ?C15) "strike_all" = some (some (.ref ?C75)):=?p56;have q57:L4.Jc (L2.La KX) ?C15 "strike_all" "Keeper.strike_all" (L4.Yd (K53.top 96) 20) ["self", "book"] ?C75:=?p57;have q58:findIn (L2.La KX) (.ref ?C15) "show_all" = some (some (.ref ?C77)):=?p58;have q59:L4.Jc (L2.La KX) ?C15 "show_all" "Keeper.show_all" (L4.Yd (K53.top 96) 22) ["self", "book"] ?C77:=?p59;?_);(case p50=>dsimp only[L2.La];first|k_is|k_exc|rfl);(case p51=>dsimp only[L2.La];refine' L4.Uj K53.HQ ?l ?c ?k;(case l|c|k=>k_is));(case p52=>dsimp only[L2.La];first|k_is|k_exc|rfl);(case p53=>dsimp only[L2.La];refine' L4.Uj K53.rW ?l ?c ?k;(case l|c|k=>k_is));(case p54=>dsimp only[L2.La];first|k_is|k_exc|rfl);(case p55=>dsimp only[L2.La];refine' L4.Uj K53.wQ ?l ?c ?k;(case l|c|k=>k_is));(case p56=>dsimp only[L2.La];first|k_is|k_exc|rfl);(case p57=>dsimp only[L2.La];refine' L4.Uj K53.DY ?l ?c ?k;(case l|c|k=>k_is));(case p58=>dsimp only[L2.La];first|k_is|k_exc|rfl);(case p59=>dsimp only[L2.La];refine' L4.Uj K53.EU ?l ?c ?k;(case l|c|k=>k_is))
  refine' (have q60:findIn (L2.La KX) (.ref ?C15) "lay_all" = some (some (.ref ?C78)):=?p60;have q61:L4.Jc (L2.La KX) ?C15 "lay_all" "Keeper.lay_all" (L4.Yd (K53.top 96) 23) ["self", "book"] ?C78:=?p61;have q62:findIn (L2.La KX) (.ref ?C15) "look" = some (some (.ref ?C74)):=?p62;have q63:L4.Jc (L2.La KX) ?C15 "look" "Keeper.look" (L4.Yd (K53.top 96) 19) ["self", "book"] ?C74:=?p63;have q64:findIn (L2.La KX) (.ref ?C9) "next_day" = some (some (.ref ?C33)):=?p64;have q65:L4.Jc (L2.La KX) ?C9 "next_day" "Book.next_day" (L4.Yd (K53.top 54) 3) ["self"] ?C33:=?p65;have q66:findIn (L2.La KX) (.ref ?C16) "next_day" = some (some (.ref ?C101)):=?p66;have q67:L4.Jc (L2.La KX) ?C16 "next_day" "Hall.next_day" (L4.Yd (K53.top 99) 22) ["self"] ?C101:=?p67;have q68:findIn (L2.La KX) (.ref ?C16) "keeper" = some (some (.ref ?C81)):=?p68;have q69:L4.Jc (L2.La KX) ?C16 "keeper" "Hall.keeper" (L4.Yd (K53.top 99) 2) ["self", "hand"] ?C81:=?p69;?_);(case p60=>dsimp only[L2.La];first|k_is|k_exc|rfl);(case p61=>dsimp only[L2.La];refine' L4.Uj K53.WZ ?l ?c ?k;(case l|c|k=>k_is));(case p62=>dsimp only[L2.La];first|k_is|k_exc|rfl);(case p63=>dsimp only[L2.La];refine' L4.Uj K53.GX ?l ?c ?k;(case l|c|k=>k_is));(case p64=>dsimp only[L2.La];first|k_is|k_exc|rfl);(case p65=>dsimp only[L2.La];refine' L4.Uj K53.NR ?l ?c ?k;(case l|c|k=>k_is));(case p66=>dsimp only[L2.La];first|k_is|k_exc|rfl);(case p67=>dsimp only[L2.La];refine' L4.Uj K53.AW ?l ?c ?k;(case l|c|k=>k_is));(case p68=>dsimp only[L2.La];first|k_is|k_exc|rfl);(case p69=>dsimp only[L2.La];refine' L4.Uj K53.qW ?l ?c ?k;(case l|c|k=>k_is))
  refine' (have q70:findIn (L2.La KX) (.ref ?C16) "look" = some (some (.ref ?C100)):=?p70;have q71:L4.Jc (L2.La KX) ?C16 "look" "Hall.look" (L4.Yd (K53.top 99) 21) ["self", "hand"] ?C100:=?p71;have q72:findIn (L2.La KX) (.ref ?C15) "words" = some (some (.ref ?C58)):=?p72;have q73:L4.Jc (L2.La KX) ?C15 "words" "Keeper.words" (L4.Yd (K53.top 96) 3) ["self"] ?C58:=?p73;have q74:L2.Bh (L2.La KX) ?C16:=?p74;have q75:L2.rc (L2.La KX) ?C16 "pots":=?p75;have q76:L2.Bh (L2.La KX) ?C14:=?p76;have q77:L2.rc (L2.La KX) ?C14 "pots":=?p77;have q78:L2.Bh (L2.La KX) ?C9:=?p78;have q79:L2.rc (L2.La KX) ?C9 "pots":=?p79;?_);(case p70=>dsimp only[L2.La];first|k_is|k_exc|rfl);(case p71=>dsimp only[L2.La];refine' L4.Uj K53.XZ ?l ?c ?k;(case l|c|k=>k_is));(case p72=>dsimp only[L2.La];first|k_is|k_exc|rfl);(case p73=>dsimp only[L2.La];refine' L4.Uj K53.A1 ?l ?c ?k;(case l|c|k=>k_is));(case p74=>dsimp only[L2.La];refine' ⟨?a,?b,?c,?d⟩;(case a|b|c|d=>k_is));(case p75=>dsimp only[L2.La];first|k_is|k_exc|rfl);(case p76=>dsimp only[L2.La];refine' ⟨?a,?b,?c,?d⟩;(case a|b|c|d=>k_is));(case p77=>dsimp only[L2.La];first|k_is|k_exc|rfl);(case p78=>dsimp only[L2.La];refine' ⟨?a,?b,?c,?d⟩;(case a|b|c|d=>k_is));(case p79=>dsimp only[L2.La];first|k_is|k_exc|rfl)
  refine' (have q80:L2.rc (L2.La KX) ?C9 "day":=?p80;have q81:L2.Bh (L2.La KX) ?C7:=?p81;have q82:L2.rc (L2.La KX) ?C7 "day":=?p82;have q83:L2.Bh (L2.La KX) ?C8:=?p83;have q84:L2.rc (L2.La KX) ?C8 "whole":=?p84;have q85:L2.rc (L2.La KX) ?C7 "whole":=?p85;have q86:L2.Bh (L2.La KX) ?C6:=?p86;have q87:L2.rc (L2.La KX) ?C6 "whole":=?p87;have q88:L2.Bh (L2.La KX) ?C5:=?p88;have q89:L2.rc (L2.La KX) ?C5 "whole":=?p89;?_);(case p80=>dsimp only[L2.La];first|k_is|k_exc|rfl);(case p81=>dsimp only[L2.La];refine' ⟨?a,?b,?c,?d⟩;(case a|b|c|d=>k_is));(case p82=>dsimp only[L2.La];first|k_is|k_exc|rfl);(case p83=>dsimp only[L2.La];refine' ⟨?a,?b,?c,?d⟩;(case a|b|c|d=>k_is));(case p84|p85=>dsimp only[L2.La];first|k_is|k_exc|rfl);(case p86=>dsimp only[L2.La];refine' ⟨?a,?b,?c,?d⟩;(case a|b|c|d=>k_is));(case p87=>dsimp only[L2.La];first|k_is|k_exc|rfl);(case p88=>dsimp only[L2.La];refine' ⟨?a,?b,?c,?d⟩;(case a|b|c|d=>k_is));(case p89=>dsimp only[L2.La];first|k_is|k_exc|rfl)
  refine' (have q90:L2.Mk (L2.La KX) ?C6 ?C17:=?p90;have q91:L2.Bh (L2.La KX) ?C15:=?p91;have q92:L2.rc (L2.La KX) ?C15 "claims":=?p92;have q93:L2.rc (L2.La KX) ?C9 "claims":=?p93;have q94:L2.rc (L2.La KX) ?C9 "shown":=?p94;have q95:L2.Mk (L2.La KX) ?C9 ?C30:=?p95;have q96:L2.rc (L2.La KX) ?C16 "public":=?p96;have q97:L2.md (L2.La KX) ?C9 "made_of" ?C44:=?p97;have q98:L2.rc (L2.La KX) ?C16 "every":=?p98;have q99:L2.rc (L2.La KX) ?C15 "every":=?p99;?_);(case p90|p91=>dsimp only[L2.La];refine' ⟨?a,?b,?c,?d⟩;(case a|b|c|d=>k_is));(case p92|p93|p94=>dsimp only[L2.La];first|k_is|k_exc|rfl);(case p95=>dsimp only[L2.La];refine' ⟨?a,?b,?c,?d⟩;(case a|b|c|d=>k_is));(case p96=>dsimp only[L2.La];first|k_is|k_exc|rfl);(case p97=>dsimp only[L2.La];refine' ⟨?a,?b,?c⟩;(case a|b|c=>k_is));(case p98|p99=>dsimp only[L2.La];first|k_is|k_exc|rfl)
  refine' (have q100:L2.rc (L2.La KX) ?C14 "every":=?p100;have q101:L2.rc (L2.La KX) ?C16 "keepers":=?p101;have q102:L2.rc (L2.La KX) ?C16 "under_way":=?p102;have q103:L2.rc (L2.La KX) ?C16 "things":=?p103;have q104:L2.rc (L2.La KX) ?C15 "hand":=?p104;have q105:L2.rc (L2.La KX) ?C15 "last_look":=?p105;have q106:L2.rc (L2.La KX) ?C14 "last_look":=?p106;have q107:L2.rc (L2.La KX) ?C15 "gave":=?p107;have q108:L2.rc (L2.La KX) ?C15 "known":=?p108;have q109:L2.rc (L2.La KX) ?C14 "known":=?p109;?_);(case p100|p101|p102|p103|p104|p105|p106|p107|p108|p109=>dsimp only[L2.La];first|k_is|k_exc|rfl)
  refine' (have q110:L2.rc (L2.La KX) ?C15 "accounts":=?p110;have q111:L2.rc (L2.La KX) ?C15 "seen":=?p111;have q112:L2.rc (L2.La KX) ?C15 "asked":=?p112;have q113:L2.rc (L2.La KX) ?C15 "finishing":=?p113;have q114:L2.md (L2.La KX) ?C15 "learn" ?C57:=?p114;have q115:L2.Bh (L2.La KX) ?C13:=?p115;have q116:L2.rc (L2.La KX) ?C13 "pot":=?p116;have q117:L2.Bh (L2.La KX) ?C12:=?p117;have q118:L2.rc (L2.La KX) ?C12 "pot":=?p118;have q119:L2.Bh (L2.La KX) ?C11:=?p119;?_);(case p110|p111|p112|p113=>dsimp only[L2.La];first|k_is|k_exc|rfl);(case p114=>dsimp only[L2.La];refine' ⟨?a,?b,?c⟩;(case a|b|c=>k_is));(case p115=>dsimp only[L2.La];refine' ⟨?a,?b,?c,?d⟩;(case a|b|c|d=>k_is));(case p116=>dsimp only[L2.La];first|k_is|k_exc|rfl);(case p117=>dsimp only[L2.La];refine' ⟨?a,?b,?c,?d⟩;(case a|b|c|d=>k_is));(case p118=>dsimp only[L2.La];first|k_is|k_exc|rfl);(case p119=>dsimp only[L2.La];refine' ⟨?a,?b,?c,?d⟩;(case a|b|c|d=>k_is))
  refine' (have q120:L2.rc (L2.La KX) ?C11 "pot":=?p120;have q121:L2.Bh (L2.La KX) ?C10:=?p121;have q122:L2.rc (L2.La KX) ?C10 "pot":=?p122;have q123:L2.md (L2.La KX) ?C15 "hold" ?C56:=?p123;have q124:L2.rc (L2.La KX) ?C13 "side":=?p124;have q125:L2.rc (L2.La KX) ?C12 "side":=?p125;have q126:L2.rc (L2.La KX) ?C11 "side":=?p126;have q127:L2.rc (L2.La KX) ?C10 "side":=?p127;have q128:L2.rc (L2.La KX) ?C8 "side":=?p128;have q129:L2.rc (L2.La KX) ?C7 "side":=?p129;?_);(case p120=>dsimp only[L2.La];first|k_is|k_exc|rfl);(case p121=>dsimp only[L2.La];refine' ⟨?a,?b,?c,?d⟩;(case a|b|c|d=>k_is));(case p122=>dsimp only[L2.La];first|k_is|k_exc|rfl);(case p123=>dsimp only[L2.La];refine' ⟨?a,?b,?c⟩;(case a|b|c=>k_is));(case p124|p125|p126|p127|p128|p129=>dsimp only[L2.La];first|k_is|k_exc|rfl)
  refine' (have q130:L2.rc (L2.La KX) ?C13 "mine":=?p130;have q131:L2.rc (L2.La KX) ?C12 "mine":=?p131;have q132:L2.rc (L2.La KX) ?C11 "mine":=?p132;have q133:L2.rc (L2.La KX) ?C10 "mine":=?p133;have q134:L2.rc (L2.La KX) ?C13 "grant":=?p134;have q135:L2.rc (L2.La KX) ?C12 "grant":=?p135;have q136:L2.rc (L2.La KX) ?C11 "grant":=?p136;have q137:L2.rc (L2.La KX) ?C10 "grant":=?p137;have q138:L2.rc (L2.La KX) ?C13 "may":=?p138;have q139:L2.rc (L2.La KX) ?C12 "may":=?p139;?_);(case p130|p131|p132|p133|p134|p135|p136|p137|p138|p139=>dsimp only[L2.La];first|k_is|k_exc|rfl)
  refine' (have q140:L2.rc (L2.La KX) ?C11 "may":=?p140;have q141:L2.rc (L2.La KX) ?C10 "may":=?p141;have q142:L2.rc (L2.La KX) ?C13 "strikes":=?p142;have q143:L2.rc (L2.La KX) ?C12 "strikes":=?p143;have q144:L2.rc (L2.La KX) ?C11 "strikes":=?p144;have q145:L2.rc (L2.La KX) ?C10 "strikes":=?p145;have q146:L2.Mk (L2.La KX) ?C11 ?C45:=?p146;have q147:L2.Mk (L2.La KX) ?C15 ?C55:=?p147;have q148:L2.Mk (L2.La KX) ?C16 ?C79:=?p148;have q149:L2.md (L2.La KX) ?C16 "band_can" ?C87:=?p149;?_);(case p140|p141|p142|p143|p144|p145=>dsimp only[L2.La];first|k_is|k_exc|rfl);(case p146|p147|p148=>dsimp only[L2.La];refine' ⟨?a,?b,?c,?d⟩;(case a|b|c|d=>k_is));(case p149=>dsimp only[L2.La];refine' ⟨?a,?b,?c⟩;(case a|b|c=>k_is))
  refine' (have q150:L2.md (L2.La KX) ?C9 "check_pot" ?C31:=?p150;have q151:L2.md (L2.La KX) ?C9 "show" ?C34:=?p151;have q152:L2.md (L2.La KX) ?C16 "show" ?C97:=?p152;have q153:L2.md (L2.La KX) ?C16 "book" ?C80:=?p153;have q154:L2.md (L2.La KX) ?C9 "today" ?C32:=?p154;have q155:L2.md (L2.La KX) ?C15 "looked" ?C59:=?p155;have q156:L2.md (L2.La KX) ?C6 "told" ?C18:=?p156;have q157:L2.md (L2.La KX) ?C9 "told" ?C38:=?p157;have q158:L2.md (L2.La KX) ?C9 "shown_for" ?C39:=?p158;have q159:L2.md (L2.La KX) ?C9 "all_shown" ?C43:=?p159;?_);(case p150|p151|p152|p153|p154|p155|p156|p157|p158|p159=>dsimp only[L2.La];refine' ⟨?a,?b,?c⟩;(case a|b|c=>k_is))
  refine' (have q160:L2.md (L2.La KX) ?C15 "strike_all" ?C75:=?p160;have q161:L2.md (L2.La KX) ?C15 "show_all" ?C77:=?p161;have q162:L2.md (L2.La KX) ?C15 "lay_all" ?C78:=?p162;have q163:L2.md (L2.La KX) ?C15 "look" ?C74:=?p163;have q164:L2.md (L2.La KX) ?C9 "next_day" ?C33:=?p164;have q165:L2.md (L2.La KX) ?C16 "next_day" ?C101:=?p165;have q166:L2.md (L2.La KX) ?C16 "keeper" ?C81:=?p166;have q167:L2.md (L2.La KX) ?C16 "look" ?C100:=?p167;have q168:L2.md (L2.La KX) ?C15 "words" ?C58:=?p168;?_);(case p160|p161|p162|p163|p164|p165|p166|p167|p168=>dsimp only[L2.La];refine' ⟨?a,?b,?c⟩;(case a|b|c=>k_is));refine⟨λn=>([0,?C1,?C2,0,?C4,?C5,?C6,?C7,?C8,?C9,?C10,?C11,?C12,?C13,?C14,?C15,?C16,?C17,?C18,0,0,0,0,0,0,0,0,0,0,0,?C30,?C31,?C32,?C33,?C34,0,0,0,?C38,?C39,0,0,0,?C43,?C44,?C45,0,0,0,0,0,0,0,0,0,?C55,?C56,?C57,?C58,?C59,0,0,0,0,0,0,0,0,0,0,0,0,0,0,?C74,?C75,0,?C77,?C78,?C79,?C80,?C81,0,0,0,0,0,?C87,0,0,0,0,0,0,0,0,0,?C97,0,0,?C100,?C101]:List Addr).getD n 0,?_⟩;exact K53.XQ ⟨h__law_cell_at,h_is_whole,h_is_between,h_is_hand,h_makes_a_pot,h_checked_pots,q19,h_whole_of,q21,q23,h_check_span,q25,q27,h_are_ties,h_are_shares,h_is_number,h_is_stand,h_stand,h_first,q29,h_first_account,q31,h_words_of,q33,h__law_pots,q35,q37,h_is_word,q39,q41,q43,q45,q47,q49,q51,q53,q55,h_is_given_up,q57,h_stands_told,h_ties_to,q59,q61,q63,q65,q67,h__law_next,q69,q71,h__law_right,q73,h__law_words_right,h_law,Ls,kq,En,Sg,Us,Ld,Ah,Ni,Ts,yn,Kq,Th,oi,pq,kf,Ag,Ug,Yf,wh,Qe,Qg,Tg,Vg,Bs KX G q0,q1,Bs KX G q2,q3,Bs KX G q4,q5,q74,q75,q76,q77,q78,q79,q80,q81,q82,q83,q84,q85,q86,q87,q88,q89,Bs KX G q7,q90,q91,q92,q93,q94,Bs KX G q10,q95,q96,q97,q98,q99,q100,q101,q102,q103,q104,q105,q106,q107,q108,q109,q110,q111,q112,q113,q114,q115,q116,q117,q118,q119,q120,q121,q122,q123,q124,q125,q126,q127,q128,q129,q130,q131,q132,q133,q134,q135,q136,q137,q138,q139,q140,q141,q142,q143,q144,q145,Bs KX G q12,q146,Bs KX G q16,q147,Bs KX G q17,q148,q149,q150,q151,q152,q153,q154,q155,q156,q157,q158,q159,q160,q161,q162,q163,q164,q165,q166,q167,q168⟩
